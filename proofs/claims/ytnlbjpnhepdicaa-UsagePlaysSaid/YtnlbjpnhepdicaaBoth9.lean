/- An act on the program's usage table and on the document's: both say the same. -/
import Derived.Test.YtnlbjpnhepdicaaRTouch
import Derived.Test.YtnlbjpnhepdicaaRCount
import Derived.Test.YtnlbjpnhepdicaaRRel
import Derived.Test.YtnlbjpnhepdicaaInts
import Derived.Test.YtnlbjpnhepdicaaROrder
namespace Go.Proofs.Ytnlbjpnhepdicaa
open Go.RowKit Go.Sort
set_option linter.unusedVariables false
set_option linter.unusedSimpArgs false
set_option maxRecDepth 100000

theorem touch_both {B : Nat} {w : World} {g gs : Nat} {room : Int} {us : List UseD} (h : IsTab B w g gs room us) (sg t : Int) (ht0 : 0 ≤ t) (ht1 : t < 4294967296) :
    ∃ us1 err, us1.length = us.length ∧ Calls Try.prog 84 #[.pointer (some ⟨g, 0, none⟩), .int .i64 sg, .int .u32 t] w (TabPost B w g gs room us1 (.int .i64 err)) ∧
      ∀ W gd cd, OwnsR' B W 46 3 (.slice (some ⟨gd, 0, none⟩) us.length cd) (usesV us) → B ≤ W.heap.size → Calls Try.prog 85 #[.agg #[.int .i64 room, .slice (some ⟨gd, 0, none⟩) us.length cd], .int .i64 sg, .int .u32 t] W (RStepPost B W room us1 err) := by
  have hlen := h.2.2.2.2.2.2.1
  by_cases hs : sg < 0 ∨ (us.length : Int) ≤ sg
  · exact ⟨us, 1, rfl, ttouch_no h sg t hs, fun W gd cd hd hB => rtouch_out hd hB sg hs t⟩
  · obtain ⟨i, rfl⟩ : ∃ i : Nat, sg = (i : Int) := ⟨sg.toNat, by omega⟩
    obtain ⟨u, hu⟩ : ∃ u, us[i]? = some u := ⟨_, List.getElem?_eq_getElem (by omega)⟩
    by_cases hgt : u.age < t
    · refine ⟨us.set i ⟨u.live, u.state, t⟩, 0, List.length_set, ?_, fun W gd cd hd hB => rtouch_gt hd hB hlen i u hu t hgt⟩
      have := ttouch_yes h i u hu t ht0 ht1
      rw [show max u.age t = t by omega] at this
      exact this
    · refine ⟨us.set i ⟨u.live, u.state, u.age⟩, 0, List.length_set, ?_, fun W gd cd hd hB => rtouch_le hd hB hlen i u hu t hgt⟩
      have := ttouch_yes h i u hu t ht0 ht1
      rw [show max u.age t = u.age by omega] at this
      exact this
theorem tset_bad {B : Nat} {w : World} {g gs : Nat} {room : Int} {us : List UseD} (h : IsTab B w g gs room us) (x s : Int) (hs : (x < 0 ∨ (us.length : Int) ≤ x) ∨ s < 0 ∨ 3 < s) :
    Calls Try.prog 56 #[.pointer (some ⟨g, 0, none⟩), .int .i64 x, .int .i64 s] w (TabPost B w g gs room us (.int .i64 1)) :=
  (tset_no h x s hs).mono (by rintro e w' ⟨rfl, rfl⟩; exact TabPost.same h)
theorem set_both {B : Nat} {w : World} {g gs : Nat} {room : Int} {us : List UseD} (h : IsTab B w g gs room us) (sg s : Int) :
    ∃ us1 err, us1.length = us.length ∧ Calls Try.prog 56 #[.pointer (some ⟨g, 0, none⟩), .int .i64 sg, .int .i64 s] w (TabPost B w g gs room us1 (.int .i64 err)) ∧
      ∀ W gd cd, OwnsR' B W 46 3 (.slice (some ⟨gd, 0, none⟩) us.length cd) (usesV us) → B ≤ W.heap.size → Calls Try.prog 86 #[.agg #[.int .i64 room, .slice (some ⟨gd, 0, none⟩) us.length cd], .int .i64 sg, .int .i64 s] W (RStepPost B W room us1 err) := by
  have hlen := h.2.2.2.2.2.2.1
  by_cases hs : sg < 0 ∨ (us.length : Int) ≤ sg
  · exact ⟨us, 1, rfl, tset_bad h sg s (.inl hs), fun W gd cd hd hB => rset_out hd hB sg hs s⟩
  · obtain ⟨i, rfl⟩ : ∃ i : Nat, sg = (i : Int) := ⟨sg.toNat, by omega⟩
    obtain ⟨u, hu⟩ : ∃ u, us[i]? = some u := ⟨_, List.getElem?_eq_getElem (by omega)⟩
    by_cases h0 : s < 0
    · exact ⟨us, 1, rfl, tset_bad h i s (.inr (.inl h0)), fun W gd cd hd hB => rset_neg hd hB i u hu s h0⟩
    · by_cases h3 : 3 < s
      · exact ⟨us, 1, rfl, tset_bad h i s (.inr (.inr h3)), fun W gd cd hd hB => rset_big hd hB i u hu s h0 h3⟩
      · exact ⟨us.set i ⟨u.live, s, u.age⟩, 0, List.length_set, tset_yes h i u hu s (by omega) (by omega), fun W gd cd hd hB => rset_yes hd hB hlen i u hu s (by omega) (by omega)⟩
theorem count_both {B : Nat} {w : World} {g gs : Nat} {room : Int} {us : List UseD} (h : IsTab B w g gs room us) (sg n : Int) :
    ∃ us1 err, us1.length = us.length ∧ Calls Try.prog 55 #[.pointer (some ⟨g, 0, none⟩), .int .i64 sg, .int .i64 n] w (TabPost B w g gs room us1 (.int .i64 err)) ∧
      ∀ W gd cd, OwnsR' B W 46 3 (.slice (some ⟨gd, 0, none⟩) us.length cd) (usesV us) → B ≤ W.heap.size → Calls Try.prog 83 #[.agg #[.int .i64 room, .slice (some ⟨gd, 0, none⟩) us.length cd], .int .i64 sg, .int .i64 n] W (RStepPost B W room us1 err) := by
  have hlen := h.2.2.2.2.2.2.1
  have hr1 := h.2.2.2.1
  have hr2 := h.2.2.2.2.1
  by_cases hs : sg < 0 ∨ (us.length : Int) ≤ sg
  · exact ⟨us, 1, rfl, tcount_no h sg n hs, fun W gd cd hd hB => rcount_out hd hB sg hs n⟩
  · obtain ⟨i, rfl⟩ : ∃ i : Nat, sg = (i : Int) := ⟨sg.toNat, by omega⟩
    obtain ⟨u, hu⟩ : ∃ u, us[i]? = some u := ⟨_, List.getElem?_eq_getElem (by omega)⟩
    have ho : UseOk room u := h.2.2.2.2.2.2.2 u (List.mem_of_getElem? hu)
    obtain ⟨o1, o2, _⟩ := ho
    by_cases f1 : 65535 < n
    · exact ⟨us, 1, rfl, tcount_off h i u hu n (.inr (by omega)), fun W gd cd hd hB => rcount_big hd hB i u hu n f1⟩
    · by_cases f2 : n < -65535
      · exact ⟨us, 1, rfl, tcount_off h i u hu n (.inl (by omega)), fun W gd cd hd hB => rcount_small hd hB i u hu n f1 f2⟩
      · have hw : IntKind.i64.wrap (u.live + n) = u.live + n := IntWalk.i64_in _ (by omega)
        by_cases c1 : u.live + n < 0
        · exact ⟨us, 1, rfl, tcount_off h i u hu n (.inl (by omega)), fun W gd cd hd hB => rcount_less hd hB i u hu n f1 f2 c1 hw⟩
        · by_cases c2 : room < u.live + n
          · exact ⟨us, 1, rfl, tcount_off h i u hu n (.inr (by omega)), fun W gd cd hd hB => rcount_more hd hB i u hu n f1 f2 c1 c2 hw⟩
          · exact ⟨us.set i ⟨u.live + n, u.state, u.age⟩, 0, List.length_set, tcount_yes h i u hu n (by omega) (by omega), fun W gd cd hd hB => rcount_yes hd hB hlen i u hu n f1 f2 c1 c2 hw⟩
theorem apartRR {B B' : Nat} {w : World} {e e' : TypeId} {k k' : Nat} {v v' : Value} {l l' : List (List Value)} (h : OwnsR' B w e k v l) (h' : OwnsR' B' w e' k' v' l') (hne : e ≠ e') : v.ownBlock = none ∨ v.ownBlock ≠ v'.ownBlock := by
  rcases h.2.2 with ⟨rfl, _⟩ | ⟨g, cap, cur, rfl, _, hg, _⟩
  · left; rfl
  · right
    rcases h'.2.2 with ⟨rfl, _⟩ | ⟨g', cap', cur', rfl, _, hg', _⟩
    · intro h; cases h
    · intro h
      obtain rfl : g = g' := by simpa [Value.ownBlock] using h
      rw [hg] at hg'
      simp at hg'
      exact hne hg'.2
structure ActD where
  kind : Int
  seg : Int
  n : Int
  time : Int
def BoxA (w : World) (p : Nat) (x : ActD) : Prop := w.heap[p]? = some (.cells #[.int .i64 x.kind, .int .i64 x.seg, .int .i64 x.n, .int .u32 x.time] 65 (0, 0))
theorem BoxA.cells {w : World} {p : Nat} {x : ActD} (h : BoxA w p x) : w.cell? ⟨p, 0, none⟩ = some (.int .i64 x.kind) ∧ w.cell? ⟨p, 1, none⟩ = some (.int .i64 x.seg) ∧ w.cell? ⟨p, 2, none⟩ = some (.int .i64 x.n) ∧ w.cell? ⟨p, 3, none⟩ = some (.int .u32 x.time) ∧ p < w.heap.size := by
  unfold BoxA at h
  refine ⟨?_, ?_, ?_, ?_, (Array.getElem?_eq_some_iff.1 h).1⟩ <;> (unfold World.cell?; rw [h]; rfl)
theorem BoxA.below {w w' : World} {p : Nat} {x : ActD} (h : BoxA w p x) (b : Below w.heap.size w w') : BoxA w' p x := (b.block p h.cells.2.2.2.2).trans h
theorem BoxA.kept {w w' : World} {p : Nat} {x : ActD} (h : BoxA w p x) {row : Option Nat} (hg : w.grownBy w' row) (hne : some p ≠ row) : BoxA w' p x := (hg.block p h.cells.2.2.2.2 hne).trans h
def doW (w : World) (room : Int) (s : Value) (x : ActD) : World :=
  ((w.alloc (.cells #[.int .i64 room, s] 59)).alloc (.cells #[.int .i64 x.kind, .int .i64 x.seg, .int .i64 x.n, .int .u32 x.time] 65)).alloc (.cells #[.int .i64 0, .slice none 0 0] 59)
theorem doW_facts (w : World) (room : Int) (s : Value) (x : ActD) : BoxP (doW w room s x) w.heap.size room s ∧ BoxA (doW w room s x) (w.heap.size + 1) x ∧ BoxP (doW w room s x) (w.heap.size + 1 + 1) 0 (.slice none 0 0) ∧ Below w.heap.size w (doW w room s x) ∧ (doW w room s x).heap.size = w.heap.size + 3 := by
  unfold doW
  refine ⟨?_, ?_, ?_, ?_, ?_⟩
  · unfold BoxP
    rw [Below.heap_alloc _ _ _ (by simp <;> omega), Below.heap_alloc _ _ _ (by simp <;> omega)]
    exact heap_alloc_new w _
  · unfold BoxA
    rw [Below.heap_alloc _ _ _ (by simp <;> omega)]
    have := heap_alloc_new (w.alloc (.cells #[.int .i64 room, s] 59)) (.cells #[.int .i64 x.kind, .int .i64 x.seg, .int .i64 x.n, .int .u32 x.time] 65)
    rw [World.size_alloc] at this
    exact this
  · unfold BoxP
    have := heap_alloc_new ((w.alloc (.cells #[.int .i64 room, s] 59)).alloc (.cells #[.int .i64 x.kind, .int .i64 x.seg, .int .i64 x.n, .int .u32 x.time] 65)) (.cells #[.int .i64 0, .slice none 0 0] 59)
    rw [World.size_alloc, World.size_alloc] at this
    exact this
  · exact (((Below.refl _ _).alloc (Nat.le_refl _) _).alloc (by simp) _).alloc (by simp <;> omega) _
  · simp
/-- What 'do' leaves. -/
def DoPost (B : Nat) (w : World) (g gs : Nat) (room : Int) (n : Nat) (e : Ending) (w' : World) : Prop :=
  ∃ us g' c, us.length = n ∧ e = .returned (.tuple #[.agg #[.int .i64 room, .slice (some ⟨g', 0, none⟩) n c], .bool true]) ∧ IsTab B w' g gs room us ∧ OwnsR' B w' 46 3 (.slice (some ⟨g', 0, none⟩) n c) (usesV us) ∧ w.grownBy w' (some gs)
end Go.Proofs.Ytnlbjpnhepdicaa
