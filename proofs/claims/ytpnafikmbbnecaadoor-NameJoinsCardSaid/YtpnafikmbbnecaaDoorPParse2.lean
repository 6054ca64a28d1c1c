/- A path parsed, by the program's walk: its parts. -/
import Derived.Test.YtpnafikmbbnecaaDoorPParse
import Derived.RegionTactic
namespace Go.Proofs.YtpnafikmbbnecaaDoor
open Go.RowKit Go.Sort
set_option linter.unusedVariables false
set_option linter.unusedSimpArgs false
set_option maxRecDepth 100000

def pAbs (l : Bs) : Bool := if parseE l = 0 then absB l else false
def pDir (l : Bs) : Bool := if parseE l = 0 then dirB l else false
def pParts (l : Bs) : List Bs := if parseE l = 0 then partsOf l else []
/-- What a call leaves that answers a path and its error. -/
def ParsePost (l : Bs) (w : World) (e : Ending) (w' : World) : Prop :=
  ∃ v, e = .returned (.tuple #[.agg #[.bool (pAbs l), .bool (pDir l), v], .int .i64 (parseE l)]) ∧ OwnsV w.heap.size w' 9 v (strsV (pParts l)) ∧ Below w.heap.size w w'
theorem parse_no {l : Bs} (h : parseE l ≠ 0) : pAbs l = false ∧ pDir l = false ∧ pParts l = [] := ⟨if_neg h, if_neg h, if_neg h⟩
theorem parse_yes {l : Bs} (h : parseE l = 0) : pAbs l = absB l ∧ pDir l = dirB l ∧ pParts l = partsOf l := ⟨if_pos h, if_pos h, if_pos h⟩
theorem fin_no {l : Bs} {w w' : World} {x : Int} (h : parseE l = x) (hx : x ≠ 0) (hb : Below w.heap.size w w') : ParsePost l w (.returned (.tuple #[.agg #[.bool false, .bool false, .slice none 0 0], .int .i64 x])) w' := by
  have h0 : parseE l ≠ 0 := by rw [h]; exact hx
  obtain ⟨h1, h2, h3⟩ := parse_no h0
  exact ⟨_, by rw [h1, h2, h], by rw [h3]; exact OwnsV.nil _ _ _, hb⟩
theorem fin_yes {l : Bs} {w w' : World} {ab di : Bool} {v : Value} (h : parseE l = 0) (ha : absB l = ab) (hd : dirB l = di) (ho : OwnsV w.heap.size w' 9 v (strsV (partsOf l))) (hb : Below w.heap.size w w') :
    ParsePost l w (.returned (.tuple #[.agg #[.bool ab, .bool di, v], .int .i64 0])) w' := by
  obtain ⟨h1, h2, h3⟩ := parse_yes h
  exact ⟨_, by rw [h1, h2, h, ha, hd], by rw [h3]; exact ho, hb⟩

set_option maxHeartbeats 1600000 in
theorem pparse_refused (s : ByteArray) (w : World) (h : refE s.data.toList ≠ 0) : Calls Tryd.prog 5 #[.string s] w (ParsePost s.data.toList w) := by
  have E := refE_bad h
  obtain ⟨x, hx⟩ : ∃ x, refE s.data.toList = x := ⟨_, rfl⟩
  rw [hx] at E h
  have HE := Lib.hid E
  have HX := Lib.hid hx
  have HNE := Lib.hid h
  have hb : (x != 0) = true := by simp [h]
  clear E hx h
  go_enter Tryd.func5, Tryd.ntmps5
  go_wp2_with fail
  refine (refusal_is s _).mono ?_
  rintro e w' ⟨rfl, rfl⟩
  rw [HX.out]
  go_wp2
  refine bodyPost_ret (v := .tuple #[.agg #[.bool false, .bool false, .slice none 0 0], .int .i64 x]) (by simp [results, Tryd.results5, go_sem]) rfl (fin_no HE.out HNE.out ?_)
  exact below_box w _

theorem hasPrefix_abs (l : Bs) : Lib.hasPrefix l [47] = absB l := by
  unfold Lib.hasPrefix absB
  cases l with
  | nil => rfl
  | cons c l =>
    simp only [List.isPrefixOf, List.head?_cons, Bool.and_true]
    by_cases h : c = 47
    · subst h; rfl
    · have h2 : ¬ (47 : UInt8) = c := fun e => h e.symm
      have a1 : ((47 : UInt8) == c) = false := by simp [h2]
      have a2 : (some c == some (47 : UInt8)) = false := by simp [h]
      rw [a1, a2]
/-- Where the loop over the pieces stands. -/
def InLoop (T : TypeId) (w1 wr : World) (ab di : Bool) (v : Value) (D : List Bs) : Prop :=
  wr.heap[w1.heap.size]? = some (.cells #[.bool ab, .bool di, v] T (0, 0)) ∧ OwnsV (w1.heap.size + 1) wr 9 v (strsV (keepL D)) ∧ Below w1.heap.size w1 wr ∧ ∀ p ∈ keepL D, p.length ≤ 26
theorem inLoop_start (T : TypeId) (w1 : World) (ab di : Bool) : InLoop T w1 (w1.alloc (.cells #[.bool ab, .bool di, .slice none 0 0] T)) ab di (.slice none 0 0) [] :=
  ⟨heap_alloc_new w1 _, OwnsV.nil _ _ _, below_box w1 _, by simp [keepL]⟩
theorem inLoop_below {T : TypeId} {w1 wr w2 : World} {ab di : Bool} {v : Value} {D : List Bs} (h : InLoop T w1 wr ab di v D) (b : Below wr.heap.size wr w2) : InLoop T w1 w2 ab di v D := by
  obtain ⟨h1, h2, h3, h4⟩ := h
  exact ⟨by rw [b.block _ (Array.getElem?_eq_some_iff.1 h1).1]; exact h1, h2.below b, h3.trans (b.mono h3.size), h4⟩
theorem inLoop_skip {T : TypeId} {w1 wr : World} {ab di : Bool} {v : Value} {D : List Bs} {p : Bs} (h : InLoop T w1 wr ab di v D) (hp : keptB p = false) : InLoop T w1 wr ab di v (D ++ [p]) := by
  obtain ⟨h1, h2, h3, h4⟩ := h
  unfold InLoop
  rw [keepL_snoc_no hp]
  exact ⟨h1, h2, h3, h4⟩
theorem inLoop_add {T : TypeId} {w1 wr w' : World} {ab di : Bool} {v v' : Value} {D : List Bs} {p : Bs} (h : InLoop T w1 wr ab di v D) (hp : keptB p = true) (h26 : p.length ≤ 26) (ho : OwnsV (w1.heap.size + 1) w' 9 v' (strsV (keepL D) ++ strsV [p])) (hg : wr.grownBy w' v.ownBlock) :
    InLoop T w1 (w'.setCell ⟨w1.heap.size, 2, none⟩ v') ab di v' (D ++ [p]) := by
  obtain ⟨h1, h2, h3, h4⟩ := h
  have hlt := (Array.getElem?_eq_some_iff.1 h1).1
  have hne : some w1.heap.size ≠ v.ownBlock := fun e => by have := (h2.lt _ e.symm).1; omega
  have hb : w'.heap[w1.heap.size]? = some (.cells #[.bool ab, .bool di, v] T (0, 0)) := by rw [hg.block _ hlt hne]; exact h1
  refine ⟨?_, ?_, ?_, ?_⟩
  · have := heap_setCell_same w' w1.heap.size 2 #[.bool ab, .bool di, v] T v' hb
    simpa using this
  · rw [keepL_snoc_yes hp, strsV_append]
    refine ho.kept (row := some w1.heap.size) ⟨rfl, rfl, rfl, by simp, fun k _ hk => heap_setCell_other w' ⟨w1.heap.size, 2, none⟩ k v' (fun e => hk (by simp [e]))⟩ (.inr fun e => ?_)
    have := (ho.lt _ e).1
    omega
  · refine Below.setCell (h3.grown hg h3.size fun k hk => ?_) (Nat.le_refl _) _
    have := (h2.lt k hk).1
    omega
  · rw [keepL_snoc_yes hp]
    intro q hq
    rcases List.mem_append.1 hq with hq | hq
    · exact h4 q hq
    · simp at hq; subst hq; exact h26
/-- A box of three cells, written over: what it reads. -/
theorem box_over {w : World} {g : Nat} {x y z : Value} {T : TypeId} (h : w.heap[g]? = some (.cells #[x, y, z] T (0, 0))) (a b c : Value) :
    (w.setCell ⟨g, 0, none⟩ a).cell? ⟨g, 0, none⟩ = some a ∧ ((w.setCell ⟨g, 0, none⟩ a).setCell ⟨g, 1, none⟩ b).cell? ⟨g, 1, none⟩ = some b ∧ (((w.setCell ⟨g, 0, none⟩ a).setCell ⟨g, 1, none⟩ b).setCell ⟨g, 2, none⟩ c).cell? ⟨g, 2, none⟩ = some c := by
  have h0 := heap_setCell_same w g 0 #[x, y, z] T a h
  have h1 := heap_setCell_same _ g 1 _ T b h0
  have h2 := heap_setCell_same _ g 2 _ T c h1
  refine ⟨?_, ?_, ?_⟩
  · unfold World.cell?; rw [h0]; simp
  · unfold World.cell?; rw [h1]; simp
  · unfold World.cell?; rw [h2]; simp
theorem below_over {w0 w : World} {B g : Nat} (h : Below B w0 w) (hg : B ≤ g) (a b c : Value) : Below B w0 (((w.setCell ⟨g, 0, none⟩ a).setCell ⟨g, 1, none⟩ b).setCell ⟨g, 2, none⟩ c) :=
  ((h.setCell hg _).setCell hg _).setCell hg _
theorem row_grown {T : TypeId} {w1 wr w' : World} {ab di : Bool} {v : Value} {D : List Bs} (h : InLoop T w1 wr ab di v D) (hg : wr.grownBy w' v.ownBlock) : w'.heap[w1.heap.size]? = some (.cells #[.bool ab, .bool di, v] T (0, 0)) := by
  obtain ⟨h1, h2, _⟩ := h
  rw [hg.block _ (Array.getElem?_eq_some_iff.1 h1).1 (fun e => by have := (h2.lt _ e.symm).1; omega)]
  exact h1
theorem owns_over {B : Nat} {w : World} {e : TypeId} {v : Value} {L : List Value} (h : OwnsV B w e v L) {g : Nat} (hg : g < B) (a b c : Value) : OwnsV B (((w.setCell ⟨g, 0, none⟩ a).setCell ⟨g, 1, none⟩ b).setCell ⟨g, 2, none⟩ c) e v L := by
  have one : ∀ (W : World) (k : Nat) (u : Value), OwnsV B W e v L → OwnsV B (W.setCell ⟨g, k, none⟩ u) e v L := fun W k u hh =>
    hh.kept (row := some g) ⟨rfl, rfl, rfl, by simp, fun i _ hi => heap_setCell_other W ⟨g, k, none⟩ i u (fun e => hi (by simp [e]))⟩ (.inr fun e => by have := (hh.lt _ e).1; omega)
  exact one _ _ _ (one _ _ _ (one _ _ _ h))
end Go.Proofs.YtpnafikmbbnecaaDoor
