/- Both tables of DrumlinTables: how many blocks are live, and where; plain facts. Maps from int to int of a call's own: which keys they have, and what they hold. The inode map: numbers that aren't given; Release; Alloc where none is free. Both tables and the map of places, side by side: what each step keeps. The inode map: may, Set, Load, Slots; the law's Slot, Told; the document's May. -/
import Derived.Test.YtgakidimipipeaaGcfbibdna
import Derived.Test.YtgakidimipipeaaGdhnnkina
import Derived.Maps.OwnSet
import Derived.Maps.OwnOps
import Derived.Maps.RangeWalk
import Derived.WalkArith
import Derived.BigFrame
import Derived.Test.YtgakidimipipeaaGplgdgmee
import Derived.Deep.QuietTactic
import Derived.BigQuiet
namespace Go.Proofs.Ytgakidimipipeaa
open Go.RowKit Go.Sort
set_option linter.unusedVariables false
set_option linter.unusedSimpArgs false

def usedIn (seg : Nat) (s : SlotD) : Bool := !(s.kind == 0) && (s.place == 100 + (seg : Int))
def cntIn (sl : List SlotD) (seg : Nat) : Nat := sl.countP (usedIn seg)
def whereAt (sl : List SlotD) (k : Int) : Int := if 1 ≤ k then (match sl[(k - 1).toNat]? with | some s => if s.kind == 0 then 0 else s.place - 100 | none => 0) else 0
structure TInv (sl : List SlotD) (us : List UseD) : Prop where
  len : us.length = 9
  place : ∀ s ∈ sl, (s.kind == 0) = false → ∃ seg : Nat, seg < 9 ∧ s.place = 100 + (seg : Int)
  live : ∀ (seg : Nat) (u : UseD), us[seg]? = some u → u.live = (cntIn sl seg : Int)
theorem whereAt_of {sl : List SlotD} {i : Nat} {s : SlotD} (h : sl[i]? = some s) : whereAt sl ((i : Int) + 1) = if s.kind == 0 then 0 else s.place - 100 := by
  unfold whereAt
  have e : ((i : Int) + 1 - 1).toNat = i := by omega
  rw [if_pos (by omega), e, h]
theorem whereAt_set {sl : List SlotD} {i : Nat} (hi : i < sl.length) (s' : SlotD) (k : Int) : whereAt (sl.set i s') k = if k = (i : Int) + 1 then (if s'.kind == 0 then 0 else s'.place - 100) else whereAt sl k := by
  by_cases e : k = (i : Int) + 1
  · subst e
    rw [if_pos rfl, whereAt_of (List.getElem?_set_self hi)]
  · rw [if_neg e]
    unfold whereAt
    by_cases h1 : 1 ≤ k
    · rw [if_pos h1, if_pos h1, List.getElem?_set_ne (by omega)]
    · rw [if_neg h1, if_neg h1]
theorem cntIn_set {sl : List SlotD} {i : Nat} {s : SlotD} (h : sl[i]? = some s) (s' : SlotD) (seg : Nat) :
    cntIn (sl.set i s') seg + (if usedIn seg s = true then 1 else 0) = cntIn sl seg + (if usedIn seg s' = true then 1 else 0) := by
  obtain ⟨hi, e⟩ := List.getElem?_eq_some_iff.1 h
  unfold cntIn
  rw [List.countP_set hi, e]
  have : (if usedIn seg s = true then 1 else 0) ≤ sl.countP (usedIn seg) := by
    split
    · rename_i hp
      exact List.countP_pos_iff.2 ⟨s, List.mem_of_getElem? h, hp⟩
    · exact Nat.zero_le _
  omega
theorem usedIn_free {s : SlotD} (h : (s.kind == 0) = true) (seg : Nat) : usedIn seg s = false := by unfold usedIn; rw [h]; rfl
theorem usedIn_at {s : SlotD} (h : (s.kind == 0) = false) {seg : Nat} (hp : s.place = 100 + (seg : Int)) (g : Nat) : usedIn g s = decide (g = seg) := by
  unfold usedIn
  rw [h, hp]
  by_cases e : g = seg
  · subst e; simp
  · simp [e]; omega
theorem cntIn_le (sl : List SlotD) (seg : Nat) : cntIn sl seg ≤ sl.length := List.countP_le_length
theorem cntIn_pos {sl : List SlotD} {i : Nat} {s : SlotD} (h : sl[i]? = some s) {seg : Nat} (hu : usedIn seg s = true) : 1 ≤ cntIn sl seg := List.countP_pos_iff.2 ⟨s, List.mem_of_getElem? h, hu⟩
/-- A number is given, and its block stands in a segment. -/
theorem TInv.give {sl : List SlotD} {us : List UseD} (h : TInv sl us) {i seg : Nat} {s s' : SlotD} {u u' : UseD} (hs : sl[i]? = some s) (hf : (s.kind == 0) = true) (hk : (s'.kind == 0) = false) (hseg : seg < 9) (hp : s'.place = 100 + (seg : Int)) (hu : us[seg]? = some u) (hl : u'.live = u.live + 1) : TInv (sl.set i s') (us.set seg u') := by
  obtain ⟨h1, h2, h3⟩ := h
  refine ⟨by rw [List.length_set]; exact h1, ?_, ?_⟩
  · intro x hx hxk
    rcases List.mem_or_eq_of_mem_set hx with hx | rfl
    · exact h2 x hx hxk
    · exact ⟨seg, hseg, hp⟩
  · intro g x hx
    have hc := cntIn_set hs s' g
    rw [usedIn_free hf, usedIn_at hk hp] at hc
    by_cases e : seg = g
    · subst e
      rw [List.getElem?_set_self (by omega)] at hx
      cases hx
      rw [hl, h3 seg u hu]
      simp at hc
      omega
    · rw [List.getElem?_set_ne e] at hx
      rw [h3 g x hx]
      simp [Ne.symm e] at hc
      omega
/-- A number is freed. -/
theorem TInv.free {sl : List SlotD} {us : List UseD} (h : TInv sl us) {i seg : Nat} {s s' : SlotD} {u u' : UseD} (hs : sl[i]? = some s) (hf : (s.kind == 0) = false) (hk : (s'.kind == 0) = true) (hp : s.place = 100 + (seg : Int)) (hu : us[seg]? = some u) (hl : u'.live = u.live - 1) : TInv (sl.set i s') (us.set seg u') := by
  obtain ⟨h1, h2, h3⟩ := h
  have hi := (List.getElem?_eq_some_iff.1 hu).1
  refine ⟨by rw [List.length_set]; exact h1, ?_, ?_⟩
  · intro x hx hxk
    rcases List.mem_or_eq_of_mem_set hx with hx | rfl
    · exact h2 x hx hxk
    · rw [hk] at hxk; cases hxk
  · intro g x hx
    have hc := cntIn_set hs s' g
    rw [usedIn_free hk, usedIn_at hf hp] at hc
    by_cases e : seg = g
    · subst e
      rw [List.getElem?_set_self hi] at hx
      cases hx
      rw [hl, h3 seg u hu]
      simp at hc
      omega
    · rw [List.getElem?_set_ne e] at hx
      rw [h3 g x hx]
      simp [Ne.symm e] at hc
      omega
/-- Other states change nothing of it. -/
theorem TInv.state {sl : List SlotD} {us : List UseD} (h : TInv sl us) {seg : Nat} {u u' : UseD} (hu : us[seg]? = some u) (hl : u'.live = u.live) : TInv sl (us.set seg u') := by
  obtain ⟨h1, h2, h3⟩ := h
  have hi := (List.getElem?_eq_some_iff.1 hu).1
  refine ⟨by rw [List.length_set]; exact h1, h2, ?_⟩
  intro g x hx
  by_cases e : seg = g
  · subst e
    rw [List.getElem?_set_self hi] at hx
    cases hx
    rw [hl, h3 seg u hu]
  · rw [List.getElem?_set_ne e] at hx
    exact h3 g x hx
theorem wipe_inv {sl : List SlotD} : ∀ (L : List Nat) {us : List UseD}, TInv sl us → (∀ k ∈ L, ∃ u, us[k]? = some u ∧ u.live = 0) → TInv sl (wipe us L)
  | [], us, h, _ => h
  | k :: L, us, h, hL => by
    obtain ⟨u, hu, hl⟩ := hL k (List.mem_cons_self ..)
    have h' : TInv sl (us.set k zeroU) := h.state hu (by rw [hl]; rfl)
    refine wipe_inv L h' ?_
    intro j hj
    obtain ⟨v, hv, hvl⟩ := hL j (List.mem_cons_of_mem _ hj)
    by_cases e : k = j
    · subst e
      exact ⟨zeroU, List.getElem?_set_self (List.getElem?_eq_some_iff.1 hu).1, rfl⟩
    · exact ⟨v, by rw [List.getElem?_set_ne e]; exact hv, hvl⟩
theorem idle_live {us : List UseD} {k : Nat} (h : k ∈ idleL us) : ∃ u, us[k]? = some u ∧ u.live = 0 := by
  unfold idleL placesL at h
  rw [List.mem_filter] at h
  obtain ⟨_, h⟩ := h
  split at h
  · rename_i u hu
    refine ⟨u, hu, ?_⟩
    unfold idleU at h
    simp at h
    exact h.2
  · cases h
theorem TInv.released {sl : List SlotD} {us : List UseD} (h : TInv sl us) : TInv sl (wipe us (idleL us)) := wipe_inv _ h fun k hk => idle_live hk
theorem cnt_all : ∀ (sl : List SlotD), (∀ s ∈ sl, (s.kind == 0) = false → ∃ seg : Nat, seg < 9 ∧ s.place = 100 + (seg : Int)) →
    cntIn sl 0 + cntIn sl 1 + cntIn sl 2 + cntIn sl 3 + cntIn sl 4 + cntIn sl 5 + cntIn sl 6 + cntIn sl 7 + cntIn sl 8 = (usedI sl).length
  | [], _ => by rw [usedI_count]; rfl
  | s :: l, h => by
    have ih := cnt_all l fun x hx => h x (List.mem_cons_of_mem _ hx)
    rw [usedI_count] at ih ⊢
    have hc : ∀ g, cntIn (s :: l) g = cntIn l g + if usedIn g s = true then 1 else 0 := fun g => List.countP_cons
    rw [hc, hc, hc, hc, hc, hc, hc, hc, hc, List.countP_cons]
    cases hk : (s.kind == 0) with
    | true =>
      simp only [usedIn_free hk, Bool.not_true]
      simp
      omega
    | false =>
      obtain ⟨seg, hs, hp⟩ := h s (List.mem_cons_self ..) hk
      simp only [usedIn_at hk hp, Bool.not_false]
      have h9 : seg = 0 ∨ seg = 1 ∨ seg = 2 ∨ seg = 3 ∨ seg = 4 ∨ seg = 5 ∨ seg = 6 ∨ seg = 7 ∨ seg = 8 := by omega
      rcases h9 with rfl | rfl | rfl | rfl | rfl | rfl | rfl | rfl | rfl <;> simp <;> omega
/-- As many blocks are live as numbers are given. -/
theorem TInv.total {sl : List SlotD} {us : List UseD} (h : TInv sl us) : liveTo us us.length = ((usedI sl).length : Int) := by
  have hc := cnt_all sl h.place
  obtain ⟨h1, _, h3⟩ := h
  match us, h1 with
  | [a, b, c, d, e, f, g, i, j], _ =>
    have k0 := h3 0 a rfl
    have k1 := h3 1 b rfl
    have k2 := h3 2 c rfl
    have k3 := h3 3 d rfl
    have k4 := h3 4 e rfl
    have k5 := h3 5 f rfl
    have k6 := h3 6 g rfl
    have k7 := h3 7 i rfl
    have k8 := h3 8 j rfl
    unfold liveTo
    simp only [List.length_cons, List.length_nil, List.take_succ_cons, List.take_nil, List.map_cons, List.map_nil, List.sum_cons, List.sum_nil, List.take_zero]
    omega
theorem TInv.start (m : Nat) : TInv (List.replicate m zeroS) (List.replicate 9 zeroU) := by
  refine ⟨rfl, ?_, ?_⟩
  · intro s hs hk
    rw [List.eq_of_mem_replicate hs] at hk
    cases hk
  · intro seg u hu
    have := List.eq_of_mem_replicate (List.mem_of_getElem? hu)
    subst this
    have : cntIn (List.replicate m zeroS) seg = 0 := by
      unfold cntIn
      rw [List.countP_eq_zero]
      intro s hs
      rw [List.eq_of_mem_replicate hs]
      simp [usedIn, zeroS]
    rw [this]
    rfl
theorem whereAt_start (m : Nat) (k : Int) : whereAt (List.replicate m zeroS) k = 0 := by
  unfold whereAt
  split
  · split
    · rename_i s h
      rw [List.eq_of_mem_replicate (List.mem_of_getElem? h)]
      rfl
    · rfl
  · rfl
theorem turn_mod (x : Int) (m : Nat) (hm : 0 < m) : ∃ i : Nat, Int.tmod (Int.tmod x m + m) m = (i : Int) ∧ i < m ∧ -(m : Int) < Int.tmod x m ∧ Int.tmod x m < m := by
  have h1 : -(m : Int) < Int.tmod x m := Int.lt_tmod_of_pos x (by omega)
  have h2 : Int.tmod x m < m := Int.tmod_lt_of_pos x (by omega)
  have h4 := Int.tmod_nonneg (m : Int) (show 0 ≤ Int.tmod x m + m by omega)
  have h5 := Int.tmod_lt_of_pos (Int.tmod x m + m) (show (0 : Int) < m by omega)
  exact ⟨(Int.tmod (Int.tmod x m + m) m).toNat, by omega, by omega, h1, h2⟩
end Go.Proofs.Ytgakidimipipeaa

namespace Go.Proofs.Ytgakidimipipeaa
open Go.RowKit Go.Sort
open Go.Maps (Keyed int_keyed keyOf_int_mk)
set_option linter.unusedVariables false
set_option linter.unusedSimpArgs false
set_option maxRecDepth 100000

theorem lawQ : Keyed Try.prog 3 := int_keyed Try.underlying3
theorem zeroQ (w : World) : (zeroValue 3).run Try.prog w = .ok (.int .i64 0) w := by kernel_rfl
theorem keyQ {k : Int} (h : I64 k) : keyOf Try.prog 3 (.int .i64 k) = some (.int .i64 k) := keyOf_int_mk Try.underlying3 (WalkArith.wf_i64 h)
theorem litQ_ne {k j : Int} (h : j ≠ k) : (Lit.int .i64 j) ≠ Lit.int .i64 k := by intro e; injection e with _ e; exact h e
abbrev OMapQ (w : World) (b n : Nat) (D : DataW Unit) : Prop := w.ownsMap Try.prog 3 (plainElem Try.prog 3) b n D
/-- What a map reads as: so many entries, just these keys, these numbers, and 0 where there is none. -/
def ReadsQ (D : DataW Unit) (sz : Nat) (p : Int → Bool) (F : Int → Int) : Prop :=
  Maps.size D = sz ∧ ∀ k, I64 k → Maps.has D (.int .i64 k) = p k ∧ D.atKey (.int .i64 k) (.lit (.int .i64 0)) = .lit (.int .i64 (F k))
def IsWh (B : Nat) (w : World) (b n sz : Nat) (p : Int → Bool) (F : Int → Int) : Prop := B ≤ b ∧ ∃ D : DataW Unit, OMapQ w b n D ∧ ReadsQ D sz p F
theorem belowQ_grown {w w' : World} (h : Below w.heap.size w w') : w.grownBy w' none := ⟨h.os, h.tape, h.output, h.size, fun k hk _ => h.block k hk⟩
theorem IsWh.kept {B : Nat} {w w' : World} {b n sz : Nat} {p : Int → Bool} {F : Int → Int} {row : Option Nat} (h : IsWh B w b n sz p F) (hg : w.grownBy w' row) (hne : some b ≠ row) : IsWh B w' b n sz p F := by
  obtain ⟨h0, D, h1, h2⟩ := h
  exact ⟨h0, D, h1.kept hg hne, h2⟩
theorem IsWh.below {B : Nat} {w w' : World} {b n sz : Nat} {p : Int → Bool} {F : Int → Int} (h : IsWh B w b n sz p F) (hb : Below w.heap.size w w') : IsWh B w' b n sz p F := h.kept (belowQ_grown hb) (by simp)
theorem IsWh.lt {B : Nat} {w : World} {b n sz : Nat} {p : Int → Bool} {F : Int → Int} (h : IsWh B w b n sz p F) : b < w.heap.size := by obtain ⟨_, D, h1, _⟩ := h; exact h1.lt
theorem IsWh.same {B : Nat} {w : World} {b n n' sz sz' : Nat} {p p' : Int → Bool} {F F' : Int → Int} (h : IsWh B w b n sz p F) (hn : n ≤ n') (hs : sz = sz') (hp : ∀ k, I64 k → p k = p' k) (hF : ∀ k, I64 k → F k = F' k) : IsWh B w b n' sz' p' F' := by
  obtain ⟨h0, D, h1, h2, h3⟩ := h
  exact ⟨h0, D, h1.mono hn, h2.trans hs, fun k hk => ⟨(h3 k hk).1.trans (hp k hk), by rw [(h3 k hk).2, hF k hk]⟩⟩
/-- Such a map's block holds no cells. -/
theorem IsWh.ne {B : Nat} {w : World} {b n sz g : Nat} {p : Int → Bool} {F : Int → Int} (h : IsWh B w b n sz p F) {cs : Array Value} {t : TypeId} {fr : Nat × Nat} (hg : w.heap[g]? = some (.cells cs t fr)) : b ≠ g := by
  obtain ⟨_, D, ⟨es, cl, hb, _⟩, _⟩ := h
  rintro rfl
  rw [hb] at hg
  cases hg
theorem wh_new {B : Nat} (w : World) (hB : B ≤ w.heap.size) : IsWh B (w.alloc (.map #[] 0)) w.heap.size 0 0 (fun _ => false) (fun _ => 0) :=
  ⟨hB, _, World.ownsMap_made w Try.prog 3 _, rfl, fun k hk => ⟨rfl, rfl⟩⟩
section
variable {w : World} {ops : Array Oper} {rest : List Oper} {o : Oper} {a : Act} {Q : Exit → Act → World → Prop} {B b n sz : Nat}
theorem wpList_wh_look {p : Int → Bool} {F : Int → Int} (hw : Region.wanted o (yielded ops a.tmps) = true) (m x : Operand) (hop : o.op = Op.lookup 50 m x false) (h : IsWh B w b n sz p F) (hm : a.eval m = .map (some b)) (k : Int) (hk : I64 k) (hx : a.eval x = .int .i64 k)
    (hK : wpList Try.prog ops Q rest (a.put o.dst (.int .i64 (F k))) w) : wpList Try.prog ops Q (o :: rest) a w := by
  obtain ⟨h0, D, h1, h2, h3⟩ := h
  obtain ⟨c, hrun, hc, _⟩ := h1.lookup_int lawQ Try.underlying50 Try.underlying3 (zeroQ _) (keyQ hk)
  rw [(h3 k hk).2] at hc
  injection hc with hc
  injection hc with _ hc
  subst hc
  refine BigFrame.wpList_want hw fun K' hK' => ?_
  unfold Oper.wp
  simp [execOp, hop, hm, hx, hrun, Result.andThen]
  exact hK' _ _ hK
theorem wpList_wh_del {p : Int → Bool} {F : Int → Int} (hg : o.guard = none) (m x : Operand) (hop : o.op = Op.call { callee := Callee.builtin Builtin.delete, args := #[m, x], argTypes := #[50, 3] }) (h : IsWh B w b n sz p F) (hm : a.eval m = .map (some b)) (k : Int) (hk : I64 k) (hx : a.eval x = .int .i64 k)
    (hK : ∀ w', IsWh B w' b n (if p k then sz - 1 else sz) (fun j => p j && !decide (j = k)) (fun j => if j = k then 0 else F j) → w.grownBy w' (some b) → wpList Try.prog ops Q rest (a.put o.dst (.tuple #[])) w') : wpList Try.prog ops Q (o :: rest) a w := by
  obtain ⟨h0, D, h1, h2, h3⟩ := h
  refine wpList_delete_own w hg m x _ _ hop _ lawQ Try.underlying50 _ b n D hm h1 _ _ hx (keyQ hk) fun w' g1 g2 => hK w' ⟨h0, _, g1, ?_, fun j hj => ⟨?_, ?_⟩⟩ g2.grown
  · have hs := Maps.size_del (h1.tidy lawQ) (k := .int .i64 k)
    rw [(h3 k hk).1, h2] at hs
    cases hp : p k
    · rw [hp] at hs; simpa using hs
    · rw [hp] at hs; simp at hs ⊢; omega
  · by_cases e : j = k
    · subst e
      rw [Maps.has_del_same]
      simp
    · rw [Maps.has_del_other (litQ_ne e), (h3 j hj).1]
      simp [e]
  · by_cases e : j = k
    · subst e
      rw [Maps.atKey_del_same]
      simp
    · rw [Maps.atKey_del_other (litQ_ne e), (h3 j hj).2]
      simp [e]
theorem wpList_wh_len {p : Int → Bool} {F : Int → Int} (hw : Region.wanted o (yielded ops a.tmps) = true) (m : Operand) (hop : o.op = Op.call { callee := Callee.builtin Builtin.len, args := #[m], argTypes := #[50] }) (h : IsWh B w b n sz p F) (hm : a.eval m = .map (some b))
    (hK : wpList Try.prog ops Q rest (a.put o.dst (.int .i64 (sz : Nat))) w) : wpList Try.prog ops Q (o :: rest) a w := by
  obtain ⟨h0, D, h1, h2, h3⟩ := h
  refine BigFrame.wpList_want hw fun K' hK' => ?_
  unfold Oper.wp
  simp [execOp, hop, resolve, invoke, builtin, hm, h1.len Try.underlying50 o.type, Result.andThen]
  rw [h2]
  exact hK' _ _ hK
theorem wpList_wh_put {p : Int → Bool} {F : Int → Int} (hg : o.guard = none) (m x v : Operand) (hop : o.op = Op.mapUpdate 50 m x v) (h : IsWh B w b n sz p F) (hm : a.eval m = .map (some b)) (hn : n < maxLen) (k : Int) (hk : I64 k) (hx : a.eval x = .int .i64 k) (u : Int) (hu : I64 u) (hv : a.eval v = .int .i64 u)
    (hK : ∀ w', IsWh B w' b (n + 1) (if p k then sz else sz + 1) (fun j => decide (j = k) || p j) (fun j => if j = k then u else F j) → w.grownBy w' (some b) → wpList Try.prog ops Q rest (a.put o.dst undef) w') : wpList Try.prog ops Q (o :: rest) a w := by
  obtain ⟨h0, D, h1, h2, h3⟩ := h
  have hkl : WideAt.IsKeyLit (.int .i64 k) := lawQ.one.key ⟨_, keyQ hk⟩
  refine wpList_mapUpdate_in w hg m x v _ hop _ _ lawQ Try.underlying50 _ b n D hm h1 hn _ _ _ hx hv (keyQ hk) _ [] (plainElem_int Try.underlying3 (WalkArith.wf_i64 hu)) fun w' g1 g2 => hK w' ⟨h0, _, g1, ?_, fun j hj => ⟨?_, ?_⟩⟩ g2.grown
  · rw [Maps.size_put (h1.tidy lawQ), (h3 k hk).1, h2]
  · by_cases e : j = k
    · subst e
      rw [Maps.has_put_same h1.isMap hkl]
      simp
    · rw [Maps.has_put_other (litQ_ne e), (h3 j hj).1]
      simp [e]
  · by_cases e : j = k
    · subst e
      rw [Maps.atKey_put_same h1.isMap hkl]; dsimp only; rw [if_pos rfl]
    · rw [Maps.atKey_put_other (litQ_ne e), (h3 j hj).2]; dsimp only; rw [if_neg e]
end
end Go.Proofs.Ytgakidimipipeaa

namespace Go.Proofs.Ytgakidimipipeaa
open Go.RowKit Go.Sort
set_option linter.unusedVariables false
set_option linter.unusedSimpArgs false
set_option maxRecDepth 100000

theorem mused_no {B : Nat} {w : World} {g gs : Nat} {sl : List SlotD} (h : IsMap B w g gs sl) (n : Int) (hn : n < 1 ∨ (sl.length : Int) < n) :
    Calls Try.prog 65 #[.pointer (some ⟨g, 0, none⟩), .int .i64 n] w fun e w' => e = .returned (.tuple #[.pointer none, .int .i64 1]) ∧ w = w' := by
  have H := Lib.hid h
  have HN := Lib.hid hn
  clear h hn
  go_enter Try.func65, Try.ntmps65
  go_wp2_with fail
  refine (mhas_no H.out n HN.out).mono ?_
  rintro e w' ⟨rfl, rfl⟩
  go_wp2
  go_ret2
  exact ⟨rfl, rfl⟩
set_option maxHeartbeats 1000000 in
theorem mused_free {B : Nat} {w : World} {g gs : Nat} {sl : List SlotD} (h : IsMap B w g gs sl) (i : Nat) (s : SlotD) (hu : sl[i]? = some s) (hk : (s.kind == 0) = true) :
    Calls Try.prog 65 #[.pointer (some ⟨g, 0, none⟩), .int .i64 ((i : Int) + 1)] w fun e w' => e = .returned (.tuple #[.pointer none, .int .i64 4]) ∧ Below w.heap.size w w' := by
  have c0 := map_facts h
  obtain ⟨r0, r1, r2, r3⟩ := map_row h hu
  have hi := (List.getElem?_eq_some_iff.1 hu).1
  have hlen := h.2.2.2.2.1
  have hi2 : (i : Int) < (sl.length : Int) := by omega
  have hi0 : (0 : Int) ≤ (i : Int) := by omega
  have hwi : IntKind.i64.wrap ((i : Int) + 1 - 1) = (i : Int) := by rw [show (i : Int) + 1 - 1 = (i : Int) by omega]; exact IntWalk.i64_in _ (by omega)
  have hI : (i : Int) ≤ 200 := by omega
  have H := Lib.hid h
  have HI := Lib.hid hi
  have HK := Lib.hid hk
  clear h hu hi hk
  go_enter Try.func65, Try.ntmps65
  go_wp2_with fail
  refine (mhas_yes H.out i HI.out).mono ?_
  rintro e w' ⟨rfl, rfl⟩
  go_wp2_with fail
  refine (free_is s w).mono ?_
  rintro e w' ⟨rfl, b1⟩
  have hk := HK.out
  have HB := Lib.hid b1
  clear b1
  go_wp2
  go_ret2
  exact ⟨rfl, HB.out⟩
theorem mrel_no {B : Nat} {w : World} {g gs : Nat} {sl : List SlotD} (h : IsMap B w g gs sl) (n : Int) (hn : n < 1 ∨ (sl.length : Int) < n) :
    Calls Try.prog 24 #[.pointer (some ⟨g, 0, none⟩), .int .i64 n] w fun e w' => e = .returned (.int .i64 1) ∧ w = w' := by
  have H := Lib.hid h
  have HN := Lib.hid hn
  clear h hn
  go_enter Try.func24, Try.ntmps24
  go_wp2_with fail
  refine (mused_no H.out n HN.out).mono ?_
  rintro e w' ⟨rfl, rfl⟩
  go_wp2
  go_ret
  exact ⟨rfl, rfl⟩
theorem mrel_free {B : Nat} {w : World} {g gs : Nat} {sl : List SlotD} (h : IsMap B w g gs sl) (i : Nat) (s : SlotD) (hu : sl[i]? = some s) (hk : (s.kind == 0) = true) :
    Calls Try.prog 24 #[.pointer (some ⟨g, 0, none⟩), .int .i64 ((i : Int) + 1)] w fun e w' => e = .returned (.int .i64 4) ∧ Below w.heap.size w w' := by
  have H := Lib.hid h
  have HU := Lib.hid hu
  have HK := Lib.hid hk
  clear h hu hk
  go_enter Try.func24, Try.ntmps24
  go_wp2_with fail
  refine (mused_free H.out i s HU.out HK.out).mono ?_
  rintro e w1 ⟨rfl, b1⟩
  have HB := Lib.hid b1
  clear b1
  go_wp2
  go_ret
  exact ⟨rfl, HB.out⟩
set_option maxHeartbeats 2000000 in
theorem mrel_yes {B : Nat} {w : World} {g gs : Nat} {sl : List SlotD} (h : IsMap B w g gs sl) (i : Nat) (s : SlotD) (hu : sl[i]? = some s) (hk : (s.kind == 0) = false) :
    Calls Try.prog 24 #[.pointer (some ⟨g, 0, none⟩), .int .i64 ((i : Int) + 1)] w (MapPost B w g gs (sl.set i ⟨0, s.version, 0, 0⟩) (.int .i64 0)) := by
  have ho : SlotOk s := h.2.2.2.2.2 s (List.mem_of_getElem? hu)
  have HPUT := Lib.hid (fun (W : World) (hW : IsMap B W g gs sl) => map_put hW hu (s' := ⟨0, s.version, 0, 0⟩) ⟨by show (0:Int) ≤ 0; omega, by show (0:Int) ≤ 65535; omega, ho.2.2.1, ho.2.2.2.1, by show (0:Int) ≤ 0; omega, by show (0:Int) ≤ 65535; omega, by show (0:Int) ≤ 0; omega, by show (0:Int) ≤ 2; omega⟩)
  have H := Lib.hid h
  have HU := Lib.hid hu
  have HK := Lib.hid hk
  clear h hu hk ho
  go_enter Try.func24, Try.ntmps24
  go_wp2_with fail
  refine (mused_yes H.out i s HU.out HK.out).mono ?_
  rintro e w1 ⟨rfl, b1⟩
  have h1 := H.out.below b1
  have HB1 := Lib.hid b1
  obtain ⟨r0, r1, r2, r3⟩ := map_row h1 HU.out
  have f0 := map_free h1 (i * 4)
  have f1 := map_free h1 (i * 4 + 1)
  have f2 := map_free h1 (i * 4 + 2)
  have f3 := map_free h1 (i * 4 + 3)
  have H1 := Lib.hid h1
  have hmp := HPUT.out _ H1.out
  have HNEW := Lib.hid hmp
  obtain ⟨W2, hW2⟩ : ∃ W2, W2 = (put4 w1 gs i ⟨0, s.version, 0, 0⟩) := ⟨_, rfl⟩
  rw [← hW2] at HNEW
  simp only [put4] at hW2
  clear b1 h1 hmp
  go_wp2
  first
    | (rw [← hW2]; go_ret; exact ⟨rfl, HNEW.out.1, grown_below HB1.out HNEW.out.2⟩)
    | (go_ret; exact ⟨rfl, HNEW.out.1, grown_below HB1.out HNEW.out.2⟩)
set_option maxHeartbeats 2000000 in
theorem malloc_none {B : Nat} {w : World} {g gs : Nat} {sl : List SlotD} (h : IsMap B w g gs sl) (hf : firstI (fun s : SlotD => s.kind == 0) sl = -1) (kd : Int) (hk1 : 1 ≤ kd) (hk2 : kd ≤ 2) :
    Calls Try.prog 19 #[.pointer (some ⟨g, 0, none⟩), .int .i64 kd] w fun e w' => e = .returned (.tuple #[.int .i64 0, .int .u32 0, .int .i64 11]) ∧ Below w.heap.size w w' := by
  have c0 := map_facts h
  have hlen := h.2.2.2.2.1
  have HIX := Lib.hid (index_slot sl (some ⟨gs, 0, none⟩) sl.length w (map_reads h) (by omega) (fun _ => True) (fun _ _ => trivial) (fun s => s.kind == 0) 60 #[] enters_free (free_pred w))
  rw [hf] at HIX
  clear h hf
  go_enter Try.func19, Try.ntmps19
  go_wp2_with fail
  refine (among_yes kd 1 2 w hk1 hk2).mono ?_
  rintro e w' ⟨rfl, rfl⟩
  go_wp2_with fail
  refine HIX.out.mono ?_
  rintro e w1 ⟨rfl, b1⟩
  have HB1 := Lib.hid b1
  clear b1
  go_wp2
  go_ret3
  exact ⟨rfl, HB1.out⟩
end Go.Proofs.Ytgakidimipipeaa

namespace Go.Proofs.Ytgakidimipipeaa
open Go.RowKit Go.Sort
set_option linter.unusedVariables false
set_option linter.unusedSimpArgs false
set_option maxRecDepth 100000

theorem OwnsR'.block {B : Nat} {w : World} {e : TypeId} {k g n c : Nat} {l : List (List Value)} (h : OwnsR' B w e k (.slice (some ⟨g, 0, none⟩) n c) l) : ∃ cs, w.heap[g]? = some (.cells cs e (0, 0)) := by
  obtain ⟨_, _, ⟨h1, _⟩ | ⟨g', cap, cur, h1, _, hg', _⟩⟩ := h
  · cases h1
  · obtain ⟨h1, _⟩ := Value.slice.inj h1
    have h2 : g = g' := by simpa using h1
    exact ⟨cur, by rw [h2]; exact hg'⟩
theorem cells_ne {w : World} {a b : Nat} {cs ds : Array Value} {t u : TypeId} {f f' : Nat × Nat} (h : w.heap[a]? = some (.cells cs t f)) (k : w.heap[b]? = some (.cells ds u f')) (hne : t ≠ u) : a ≠ b := by
  rintro rfl
  rw [h] at k
  simp at k
  exact hne k.2.1
structure St (B : Nat) (w0 w : World) (g gs gt gts bw n sz : Nat) (p : Int → Bool) (F : Int → Int) (sl : List SlotD) (us : List UseD) : Prop where
  map : IsMap B w g gs sl
  tab : IsTab B w gt gts 16 us
  wh : IsWh B w bw n sz p F
  bel : Below B w0 w
section
variable {B : Nat} {w0 w w' : World} {g gs gt gts bw n sz : Nat} {p : Int → Bool} {F : Int → Int} {sl sl' : List SlotD} {us us' : List UseD}
theorem St.below (h : St B w0 w g gs gt gts bw n sz p F sl us) (hB : B ≤ w.heap.size) (b : Below w.heap.size w w') : St B w0 w' g gs gt gts bw n sz p F sl us :=
  ⟨h.map.below b, h.tab.below b, h.wh.below b, h.bel.trans (b.mono hB)⟩
theorem St.size (h : St B w0 w g gs gt gts bw n sz p F sl us) : B ≤ w.heap.size := Nat.le_of_lt (Nat.lt_of_le_of_lt h.map.2.2.1 (map_lt h.map).1)
theorem St.ne (h : St B w0 w g gs gt gts bw n sz p F sl us) : (bw ≠ g ∧ bw ≠ gs ∧ bw ≠ gt ∧ bw ≠ gts) ∧ gs ≠ gt ∧ gs ≠ gts ∧ gts ≠ g := by
  obtain ⟨c1, h1⟩ := h.map.2.1.block
  obtain ⟨c2, h2⟩ := h.tab.2.1.block
  exact ⟨⟨h.wh.ne h.map.1, h.wh.ne h1, h.wh.ne h.tab.1, h.wh.ne h2⟩, cells_ne h1 h.tab.1 (by decide), cells_ne h1 h2 (by decide), cells_ne h2 h.map.1 (by decide)⟩
theorem IsMap.keptB {b : Nat} (h : IsMap B w g gs sl) (hg : w.grownBy w' (some b)) (hne : b ≠ g) (hne2 : b ≠ gs) : IsMap B w' g gs sl :=
  ⟨(hg.block g (map_lt h).1 (by simpa using Ne.symm hne)).trans h.1, h.2.1.kept hg (.inr (by show some gs ≠ some b; simpa using Ne.symm hne2)), h.2.2⟩
theorem IsTab.keptB {room : Int} {b : Nat} (h : IsTab B w gt gts room us) (hg : w.grownBy w' (some b)) (hne : b ≠ gt) (hne2 : b ≠ gts) : IsTab B w' gt gts room us :=
  ⟨(hg.block gt (tab_lt h).1 (by simpa using Ne.symm hne)).trans h.1, h.2.1.kept hg (.inr (by show some gts ≠ some b; simpa using Ne.symm hne2)), h.2.2⟩
theorem St.mapped (h : St B w0 w g gs gt gts bw n sz p F sl us) (t : IsMap B w' g gs sl') (hg : w.grownBy w' (some gs)) : St B w0 w' g gs gt gts bw n sz p F sl' us := by
  obtain ⟨⟨_, n1, _, _⟩, n2, n3, _⟩ := h.ne
  exact ⟨t, h.tab.keptB hg n2 n3, h.wh.kept hg (by simpa using n1), h.bel.grown hg h.size (by intro j hj; obtain rfl := Option.some.inj hj; exact (h.map.2.1.lt gs rfl).1)⟩
theorem St.tabled (h : St B w0 w g gs gt gts bw n sz p F sl us) (t : IsTab B w' gt gts 16 us') (hg : w.grownBy w' (some gts)) : St B w0 w' g gs gt gts bw n sz p F sl us' := by
  obtain ⟨⟨_, _, _, n1⟩, _, n3, n4⟩ := h.ne
  exact ⟨h.map.keptB hg n4 (Ne.symm n3), t, h.wh.kept hg (by simpa using n1), h.bel.grown hg h.size (by intro j hj; obtain rfl := Option.some.inj hj; exact (h.tab.2.1.lt gts rfl).1)⟩
theorem St.whered {n' sz' : Nat} {p' : Int → Bool} {F' : Int → Int} (h : St B w0 w g gs gt gts bw n sz p F sl us) (t : IsWh B w' bw n' sz' p' F') (hg : w.grownBy w' (some bw)) : St B w0 w' g gs gt gts bw n' sz' p' F' sl us := by
  obtain ⟨⟨n1, n2, n3, n4⟩, _⟩ := h.ne
  exact ⟨h.map.keptB hg n1 n2, h.tab.keptB hg n3 n4, t, h.bel.grown hg h.size (by intro j hj; obtain rfl := Option.some.inj hj; exact h.wh.1)⟩
theorem St.other {b n2 sz2 : Nat} {p2 : Int → Bool} {F2 : Int → Int} (h : St B w0 w g gs gt gts bw n sz p F sl us) (hw : IsWh B w b n2 sz2 p2 F2) (hne : bw ≠ b) (hg : w.grownBy w' (some b)) : St B w0 w' g gs gt gts bw n sz p F sl us := by
  obtain ⟨c1, h1⟩ := h.map.2.1.block
  obtain ⟨c2, h2⟩ := h.tab.2.1.block
  exact ⟨h.map.keptB hg (hw.ne h.map.1) (hw.ne h1), h.tab.keptB hg (hw.ne h.tab.1) (hw.ne h2), h.wh.kept hg (by simpa using hne), h.bel.grown hg h.size (by intro j hj; obtain rfl := Option.some.inj hj; exact hw.1)⟩
theorem ReadsV.keptQ {a : Option Addr} {len b : Nat} {l : List Value} (h : ReadsV w a len l) (hw : IsWh B w b n sz p F) (hg : w.grownBy w' (some b)) : ReadsV w' a len l := by
  obtain ⟨h1, rfl | ⟨q, off, rfl, hq, hc⟩⟩ := h
  · exact ⟨h1, .inl rfl⟩
  · refine ⟨h1, .inr ⟨q, off, rfl, Nat.lt_of_lt_of_le hq hg.size, fun i u hi => ?_⟩⟩
    have hcell := hc i u hi
    have hne : some q ≠ some b := by
      intro e
      obtain rfl := Option.some.inj e
      obtain ⟨_, D, ⟨es, cl, hb, _⟩, _⟩ := hw
      unfold World.cell? at hcell
      rw [hb] at hcell
      cases hcell
    rw [← hcell]
    unfold World.cell?
    rw [hg.block q hq hne]
end
/-- All three agree. -/
structure All3 (B : Nat) (w0 w : World) (g gs gt gts bw n : Nat) (sl : List SlotD) (us : List UseD) : Prop where
  st : St B w0 w g gs gt gts bw n (usedI sl).length (usedAt sl) (whereAt sl) sl us
  len : sl.length = 12
  inv : TInv sl us
end Go.Proofs.Ytgakidimipipeaa

namespace Go.Proofs.Ytgakidimipipeaa
open Go.RowKit Go.Sort
set_option linter.unusedVariables false
set_option linter.unusedSimpArgs false
set_option maxRecDepth 100000

def inB (n a b : Int) : Bool := decide (a ≤ n) && decide (n ≤ b)
/-- A slot that may be. -/
def mayS (s : SlotD) : Bool := inB s.place 0 65535 && inB s.links 0 65535 && inB s.kind 0 2
theorem amongM_is (n a b : Int) (w : World) : Calls Try.prog 55 #[.int .i64 n, .int .i64 a, .int .i64 b] w fun e w' => e = .returned (.bool (inB n a b)) ∧ w = w' := by
  unfold inB
  by_cases h : a ≤ n ∧ n ≤ b
  · rw [decide_eq_true h.1, decide_eq_true h.2]
    exact among_yes n a b w h.1 h.2
  · have e : (decide (a ≤ n) && decide (n ≤ b)) = false := by
      by_cases h1 : a ≤ n
      · rw [decide_eq_true h1, decide_eq_false (fun h2 => h ⟨h1, h2⟩)]; rfl
      · rw [decide_eq_false h1]; rfl
    rw [e]
    exact among_no n a b w (by omega)
theorem mayS_ok {s : SlotD} (h : mayS s = true) (hv : 0 ≤ s.version ∧ s.version < 4294967296) : SlotOk s := by
  unfold mayS inB at h
  simp only [Bool.and_eq_true, decide_eq_true_eq] at h
  unfold SlotOk
  omega
theorem box4_cells (w : World) (s : SlotD) (t : TypeId) : (w.alloc (.cells #[.int .i64 s.place, .int .u32 s.version, .int .i64 s.links, .int .i64 s.kind] t)).cell? ⟨w.heap.size, 0, none⟩ = some (.int .i64 s.place) ∧ (w.alloc (.cells #[.int .i64 s.place, .int .u32 s.version, .int .i64 s.links, .int .i64 s.kind] t)).cell? ⟨w.heap.size, 1, none⟩ = some (.int .u32 s.version) ∧ (w.alloc (.cells #[.int .i64 s.place, .int .u32 s.version, .int .i64 s.links, .int .i64 s.kind] t)).cell? ⟨w.heap.size, 2, none⟩ = some (.int .i64 s.links) ∧ (w.alloc (.cells #[.int .i64 s.place, .int .u32 s.version, .int .i64 s.links, .int .i64 s.kind] t)).cell? ⟨w.heap.size, 3, none⟩ = some (.int .i64 s.kind) := by
  have h := heap_alloc_new w (.cells #[.int .i64 s.place, .int .u32 s.version, .int .i64 s.links, .int .i64 s.kind] t)
  refine ⟨?_, ?_, ?_, ?_⟩ <;> (unfold World.cell?; rw [h]; rfl)
set_option maxHeartbeats 1000000 in
theorem may_is4 (s : SlotD) (w : World) : Calls Try.prog 62 #[.agg #[.int .i64 s.place, .int .u32 s.version, .int .i64 s.links, .int .i64 s.kind]] w fun e w' => e = .returned (.bool (mayS s)) ∧ Below w.heap.size w w' := by
  have hb := below_box w (.cells #[.int .i64 s.place, .int .u32 s.version, .int .i64 s.links, .int .i64 s.kind] 28)
  obtain ⟨c0, c1, c2, c3⟩ := box4_cells w s 28
  obtain ⟨w1, hw1⟩ : ∃ x, w.alloc (.cells #[.int .i64 s.place, .int .u32 s.version, .int .i64 s.links, .int .i64 s.kind] 28) = x := ⟨_, rfl⟩
  rw [hw1] at hb c0 c1 c2 c3
  have HB := Lib.hid hb
  have HA := Lib.hid (fun n b => amongM_is n 0 b w1)
  unfold mayS
  obtain ⟨x, hx⟩ : ∃ x, inB s.place 0 65535 = x := ⟨_, rfl⟩
  obtain ⟨y, hy⟩ : ∃ y, inB s.links 0 65535 = y := ⟨_, rfl⟩
  obtain ⟨z, hz⟩ : ∃ z, inB s.kind 0 2 = z := ⟨_, rfl⟩
  rw [hx, hy, hz]
  have HX := Lib.hid hx
  have HY := Lib.hid hy
  have HZ := Lib.hid hz
  clear hx hy hz hb
  cases x with
  | false =>
    go_enter Try.func62, Try.ntmps62
    go_wp2_with fail
    refine (HA.out s.place 65535).mono ?_
    rintro e w' ⟨rfl, rfl⟩
    rw [HX.out]
    go_wp2
    go_ret
    exact ⟨by simp, HB.out⟩
  | true =>
    cases y with
    | false =>
      go_enter Try.func62, Try.ntmps62
      go_wp2_with fail
      refine (HA.out s.place 65535).mono ?_
      rintro e w' ⟨rfl, rfl⟩
      rw [HX.out]
      go_wp2_with fail
      refine (HA.out s.links 65535).mono ?_
      rintro e w' ⟨rfl, rfl⟩
      rw [HY.out]
      go_wp2
      go_ret
      exact ⟨by simp, HB.out⟩
    | true =>
      go_enter Try.func62, Try.ntmps62
      go_wp2_with fail
      refine (HA.out s.place 65535).mono ?_
      rintro e w' ⟨rfl, rfl⟩
      rw [HX.out]
      go_wp2_with fail
      refine (HA.out s.links 65535).mono ?_
      rintro e w' ⟨rfl, rfl⟩
      rw [HY.out]
      go_wp2_with fail
      refine (HA.out s.kind 2).mono ?_
      rintro e w' ⟨rfl, rfl⟩
      rw [HZ.out]
      go_wp2
      go_ret
      exact ⟨by simp, HB.out⟩
set_option maxHeartbeats 2000000 in
theorem mset_yes {B : Nat} {w : World} {g gs : Nat} {sl : List SlotD} (h : IsMap B w g gs sl) (i : Nat) (s s' : SlotD) (hu : sl[i]? = some s) (hm : mayS s' = true) (hv : 0 ≤ s'.version ∧ s'.version < 4294967296) :
    Calls Try.prog 21 #[.pointer (some ⟨g, 0, none⟩), .int .i64 ((i : Int) + 1), .agg #[.int .i64 s'.place, .int .u32 s'.version, .int .i64 s'.links, .int .i64 s'.kind]] w (MapPost B w g gs (sl.set i s') (.int .i64 0)) := by
  have b1 := below_box w (.cells #[.int .i64 s'.place, .int .u32 s'.version, .int .i64 s'.links, .int .i64 s'.kind] 28)
  obtain ⟨d0, d1, d2, d3⟩ := box4_cells w s' 28
  have hw0 : w.heap.size < (w.alloc (.cells #[.int .i64 s'.place, .int .u32 s'.version, .int .i64 s'.links, .int .i64 s'.kind] 28)).heap.size := by simp
  obtain ⟨w1, hw1⟩ : ∃ x, w.alloc (.cells #[.int .i64 s'.place, .int .u32 s'.version, .int .i64 s'.links, .int .i64 s'.kind] 28) = x := ⟨_, rfl⟩
  rw [hw1] at b1 d0 d1 d2 d3 hw0
  have h1 := h.below b1
  have hi := (List.getElem?_eq_some_iff.1 hu).1
  have hlen := h.2.2.2.2.1
  have H1 := Lib.hid h1
  have HU := Lib.hid hu
  have HI := Lib.hid hi
  have HB1 := Lib.hid b1
  have HM := Lib.hid (may_is4 s' w1)
  rw [hm] at HM
  have D := Lib.hid (fun (W : World) (hW : Below w1.heap.size w1 W) => (⟨(hW.cell (p := ⟨w.heap.size, 0, none⟩) hw0).trans d0, (hW.cell (p := ⟨w.heap.size, 1, none⟩) hw0).trans d1, (hW.cell (p := ⟨w.heap.size, 2, none⟩) hw0).trans d2, (hW.cell (p := ⟨w.heap.size, 3, none⟩) hw0).trans d3⟩ : W.cell? ⟨w.heap.size, 0, none⟩ = some (.int .i64 s'.place) ∧ W.cell? ⟨w.heap.size, 1, none⟩ = some (.int .u32 s'.version) ∧ W.cell? ⟨w.heap.size, 2, none⟩ = some (.int .i64 s'.links) ∧ W.cell? ⟨w.heap.size, 3, none⟩ = some (.int .i64 s'.kind)))
  have HOK := Lib.hid (mayS_ok hm hv)
  have hi2 : (i : Int) < (sl.length : Int) := by omega
  have hi0 : (0 : Int) ≤ (i : Int) := by omega
  have s1 : IntKind.i64.wrap ((i : Int) + 1 - 1) = (i : Int) := by rw [IntWalk.i64_in _ (by omega)]; omega
  have s2 : (i : Int) + 1 - 1 = (i : Int) := by omega
  clear h h1 hu hi b1 hm hv hw0
  go_enter Try.func21, Try.ntmps21
  go_wp2_with fail
  clear hw1
  refine (mhas_yes H1.out i HI.out).mono ?_
  rintro e w' ⟨rfl, rfl⟩
  go_wp2_with fail
  refine HM.out.mono ?_
  rintro e w2 ⟨rfl, b2⟩
  have h2 := H1.out.below b2
  have HB2 := Lib.hid (below_next HB1.out b2)
  obtain ⟨e0, e1, e2, e3⟩ := D.out w2 b2
  have c1 := map_facts h2
  obtain ⟨r0, r1, r2, r3⟩ := map_row h2 HU.out
  have f0 := map_free h2 (i * 4)
  have f1 := map_free h2 (i * 4 + 1)
  have f2 := map_free h2 (i * 4 + 2)
  have f3 := map_free h2 (i * 4 + 3)
  have hmp := map_put h2 HU.out HOK.out
  have HNEW := Lib.hid (hmp.1.below (below_drew _))
  have HGR := Lib.hid hmp.2
  obtain ⟨W2, hW2⟩ : ∃ W2, W2 = (put4 w2 gs i s').drew := ⟨_, rfl⟩
  rw [← hW2] at HNEW
  have HGR2 : Hid (w2.grownBy W2 (some gs)) := by rw [hW2]; exact Lib.hid (grown_to_drew HGR.out)
  simp only [put4] at hW2
  clear d0 d1 d2 d3 b2 h2 hmp HGR
  go_wp2
  go_region
  rw [← hW2]
  clear hW2 c1 r0 r1 r2 r3 f0 f1 f2 f3 e0 e1 e2 e3
  go_wp2
  go_ret
  exact ⟨rfl, HNEW.out, grown_below HB2.out HGR2.out⟩
set_option maxHeartbeats 1000000 in
theorem mset_no {B : Nat} {w : World} {g gs : Nat} {sl : List SlotD} (h : IsMap B w g gs sl) (i : Nat) (hi : i < sl.length) (s' : SlotD) (hm : mayS s' = false) :
    Calls Try.prog 21 #[.pointer (some ⟨g, 0, none⟩), .int .i64 ((i : Int) + 1), .agg #[.int .i64 s'.place, .int .u32 s'.version, .int .i64 s'.links, .int .i64 s'.kind]] w fun e w' => e = .returned (.int .i64 1) ∧ Below w.heap.size w w' := by
  have b1 := below_box w (.cells #[.int .i64 s'.place, .int .u32 s'.version, .int .i64 s'.links, .int .i64 s'.kind] 28)
  obtain ⟨d0, d1, d2, d3⟩ := box4_cells w s' 28
  obtain ⟨w1, hw1⟩ : ∃ x, w.alloc (.cells #[.int .i64 s'.place, .int .u32 s'.version, .int .i64 s'.links, .int .i64 s'.kind] 28) = x := ⟨_, rfl⟩
  rw [hw1] at b1 d0 d1 d2 d3
  have H1 := Lib.hid (h.below b1)
  have HI := Lib.hid hi
  have HB1 := Lib.hid b1
  have HM := Lib.hid (may_is4 s' w1)
  rw [hm] at HM
  clear h hi b1 hm
  go_enter Try.func21, Try.ntmps21
  go_wp2_with fail
  clear hw1
  refine (mhas_yes H1.out i HI.out).mono ?_
  rintro e w' ⟨rfl, rfl⟩
  go_wp2_with fail
  refine HM.out.mono ?_
  rintro e w2 ⟨rfl, b2⟩
  go_wp2
  go_ret
  exact ⟨rfl, below_next HB1.out b2⟩
end Go.Proofs.Ytgakidimipipeaa
