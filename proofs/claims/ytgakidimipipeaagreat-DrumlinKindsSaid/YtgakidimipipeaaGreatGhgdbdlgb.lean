/- A block of a directory, laid through a port (dirent.layBlock). -/
import Derived.Test.YtgakidimipipeaaGreatGbilgnife
namespace Go.Proofs.YtgakidimipipeaaGreat
open Go.RowKit Go.Sort
set_option linter.unusedVariables false
set_option linter.unusedSimpArgs false
set_option maxRecDepth 100000

abbrev Ent := Int × ByteArray
def entV (x : Ent) : List Value := [.int .i64 x.1, .string x.2]
def csE (E : List Ent) : Array Value := (E.flatMap entV).toArray
def stB : PS → List Ent → PS
  | S, [] => S
  | S, x :: r => stB (stE S x.1 x.2.data.toList) r
def outB : PS → List Ent → List Ent
  | _, [] => []
  | S, x :: r => (S.numI 2 x.1, nameE S x.1 x.2.data.toList) :: outB (stE S x.1 x.2.data.toList) r
theorem stB_snoc : ∀ (E : List Ent) (S : PS) (x : Ent), stB S (E ++ [x]) = stE (stB S E) x.1 x.2.data.toList
  | [], _, _ => rfl
  | y :: E, S, x => stB_snoc E _ x
theorem outB_snoc : ∀ (E : List Ent) (S : PS) (x : Ent), outB S (E ++ [x]) = outB S E ++ [((stB S E).numI 2 x.1, nameE (stB S E) x.1 x.2.data.toList)]
  | [], _, _ => rfl
  | y :: E, S, x => by
    show _ :: outB _ (E ++ [x]) = _ :: (outB _ E ++ _)
    rw [outB_snoc E]
    rfl
theorem outB_length : ∀ (E : List Ent) (S : PS), (outB S E).length = E.length
  | [], _ => rfl
  | x :: E, S => by show (outB _ E).length + 1 = E.length + 1; rw [outB_length E]
theorem entV_len (E : List Ent) : (E.flatMap entV).length = E.length * 2 := by
  induction E with
  | nil => rfl
  | cons x E ih => rw [List.flatMap_cons, List.length_append, ih, List.length_cons, Nat.succ_mul]; show 2 + _ = _; omega
theorem csE_get {E : List Ent} {j : Nat} {x : Ent} (h : E[j]? = some x) : (csE E)[j * 2]? = some (.int .i64 x.1) ∧ (csE E)[j * 2 + 1]? = some (.string x.2) := by
  unfold csE
  rw [List.getElem?_toArray, List.getElem?_toArray]
  induction E generalizing j with
  | nil => simp at h
  | cons y E ih =>
    rw [List.flatMap_cons]
    cases j with
    | zero =>
      obtain rfl : y = x := by simpa using h
      exact ⟨rfl, rfl⟩
    | succ j =>
      have := ih (j := j) (by simpa using h)
      have e1 : (j + 1) * 2 = j * 2 + 2 := by omega
      rw [e1]
      show (_ :: _ :: (E.flatMap entV))[_]? = _ ∧ (_ :: _ :: (E.flatMap entV))[_]? = _
      exact ⟨this.1, this.2⟩
theorem csE_set (A B : List Ent) (x y : Ent) : ((csE (A ++ x :: B)).setIfInBounds (A.length * 2) (.int .i64 y.1)).setIfInBounds (A.length * 2 + 1) (.string y.2) = csE (A ++ y :: B) := by
  unfold csE
  rw [List.setIfInBounds_toArray, List.setIfInBounds_toArray]
  congr 1
  rw [List.flatMap_append, List.flatMap_append, List.flatMap_cons, List.flatMap_cons, List.set_append_right _ _ (by rw [entV_len]; exact Nat.le_refl _), entV_len, Nat.sub_self, List.set_append_right _ _ (by rw [entV_len]; omega), entV_len]
  have e : A.length * 2 + 1 - A.length * 2 = 1 := by omega
  rw [e]
  rfl
theorem fits_stE {S : PS} {z : Int} {s : List UInt8} {r : Nat} (hs : s.length ≤ 29) (h : S.fits (32 + r)) : (stE S z s).fits r := by
  unfold stE stT
  refine fits_at _ _ _ ?_
  rw [nameF_widths hs]
  have h1 : (S.next 2 (u64of z)).fits (30 + r) := PS.fits_next (q := 2) (fits_less h (by omega))
  exact PS.fits_next (q := 1) (fits_less h1 (by omega))
theorem fits_stB : ∀ (E : List Ent) (S : PS) (r : Nat), (∀ x ∈ E, x.2.data.toList.length ≤ 29) → S.fits (32 * E.length + r) → (stB S E).fits r
  | [], S, r, _, h => fits_less h (by simp)
  | x :: E, S, r, hE, h => fits_stB E _ r (fun y hy => hE y (by simp [hy])) (fits_stE (hE x (by simp)) (fits_less h (by rw [List.length_cons]; omega)))
def BlockPost (gx : Nat) (t : TypeId) (w : World) (pv : Value) (S : PS) (E : List Ent) (e : Ending) (w' : World) : Prop :=
  e = .returned (.tuple #[]) ∧ w'.heap[gx]? = some (.cells (csE (outB S E)) t (0, 0)) ∧ Passed gx w pv S w' (stB S E)
structure AtBlock (gx : Nat) (t : TypeId) (w : World) (pv : Value) (S : PS) (E : List Ent) (j : Nat) (wr : World) : Prop where
  row : wr.heap[gx]? = some (.cells (csE (outB S (E.take j) ++ E.drop j)) t (0, 0))
  passed : Passed gx w pv S wr (stB S (E.take j))
theorem AtBlock.next {gx j : Nat} {t : TypeId} {w wr w' : World} {pv : Value} {S : PS} {E : List Ent} {x : Ent} {e : Ending} (h : AtBlock gx t w pv S E j wr) (hx : E[j]? = some x) (hE : E.length = 4)
    (k : EntryPost gx wr pv (stB S (E.take j)) (j * 2) (csE (outB S (E.take j) ++ E.drop j)) t x.1 x.2.data.toList e w') : AtBlock gx t w pv S E (j + 1) w' := by
  obtain ⟨_, k2, k3⟩ := k
  have hjl : j < E.length := (List.getElem?_eq_some_iff.1 hx).1
  have et : E.take (j + 1) = E.take j ++ [x] := by rw [List.take_add_one, hx]; rfl
  have ed : E.drop j = x :: E.drop (j + 1) := by
    rw [List.drop_eq_getElem_cons hjl]
    congr 1
    exact (List.getElem?_eq_some_iff.1 hx).2
  have hl : (outB S (E.take j)).length = j := by rw [outB_length, List.length_take]; omega
  refine ⟨?_, ?_⟩
  · rw [k2, ed]
    have := csE_set (outB S (E.take j)) (E.drop (j + 1)) x ((stB S (E.take j)).numI 2 x.1, nameE (stB S (E.take j)) x.1 x.2.data.toList)
    rw [hl] at this
    rw [this, et, outB_snoc, List.append_assoc]
    rfl
  · rw [et, stB_snoc]
    exact h.passed.trans k3
set_option maxHeartbeats 3200000 in
theorem layBlock_is {w : World} {pv : Value} {S : PS} {gx : Nat} {t : TypeId} {E : List Ent} (hE : E.length = 4) (hp : IsPort w pv S) (hx : w.heap[gx]? = some (.cells (csE E) t (0, 0))) (hax : Away w pv S gx) (hf : S.fits 128)
    (hz : ∀ x ∈ E, I64 x.1 ∧ x.2.data.toList.length ≤ 29) (hb : ∀ j x, E[j]? = some x → 0 ≤ sizeE (stB S (E.take j)) x.1 x.2.data.toList ∧ sizeE (stB S (E.take j)) x.1 x.2.data.toList < 1000) :
    Calls Tryz.prog 34 #[pv, .pointer (some ⟨gx, 0, none⟩)] w (BlockPost gx t w pv S E) := by
  obtain ⟨ti, vi, rfl⟩ := port_iface hp
  have HST : Hid (AtBlock gx t w (.iface ti vi) S E 0 w) := Lib.hid ⟨hx, ⟨rfl, rfl, rfl, Nat.le_refl _, fun _ _ _ _ => rfl, fun _ _ h => h, fun _ _ h => h, hp⟩⟩
  have hgx : gx < w.heap.size := (Array.getElem?_eq_some_iff.1 hx).1
  have HE := Lib.hid hE
  have HAX := Lib.hid hax
  have HF := Lib.hid hf
  have HZ := Lib.hid hz
  have HB := Lib.hid hb
  clear hp hx hax hf hz hb hE
  go_enter Tryz.func34, Tryz.ntmps34
  go_wp2_with fail
  go_loopw [4, 5] (fun _ i wr => ∃ j : Nat, j ≤ 4 ∧ i = .int .i64 j ∧ Hid (AtBlock gx t w (.iface ti vi) S E j wr)) (fun _ i _ => 4 - (intOf i).toNat)
  case atStart => exact ⟨0, by decide, rfl, HST⟩
  case round =>
    obtain ⟨j, hj, rfl, HK⟩ := hrel
    clear HST
    by_cases hlt : j < 4
    · have hjI : (0 : Int) ≤ (j : Int) ∧ (j : Int) < 4 := by omega
      obtain ⟨x, ex⟩ : ∃ x, E[j]? = some x := ⟨_, List.getElem?_eq_getElem (by rw [HE.out]; exact hlt)⟩
      have hl : (outB S (E.take j)).length = j := by rw [outB_length, List.length_take, HE.out]; omega
      have eg : (outB S (E.take j) ++ E.drop j)[j]? = some x := by
        rw [List.getElem?_append_right (by omega), hl, Nat.sub_self, List.getElem?_drop, Nat.add_zero, ex]
      obtain ⟨g1, g2⟩ := csE_get eg
      obtain ⟨z1, z2⟩ := HZ.out x (List.mem_of_getElem? ex)
      have hfit : (stB S (E.take j)).fits 32 := fits_stB _ _ _ (fun y hy => (HZ.out y (List.mem_of_mem_take hy)).2) (fits_less HF.out (by rw [List.length_take, HE.out]; omega))
      have HC := Lib.hid (layEnt_is HK.out.passed.port HK.out.row (HK.out.passed.away gx hgx HAX.out) hfit g1 g2 z1 z2 (HB.out j x ex))
      have HEX := Lib.hid ex
      clear ex hl eg g1 g2 z1 z2 hfit
      go_wp2_with fail
      refine HC.out.mono ?_
      rintro e' w6 h6
      have H6 := Lib.hid (HK.out.next HEX.out HE.out h6)
      obtain ⟨rfl, _, _⟩ := h6
      clear HK HC
      go_wp2
      go_roundw
      case rel => exact ⟨j + 1, by omega, by simp, H6⟩
      case measure => simp [intOf]; omega
    · obtain rfl : j = 4 := by omega
      have h1 := HK.out.row
      have h2 := HK.out.passed
      have et : E.take 4 = E := List.take_of_length_le (by rw [HE.out]; exact Nat.le_refl _)
      rw [et, List.drop_eq_nil_of_le (by rw [HE.out]; exact Nat.le_refl _), List.append_nil] at h1
      rw [et] at h2
      have HFIN : Hid (BlockPost gx t w (.iface ti vi) S E (.returned (.tuple #[])) wr) := Lib.hid ⟨rfl, h1, h2⟩
      clear h1 h2 et HK
      go_wp2
      go_end0
      exact HFIN.out
end Go.Proofs.YtgakidimipipeaaGreat
