/- The usage table's Order. -/
import Derived.Test.YtnlbjpnhepdicaaTab4
namespace Go.Proofs.Ytnlbjpnhepdicaa
open Go.RowKit Go.Sort
set_option linter.unusedVariables false
set_option linter.unusedSimpArgs false
set_option maxRecDepth 100000

theorem in_box (s : Int) (w : World) : Calls Try.prog 91 #[.int .i64 s] w fun e w' => ∃ b, e = .returned (.func (.func 143) #[] #[.pointer (some ⟨b, 0, none⟩)]) ∧ b < w'.heap.size ∧ w'.cell? ⟨b, 0, none⟩ = some (.int .i64 s) ∧ Below w.heap.size w w' :=
  (in_is s w).mono fun e w' ⟨h1, h2⟩ => ⟨w.heap.size, h1, by rw [← h2]; simp, by rw [← h2]; exact cell_box _ _ _, by rw [← h2]; exact below_box _ _⟩
theorem places_box {B : Nat} {w : World} {g gs : Nat} {room : Int} {us : List UseD} (h : IsTab B w g gs room us) (s : Int) (b : Nat) (hb : b < w.heap.size) (hc : w.cell? ⟨b, 0, none⟩ = some (.int .i64 s)) :
    Calls Try.prog 90 #[.slice (some ⟨gs, 0, none⟩) us.length us.length, .func (.func 143) #[] #[.pointer (some ⟨b, 0, none⟩)]] w (PlacesPost w (fun u => u.state == s) us) :=
  places_use us (some ⟨gs, 0, none⟩) us.length w (tab_reads h) (by have := h.2.2.2.2.2.2.1; omega) (fun _ => True) (fun _ _ => trivial) (fun u => u.state == s) 143 #[.pointer (some ⟨b, 0, none⟩)] enters_in (in_pred s _ _ hb hc)
def OrderPost (w : World) (l : List Nat) (e : Ending) (w' : World) : Prop := ∃ a c, e = .returned (.slice a l.length c) ∧ ReadsV w' a l.length (natV l) ∧ l.length ≤ c ∧ Below w.heap.size w w'
set_option maxHeartbeats 2000000 in
theorem torder_is {B : Nat} {w : World} {g gs : Nat} {room : Int} {us : List UseD} (h : IsTab B w g gs room us) (now : Int) (h0 : 0 ≤ now) (h1 : now < 4294967296) :
    Calls Try.prog 30 #[.pointer (some ⟨g, 0, none⟩), .int .u32 now] w (OrderPost w (orderL room now us)) := by
  obtain ⟨k1, k2, k3, k4⟩ := box2_facts g now w
  obtain ⟨W2, hW2⟩ : ∃ W2, box2 g now w = W2 := ⟨_, rfl⟩
  rw [hW2] at k1 k2 k3 k4
  have h2 := h.below k1
  obtain ⟨c0, c1⟩ := tab_facts h2
  obtain ⟨l1, l2⟩ := tab_lt h
  have hlen : us.length ≤ 200 := h.2.2.2.2.2.2.1
  have HPL := Lib.hid (fun (V : World) (hV : V.cell? ⟨w.heap.size, 0, none⟩ = some (.pointer (some ⟨g, 0, none⟩)) ∧ V.cell? ⟨g, 1, none⟩ = some (.slice (some ⟨gs, 0, none⟩) us.length us.length) ∧ Below W2.heap.size W2 V) => places_box (h2.below hV.2.2) 1)
  have SN := Lib.hid (fun (V V' : World) (hV : V.cell? ⟨w.heap.size, 0, none⟩ = some (.pointer (some ⟨g, 0, none⟩)) ∧ V.cell? ⟨g, 1, none⟩ = some (.slice (some ⟨gs, 0, none⟩) us.length us.length) ∧ Below W2.heap.size W2 V) (hb : Below V.heap.size V V') =>
    (⟨(hb.cell (p := ⟨w.heap.size, 0, none⟩) (Nat.lt_of_lt_of_le (by rw [k2]; simp) hV.2.2.size)).trans hV.1, (hb.cell (p := ⟨g, 1, none⟩) (Nat.lt_of_lt_of_le (by rw [k2]; simp; omega) hV.2.2.size)).trans hV.2.1, below_next hV.2.2 hb⟩ : V'.cell? ⟨w.heap.size, 0, none⟩ = some (.pointer (some ⟨g, 0, none⟩)) ∧ V'.cell? ⟨g, 1, none⟩ = some (.slice (some ⟨gs, 0, none⟩) us.length us.length) ∧ Below W2.heap.size W2 V'))
  have HLT := Lib.hid (fun (V : World) (hV : Below W2.heap.size W2 V) => less_use (h2.below hV) now h0 h1 w.heap.size (w.heap.size + 1) (by have := hV.size; omega) (by have := hV.size; omega) ((hV.cell (p := ⟨w.heap.size, 0, none⟩) (by rw [k2]; simp)).trans k3) ((hV.cell (p := ⟨w.heap.size + 1, 0, none⟩) (by rw [k2]; simp)).trans k4))
  have HSO := Lib.hid (fun (V : World) (a : Option Addr) (c : Nat) (hV : V.cell? ⟨w.heap.size, 0, none⟩ = some (.pointer (some ⟨g, 0, none⟩)) ∧ V.cell? ⟨g, 1, none⟩ = some (.slice (some ⟨gs, 0, none⟩) us.length us.length) ∧ Below W2.heap.size W2 V) (hr : ReadsV V a (inL 1 us).length (natV (inL 1 us))) (hc : (inL 1 us).length ≤ c) =>
    sorted_is _ (inL 1 us) a c V hr (Nat.le_refl _) (by have := placesL_length (fun u : UseD => u.state == 1) us us.length; unfold inL; omega) hc (fun i => i < us.length) (fun i hi => inL_lt hi) (ltU room now us) 92 #[.pointer (some ⟨w.heap.size, 0, none⟩), .pointer (some ⟨w.heap.size + 1, 0, none⟩)] enters_less (HLT.out V hV.2.2))
  have hM : (orderL room now us) = sortL (ltU room now us) (inL 1 us) := rfl
  have hML : (orderL room now us).length = (inL 1 us).length := sortL_length _ _
  have HPI : Hid (placesL (fun u : UseD => u.state == 1) us us.length = inL 1 us) := rfl
  clear HLT
  rw [← hM] at HSO
  generalize orderL room now us = M at *
  generalize inL 1 us = L at *
  have HM := Lib.hid hM
  have HML := Lib.hid hML
  have HW2 := Lib.hid hW2
  have K1 := Lib.hid k1
  have K2 := Lib.hid k2
  clear hM hML h h2 k1 hW2 k2 hlen h0 h1
  go_enter Try.func30, Try.ntmps30
  go_wp2_with fail
  have hw : (w.alloc (.cells #[.pointer (some ⟨g, 0, none⟩)] 56)).alloc (.cells #[.int .u32 now] 26) = W2 := HW2.out
  rw [hw]
  clear hw
  go_region_held3 (fun w' => w'.cell? ⟨w.heap.size, 0, none⟩ = some (.pointer (some ⟨g, 0, none⟩)) ∧ w'.cell? ⟨g, 1, none⟩ = some (.slice (some ⟨gs, 0, none⟩) us.length us.length) ∧ Below W2.heap.size W2 w')
    (first | assumption | exact ⟨k3, c1, Below.refl _ _⟩ | exact ⟨k3, c1, below_drew _⟩ | exact SN.out _ _ (by assumption) bI | exact SN.out _ _ (by assumption) bP | exact SN.out _ _ (by assumption) bS)
    ((first
      | (go_at_call 91; (with_reducible refine (in_box 1 _).mono ?_); rintro e wi ⟨b, rfl, hbI, hcI, bI⟩)
      | (go_at_call 90; (with_reducible refine (HPL.out _ (by assumption) _ hbI hcI).mono ?_); rintro e wp ⟨v, rfl, ho, bP⟩; rw [HPI.out] at ho; obtain ⟨ap, cp, rfl, hrp, hcp, _⟩ := ho.reads; rw [natV_length] at hrp hcp ⊢)
      | (go_at_call 89; (with_reducible refine (HSO.out _ _ _ (by assumption) hrp hcp).mono ?_); rintro e ws ⟨aS, cS, rfl, hrS, hcS, bS⟩)))
  all_goals
    rename_i hHeld
    go_wp2
    go_ret
    exact ⟨aS, cS, by rw [HML.out]; rfl, by rw [HML.out]; exact hrS, by rw [HML.out]; exact hcS, K1.out.trans (hHeld.2.2.mono K1.out.size)⟩
end Go.Proofs.Ytnlbjpnhepdicaa
