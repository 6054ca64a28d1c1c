/- usage.Load: a table of rows that came in. -/
import Derived.Test.YtnlbjpnhepdicaaTab5
namespace Go.Proofs.Ytnlbjpnhepdicaa
open Go.RowKit Go.Sort
set_option linter.unusedVariables false
set_option linter.unusedSimpArgs false
set_option maxRecDepth 100000

theorem grown_trans {w w' w'' : World} {row : Option Nat} (h : w.grownBy w' row) (k : w'.grownBy w'' row) : w.grownBy w'' row :=
  ⟨k.os.trans h.os, k.tape.trans h.tape, k.output.trans h.output, Nat.le_trans h.size k.size, fun j hj hne => (k.block j (Nat.lt_of_lt_of_le hj h.size) hne).trans (h.block j hj hne)⟩
def put3 (w : World) (gs i : Nat) (u : UseD) : World := ((w.setCell ⟨gs, i * 3, none⟩ (.int .i64 u.live)).setCell ⟨gs, i * 3 + 1, none⟩ (.int .i64 u.state)).setCell ⟨gs, i * 3 + 2, none⟩ (.int .u32 u.age)
theorem tab_put {B : Nat} {w : World} {g gs : Nat} {room : Int} {us : List UseD} (h : IsTab B w g gs room us) {i : Nat} {u u' : UseD} (hu : us[i]? = some u) (hok : UseOk room u') :
    IsTab B (put3 w gs i u') g gs room (us.set i u') ∧ w.grownBy (put3 w gs i u') (some gs) := by
  have hi := (List.getElem?_eq_some_iff.1 hu).1
  have ho : UseOk room u := h.2.2.2.2.2.2.2 u (List.mem_of_getElem? hu)
  have s1 := tab_store (j := 0) h hu (by decide) (.int .i64 u'.live) (u' := ⟨u'.live, u.state, u.age⟩) rfl ⟨hok.1, hok.2.1, ho.2.2⟩
  have s2 := tab_store (j := 1) s1.1 (u := ⟨u'.live, u.state, u.age⟩) (i := i) (by rw [List.getElem?_set_self hi]) (by decide) (.int .i64 u'.state) (u' := ⟨u'.live, u'.state, u.age⟩) rfl ⟨hok.1, hok.2.1, hok.2.2.1, hok.2.2.2.1, ho.2.2.2.2⟩
  have s3 := tab_store (j := 2) s2.1 (u := ⟨u'.live, u'.state, u.age⟩) (i := i) (by rw [List.getElem?_set_self (by rw [List.length_set]; exact hi)]) (by decide) (.int .u32 u'.age) (u' := u') rfl hok
  rw [List.set_set, List.set_set] at s3
  exact ⟨s3.1, grown_trans (grown_trans s1.2 s2.2) s3.2⟩
def mixL (us : List UseD) (k n : Nat) : List UseD := us.take k ++ List.replicate (n - k) zeroU
theorem mixL_zero (us : List UseD) (n : Nat) : mixL us 0 n = List.replicate n zeroU := by unfold mixL; simp
theorem mixL_full (us : List UseD) (n : Nat) (h : us.length = n) : mixL us n n = us := by unfold mixL; rw [Nat.sub_self, List.take_of_length_le (by omega)]; simp
theorem mixL_get {us : List UseD} {k n : Nat} (hk : k < n) (h : us.length = n) : (mixL us k n)[k]? = some zeroU := by
  unfold mixL
  rw [List.getElem?_append_right (by rw [List.length_take]; omega), List.length_take, h, Nat.min_eq_left (by omega), Nat.sub_self, List.getElem?_replicate, if_pos (by omega)]
theorem mixL_set {us : List UseD} {k n : Nat} {x : UseD} (hk : k < n) (h : us.length = n) (hx : us[k]? = some x) : (mixL us k n).set k x = mixL us (k + 1) n := by
  unfold mixL
  rw [List.set_append_right _ _ (by rw [List.length_take]; omega), List.length_take, h, Nat.min_eq_left (by omega), Nat.sub_self]
  have e : n - k = (n - (k + 1)) + 1 := by omega
  rw [e, List.replicate_succ, List.set_cons_zero, List.take_add_one, hx]
  simp
theorem mixL_length (us : List UseD) (k n : Nat) (hk : k ≤ n) (h : us.length = n) : (mixL us k n).length = n := by
  unfold mixL
  rw [List.length_append, List.length_take, List.length_replicate, h]
  omega
def badU (R : Int) (u : UseD) : Bool := decide (u.live < 0) || decide (R < u.live) || decide (u.state < 0) || decide (3 < u.state)
def LoadPost (w : World) (R : Int) (us : List UseD) (e : Ending) (w' : World) : Prop := ∃ g gs, e = .returned (.tuple #[.pointer (some ⟨g, 0, none⟩), .int .i64 0]) ∧ IsTab w.heap.size w' g gs R us ∧ Below w.heap.size w w'
set_option maxHeartbeats 4000000 in
theorem tload_yes (room : Int) (a : Option Addr) (cap : Nat) (us : List UseD) (w : World) (hr : ReadsR w a 3 (usesV us)) (hroom : I64 room) (hl1 : 1 ≤ us.length) (hl2 : us.length ≤ 200) (hok : ∀ u ∈ us, UseOk (clampI 4096 room) u) :
    Calls Try.prog 29 #[.int .i64 room, .slice a us.length cap] w (LoadPost w (clampI 4096 room) us) := by
  have HR := Lib.hid hr
  have HRM := Lib.hid hroom
  obtain ⟨R, hR⟩ : ∃ R, clampI 4096 room = R := ⟨_, rfl⟩
  rw [hR] at hok ⊢
  have HRR := Lib.hid hR
  have HOK := Lib.hid hok
  obtain ⟨n, hnn⟩ : ∃ n, us.length = n := ⟨_, rfl⟩
  have HN := Lib.hid hnn
  rw [hnn] at hl1 hl2 ⊢
  have hcl : clampI 200 (n : Int) = n := by unfold clampI; omega
  have HCL := Lib.hid hcl
  have hI : I64 (n : Int) := ⟨by omega, by omega⟩
  have HI := Lib.hid hI
  have hne : ((n : Int) != (n : Int)) = false := by simp
  clear hr hroom hR hok hnn hcl hI
  go_enter Try.func29, Try.ntmps29
  go_wp2_with fail
  refine (tnew_is (n : Int) room w HI.out HRM.out n HCL.out).mono ?_
  rintro e w1 ⟨g, gs, rfl, t1, b1⟩
  rw [HRR.out] at t1
  have T1 := Lib.hid t1
  have B1 := Lib.hid b1
  clear t1 b1
  go_wp2_with fail
  refine (tsegs_is T1.out).mono ?_
  rintro e w2 ⟨rfl, rfl⟩
  rw [List.length_replicate]
  go_wp2
  go_loopw [20] (fun x20 wr => ∃ k : Nat, k ≤ n ∧ x20 = .int .i64 k ∧ Hid (IsTab w.heap.size wr g gs R (mixL us k n)) ∧ Hid (Below w.heap.size w wr)) (fun i _ => n - (intOf i).toNat)
  case atStart => exact ⟨0, Nat.zero_le _, rfl, by show IsTab _ _ _ _ _ _; rw [mixL_zero]; exact T1.out, B1.out⟩
  case round =>
    obtain ⟨k, hk, rfl, HT, HB⟩ := hrel
    by_cases hlt : k < n
    · obtain ⟨u, hrow⟩ : ∃ r, us[k]? = some r := ⟨_, List.getElem?_eq_getElem (by rw [HN.out]; exact hlt)⟩
      have hou := HOK.out u (List.mem_of_getElem? hrow)
      have HOU := Lib.hid hou
      obtain ⟨u1, u2, u3, u4, _, _⟩ := hou
      obtain ⟨b, off, rfl, hb, hc⟩ := (HR.out.below HB.out).row (usesV_get hrow)
      have d0 : wr.cell? ⟨b, off + k * 3, none⟩ = some (.int .i64 u.live) := hc 0 _ rfl
      have d1 : wr.cell? ⟨b, off + k * 3 + 1, none⟩ = some (.int .i64 u.state) := by have := hc 1 _ rfl; rwa [← Nat.add_assoc] at this
      have d2 : wr.cell? ⟨b, off + k * 3 + 2, none⟩ = some (.int .u32 u.age) := by have := hc 2 _ rfl; rwa [← Nat.add_assoc] at this
      have hx1 : (0 : Int) ≤ (k : Int) := by omega
      have hx2 : (k : Int) < (n : Int) := by omega
      have hmg := mixL_get (us := us) hlt HN.out
      have hml := mixL_length us k n hk HN.out
      have HPUT := Lib.hid (fun W (hW : IsTab w.heap.size W g gs R (mixL us k n)) => tab_put hW hmg HOU.out)
      have HMS : Hid ((mixL us k n).set k u = mixL us (k + 1) n) := mixL_set hlt HN.out hrow
      have b3 := below_box wr (.cells #[.int .i64 u.live, .int .i64 u.state, .int .u32 u.age] 47)
      have ht3 := HT.out.below b3
      obtain ⟨e0, e1⟩ := tab_facts ht3
      rw [hml] at e1
      obtain ⟨f0, f1⟩ := tab_facts HT.out
      obtain ⟨r0, r1, r2⟩ := tab_row ht3 hmg
      obtain ⟨l1, l2⟩ := tab_lt HT.out
      have hf := fun j => tab_free ht3 j
      have hf0 := hf (k * 3)
      have hf1 := hf (k * 3 + 1)
      have hf2 := hf (k * 3 + 2)
      have HT3 := Lib.hid ht3
      have HB3 := Lib.hid (below_next HB.out b3)
      clear hc hrow hb hmg hml b3 ht3 hf f0 f1
      have t0 : decide (u.live < 0) = false := decide_eq_false (by omega)
      have t1' : decide (R < u.live) = false := decide_eq_false (by omega)
      go_wp2_with fail
      go_quiet ((go_at_call 88; exact Calls.quiet_of_same ((isState_yes u.state _ u3 u4).mono fun _ _ ⟨h1, h2⟩ => ⟨h1, h2.symm⟩)))
      go_wp2
      go_region
      go_wp2
      have hp := HPUT.out _ (HT3.out.below (below_drewN _ nq))
      rw [HMS.out] at hp
      have hq := hp.1.below (below_drew _)
      have hb := (HT3.out.below (below_drewN _ nq)).2.1.grown (HB3.out.trans ((below_drewN _ nq).mono HB3.out.size)) HB3.out.size hp.2
      go_roundw
      case rel => exact ⟨k + 1, by omega, by go_num, hq, hb.trans ((below_drew _).mono hb.size)⟩
      case measure => simp [intOf]; omega
    · have hkn : k = n := by omega
      subst hkn
      have ht := HT.out
      rw [mixL_full us k HN.out] at ht
      have HTT := Lib.hid ht
      clear ht
      go_wp2
      go_ret2
      exact ⟨g, gs, rfl, HTT.out, HB.out⟩
theorem bad_of {R : Int} {u : UseD} (h : badU R u = false) : 0 ≤ u.live ∧ u.live ≤ R ∧ 0 ≤ u.state ∧ u.state ≤ 3 := by
  unfold badU at h
  simp at h
  omega
def NoneE (w : World) (e : Ending) (w' : World) : Prop := e = .returned (.tuple #[.pointer none, .int .i64 1]) ∧ Below w.heap.size w w'
end Go.Proofs.Ytnlbjpnhepdicaa
