/- The usage table: what is gained by cleaning a segment, what it costs, and which is better. The usage table's Order. usage.Load: a table of rows that came in. -/
import Derived.Test.YtgakidimipipeaaGcfbibdna
import Derived.Test.YtgakidimipipeaaGgnimhfij
namespace Go.Proofs.Ytgakidimipipeaa
open Go.RowKit Go.Sort
set_option linter.unusedVariables false
set_option linter.unusedSimpArgs false
set_option maxRecDepth 100000

def ageI (now a : Int) : Int := 1 + (now - min now a)
def gainI (room now : Int) (u : UseD) : Int := (room - u.live) * ageI now u.age
def costI (room : Int) (u : UseD) : Int := room + u.live
theorem ageI_bound {now a : Int} (h0 : 0 ≤ now) (h1 : now < 4294967296) (ha : 0 ≤ a) : 1 ≤ ageI now a ∧ ageI now a ≤ 4294967296 := by unfold ageI; omega
theorem mul_bound {x y X Y : Int} (h0 : 0 ≤ x) (h1 : x ≤ X) (h2 : 0 ≤ y) (h3 : y ≤ Y) : 0 ≤ x * y ∧ x * y ≤ X * Y :=
  ⟨Int.mul_nonneg h0 h2, Int.mul_le_mul h1 h3 h2 (by omega)⟩
theorem gainI_bound {room now : Int} {u : UseD} (hr : room ≤ 4096) (hu : UseOk room u) (h0 : 0 ≤ now) (h1 : now < 4294967296) : 0 ≤ gainI room now u ∧ gainI room now u ≤ 17592186044416 := by
  have ha := ageI_bound h0 h1 hu.2.2.2.2.1
  have hb := hu.1
  have hc := hu.2.1
  have := mul_bound (x := room - u.live) (y := ageI now u.age) (X := 4096) (Y := 4294967296) (by omega) (by omega) (by omega) ha.2
  unfold gainI
  omega
set_option maxHeartbeats 2000000 in
theorem worth_is {B : Nat} {w : World} {g gs : Nat} {room : Int} {us : List UseD} (h : IsTab B w g gs room us) (i : Nat) (u : UseD) (hu : us[i]? = some u) (now : Int) (h0 : 0 ≤ now) (h1 : now < 4294967296) :
    Calls Try.prog 118 #[.pointer (some ⟨g, 0, none⟩), .int .i64 i, .int .u32 now] w fun e w' => e = .returned (.tuple #[.int .u64 (gainI room now u), .int .u64 (costI room u)]) ∧ Below w.heap.size w w' := by
  obtain ⟨c0, c1⟩ := tab_facts h
  obtain ⟨l1, l2⟩ := tab_lt h
  obtain ⟨r0, r1, r2⟩ := tab_row h hu
  have hi := (List.getElem?_eq_some_iff.1 hu).1
  have ho : UseOk room u := h.2.2.2.2.2.2.2 u (List.mem_of_getElem? hu)
  have hr1 := h.2.2.2.1
  have hr2 := h.2.2.2.2.1
  have hg := gainI_bound hr2 ho h0 h1
  have ha := ageI_bound h0 h1 ho.2.2.2.2.1
  have hi2 : (i : Int) < (us.length : Int) := by omega
  have hi0 : (0 : Int) ≤ (i : Int) := by omega
  obtain ⟨o1, o2, _, _, o5, o6⟩ := ho
  obtain ⟨m, hm⟩ : ∃ m, min now u.age = m := ⟨_, rfl⟩
  have hm0 : 0 ≤ m := by omega
  have hm1 : m ≤ now := by omega
  obtain ⟨a, haa⟩ : ∃ a, ageI now u.age = a := ⟨_, rfl⟩
  have haa' : 1 + (now - m) = a := by rw [← hm]; exact haa
  rw [haa] at ha
  obtain ⟨G, hG⟩ : ∃ G, gainI room now u = G := ⟨_, rfl⟩
  have hG' : (room - u.live) * a = G := by rw [← haa]; exact hG
  rw [hG] at hg ⊢
  have hC : costI room u = room + u.live := rfl
  rw [hC]
  have b1 := below_box w (.cells #[.int .i64 u.live, .int .i64 u.state, .int .u32 u.age] 123)
  have c0' := (b1.cell (p := ⟨g, 0, none⟩) l1).trans c0
  clear h hu hi haa hG hC
  have HG := Lib.hid hG'
  have HA := Lib.hid haa'
  clear hG' haa'
  have e0 : now - m ≤ 4294967295 := by omega
  have e1 : 0 ≤ now - m := by omega
  go_enter Try.func118, Try.ntmps118
  go_wp2
  have e3 : IntKind.i64.wrap (room - u.live) = room - u.live := IntWalk.i64_in _ (by omega)
  have e4 : IntKind.i64.wrap (room + u.live) = room + u.live := IntWalk.i64_in _ (by omega)
  have e5 : IntKind.u64.wrap (room - u.live) = room - u.live := IntWalk.u64_in _ (by omega)
  have e6 : IntKind.u64.wrap (room + u.live) = room + u.live := IntWalk.u64_in _ (by omega)
  have e7 : IntKind.u64.wrap ((room - u.live) * (1 + (now - m))) = G := by rw [HA.out, HG.out]; exact IntWalk.u64_in _ (by omega)
  go_quiet (fail)
  clear e3 e4 e5 e6 e7
  go_wp2
  go_ret2
  exact ⟨rfl, b1.trans ((below_drewN _ _).mono b1.size)⟩
/-- Is a segment better to be cleaned than another one? -/
def betterB (room now : Int) (u v : UseD) : Bool := decide (gainI room now v * costI room u < gainI room now u * costI room v)
def ltU (room now : Int) (us : List UseD) (i j : Nat) : Bool := match us[i]?, us[j]? with
  | some u, some v => betterB room now u v
  | _, _ => false
theorem prod_in {x y : Int} (h0 : 0 ≤ x) (h1 : x ≤ 17592186044416) (h2 : 0 ≤ y) (h3 : y ≤ 8192) : IntKind.u64.wrap (x * y) = x * y := by
  have := mul_bound h0 h1 h2 h3
  exact IntWalk.u64_in _ (by omega)
set_option maxHeartbeats 2000000 in
theorem better_is {B : Nat} {w : World} {g gs : Nat} {room : Int} {us : List UseD} (h : IsTab B w g gs room us) (i j : Nat) (u v : UseD) (hu : us[i]? = some u) (hv : us[j]? = some v) (now : Int) (h0 : 0 ≤ now) (h1 : now < 4294967296) :
    Calls Try.prog 78 #[.pointer (some ⟨g, 0, none⟩), .int .i64 i, .int .i64 j, .int .u32 now] w fun e w' => e = .returned (.bool (betterB room now u v)) ∧ Below w.heap.size w w' := by
  have hou : UseOk room u := h.2.2.2.2.2.2.2 u (List.mem_of_getElem? hu)
  have hov : UseOk room v := h.2.2.2.2.2.2.2 v (List.mem_of_getElem? hv)
  have hr2 := h.2.2.2.2.1
  have hr1 := h.2.2.2.1
  have hgu := gainI_bound hr2 hou h0 h1
  have hgv := gainI_bound hr2 hov h0 h1
  have hcu : 0 ≤ costI room u ∧ costI room u ≤ 8192 := by have := hou.1; have := hou.2.1; unfold costI; omega
  have hcv : 0 ≤ costI room v ∧ costI room v ≤ 8192 := by have := hov.1; have := hov.2.1; unfold costI; omega
  have HW1 := Lib.hid (worth_is h i u hu now h0 h1)
  have HW2 := Lib.hid (fun W (hW : IsTab B W g gs room us) => worth_is hW j v hv now h0 h1)
  have H := Lib.hid h
  unfold betterB
  generalize gainI room now u = Gu at *
  generalize gainI room now v = Gv at *
  generalize costI room u = Cu at *
  generalize costI room v = Cv at *
  have E1 := Lib.hid (prod_in hgu.1 hgu.2 hcv.1 hcv.2)
  have E2 := Lib.hid (prod_in hgv.1 hgv.2 hcu.1 hcu.2)
  clear h hou hov hgu hgv hcu hcv hu hv hr1 hr2
  go_enter Try.func78, Try.ntmps78
  go_wp2_with fail
  refine HW1.out.mono ?_
  rintro e w1 ⟨rfl, b1⟩
  have B1 := Lib.hid b1
  clear b1
  go_wp2_with fail
  refine (HW2.out _ (H.out.below B1.out)).mono ?_
  rintro e w2 ⟨rfl, b2⟩
  have B2 := Lib.hid b2
  clear b2
  have e1 := E1.out
  have e2 := E2.out
  go_wp2
  go_ret
  exact ⟨rfl, below_next B1.out B2.out⟩
theorem enters_less (args : Array Value) (w : World) : (callFunc 77 args).run Try.prog w = .ok (.enter 77 args) w := enters_of Try.func77 (by kernel_rfl) rfl args w
set_option maxHeartbeats 1000000 in
theorem less_use {B : Nat} {w : World} {g gs : Nat} {room : Int} {us : List UseD} (h : IsTab B w g gs room us) (now : Int) (h0 : 0 ≤ now) (h1 : now < 4294967296) (p q : Nat) (hp : p < w.heap.size) (hq : q < w.heap.size)
    (cp : w.cell? ⟨p, 0, none⟩ = some (.pointer (some ⟨g, 0, none⟩))) (cq : w.cell? ⟨q, 0, none⟩ = some (.int .u32 now)) :
    LessV 77 #[.pointer (some ⟨p, 0, none⟩), .pointer (some ⟨q, 0, none⟩)] (fun i => i < us.length) (ltU room now us) w := by
  intro W i j hi hj hB
  have hu : us[i]? = some us[i] := List.getElem?_eq_getElem hi
  have hv : us[j]? = some us[j] := List.getElem?_eq_getElem hj
  have he : ltU room now us i j = betterB room now us[i] us[j] := by unfold ltU; rw [hu, hv]
  rw [he]
  have H := Lib.hid (better_is (h.below hB) i j _ _ hu hv now h0 h1)
  have cp' := (hB.cell (p := ⟨p, 0, none⟩) hp).trans cp
  have cq' := (hB.cell (p := ⟨q, 0, none⟩) hq).trans cq
  generalize betterB room now us[i] us[j] = z at *
  clear h hB cp cq hu hv he hi hj hp hq
  show Calls Try.prog 77 #[.int .i64 i, .int .i64 j, .pointer (some ⟨p, 0, none⟩), .pointer (some ⟨q, 0, none⟩)] W _
  go_enter Try.func77, Try.ntmps77
  go_wp2_with fail
  refine H.out.mono ?_
  rintro e w1 ⟨rfl, b1⟩
  go_wp2
  go_ret
  exact ⟨rfl, b1⟩
/-- The order in which they are cleaned. -/
def orderL (room now : Int) (us : List UseD) : List Nat := sortL (ltU room now us) (inL 1 us)
theorem placesL_mem {α : Type} {p : α → Bool} {l : List α} {k i : Nat} (h : i ∈ placesL p l k) : i < k ∧ ∃ x, l[i]? = some x ∧ p x = true := by
  unfold placesL at h
  rw [List.mem_filter, List.mem_range] at h
  refine ⟨h.1, ?_⟩
  cases hx : l[i]? with
  | none => rw [hx] at h; simp at h
  | some x => rw [hx] at h; exact ⟨x, rfl, h.2⟩
theorem inL_lt {s : Int} {us : List UseD} {i : Nat} (h : i ∈ inL s us) : i < us.length := (placesL_mem h).1
def box2 (g : Nat) (now : Int) (w : World) : World := (w.alloc (.cells #[.pointer (some ⟨g, 0, none⟩)] 47)).alloc (.cells #[.int .u32 now] 25)
theorem box2_facts (g : Nat) (now : Int) (w : World) : Below w.heap.size w (box2 g now w) ∧ (box2 g now w).heap.size = w.heap.size + 2 ∧ (box2 g now w).cell? ⟨w.heap.size, 0, none⟩ = some (.pointer (some ⟨g, 0, none⟩)) ∧ (box2 g now w).cell? ⟨w.heap.size + 1, 0, none⟩ = some (.int .u32 now) := by
  refine ⟨((Below.refl _ _).alloc (Nat.le_refl _) _).alloc (by simp) _, by unfold box2; simp, ?_, ?_⟩
  · unfold box2
    have h1 := below_box (w.alloc (.cells #[.pointer (some ⟨g, 0, none⟩)] 47)) (.cells #[.int .u32 now] 25)
    rw [h1.cell (p := ⟨w.heap.size, 0, none⟩) (by simp)]
    exact cell_box _ _ _
  · have := cell_box (w.alloc (.cells #[.pointer (some ⟨g, 0, none⟩)] 47)) (.int .u32 now) 25
    simp only [World.size_alloc] at this
    exact this
end Go.Proofs.Ytgakidimipipeaa

namespace Go.Proofs.Ytgakidimipipeaa
open Go.RowKit Go.Sort
set_option linter.unusedVariables false
set_option linter.unusedSimpArgs false
set_option maxRecDepth 100000

theorem in_box (s : Int) (w : World) : Calls Try.prog 75 #[.int .i64 s] w fun e w' => ∃ b, e = .returned (.func (.func 116) #[] #[.pointer (some ⟨b, 0, none⟩)]) ∧ b < w'.heap.size ∧ w'.cell? ⟨b, 0, none⟩ = some (.int .i64 s) ∧ Below w.heap.size w w' :=
  (in_is s w).mono fun e w' ⟨h1, h2⟩ => ⟨w.heap.size, h1, by rw [← h2]; simp, by rw [← h2]; exact cell_box _ _ _, by rw [← h2]; exact below_box _ _⟩
theorem places_box {B : Nat} {w : World} {g gs : Nat} {room : Int} {us : List UseD} (h : IsTab B w g gs room us) (s : Int) (b : Nat) (hb : b < w.heap.size) (hc : w.cell? ⟨b, 0, none⟩ = some (.int .i64 s)) :
    Calls Try.prog 66 #[.slice (some ⟨gs, 0, none⟩) us.length us.length, .func (.func 116) #[] #[.pointer (some ⟨b, 0, none⟩)]] w (PlacesPost w (fun u => u.state == s) us) :=
  places_use us (some ⟨gs, 0, none⟩) us.length w (tab_reads h) (by have := h.2.2.2.2.2.2.1; omega) (fun _ => True) (fun _ _ => trivial) (fun u => u.state == s) 116 #[.pointer (some ⟨b, 0, none⟩)] enters_in (in_pred s _ _ hb hc)
def OrderPost (w : World) (l : List Nat) (e : Ending) (w' : World) : Prop := ∃ a c, e = .returned (.slice a l.length c) ∧ ReadsV w' a l.length (natV l) ∧ l.length ≤ c ∧ Below w.heap.size w w'
set_option maxHeartbeats 2000000 in
theorem torder_is {B : Nat} {w : World} {g gs : Nat} {room : Int} {us : List UseD} (h : IsTab B w g gs room us) (now : Int) (h0 : 0 ≤ now) (h1 : now < 4294967296) :
    Calls Try.prog 33 #[.pointer (some ⟨g, 0, none⟩), .int .u32 now] w (OrderPost w (orderL room now us)) := by
  obtain ⟨k1, k2, k3, k4⟩ := box2_facts g now w
  obtain ⟨W2, hW2⟩ : ∃ W2, box2 g now w = W2 := ⟨_, rfl⟩
  rw [hW2] at k1 k2 k3 k4
  have h2 := h.below k1
  obtain ⟨c0, c1⟩ := tab_facts h2
  obtain ⟨l1, l2⟩ := tab_lt h
  have hlen : us.length ≤ 200 := h.2.2.2.2.2.2.1
  have HPL := Lib.hid (fun (V : World) (hV : V.cell? ⟨w.heap.size, 0, none⟩ = some (.pointer (some ⟨g, 0, none⟩)) ∧ V.cell? ⟨g, 1, none⟩ = some (.slice (some ⟨gs, 0, none⟩) us.length us.length) ∧ Below W2.heap.size W2 V) => places_box (h2.below hV.2.2) 1)
  have SN := Lib.hid (fun (V V' : World) (hV : V.cell? ⟨w.heap.size, 0, none⟩ = some (.pointer (some ⟨g, 0, none⟩)) ∧ V.cell? ⟨g, 1, none⟩ = some (.slice (some ⟨gs, 0, none⟩) us.length us.length) ∧ Below W2.heap.size W2 V) (hb : Below V.heap.size V V') =>
    (⟨(hb.cell (p := ⟨w.heap.size, 0, none⟩) (Nat.lt_of_lt_of_le (by rw [k2]; simp) hV.2.2.size)).trans hV.1, (hb.cell (p := ⟨g, 1, none⟩) (Nat.lt_of_lt_of_le (by rw [k2]; simp; omega) hV.2.2.size)).trans hV.2.1, below_next hV.2.2 hb⟩ : V'.cell? ⟨w.heap.size, 0, none⟩ = some (.pointer (some ⟨g, 0, none⟩)) ∧ V'.cell? ⟨g, 1, none⟩ = some (.slice (some ⟨gs, 0, none⟩) us.length us.length) ∧ Below W2.heap.size W2 V'))
  have HLT := Lib.hid (fun (V : World) (hV : Below W2.heap.size W2 V) => less_use (h2.below hV) now h0 h1 w.heap.size (w.heap.size + 1) (by have := hV.size; omega) (by have := hV.size; omega) ((hV.cell (p := ⟨w.heap.size, 0, none⟩) (by rw [k2]; simp)).trans k3) ((hV.cell (p := ⟨w.heap.size + 1, 0, none⟩) (by rw [k2]; simp)).trans k4))
  have HSO := Lib.hid (fun (V : World) (a : Option Addr) (c : Nat) (hV : V.cell? ⟨w.heap.size, 0, none⟩ = some (.pointer (some ⟨g, 0, none⟩)) ∧ V.cell? ⟨g, 1, none⟩ = some (.slice (some ⟨gs, 0, none⟩) us.length us.length) ∧ Below W2.heap.size W2 V) (hr : ReadsV V a (inL 1 us).length (natV (inL 1 us))) (hc : (inL 1 us).length ≤ c) =>
    sorted_is _ (inL 1 us) a c V hr (Nat.le_refl _) (by have := placesL_length (fun u : UseD => u.state == 1) us us.length; unfold inL; omega) hc (fun i => i < us.length) (fun i hi => inL_lt hi) (ltU room now us) 77 #[.pointer (some ⟨w.heap.size, 0, none⟩), .pointer (some ⟨w.heap.size + 1, 0, none⟩)] enters_less (HLT.out V hV.2.2))
  have hM : (orderL room now us) = sortL (ltU room now us) (inL 1 us) := rfl
  have hML : (orderL room now us).length = (inL 1 us).length := sortL_length _ _
  have HPI : Hid (placesL (fun u : UseD => u.state == 1) us us.length = inL 1 us) := rfl
  clear HLT
  rw [← hM] at HSO
  generalize orderL room now us = M at *
  generalize inL 1 us = L at *
  have HM := Lib.hid hM
  have HML := Lib.hid hML
  have HW2 := Lib.hid hW2
  have K1 := Lib.hid k1
  have K2 := Lib.hid k2
  clear hM hML h h2 k1 hW2 k2 hlen h0 h1
  go_enter Try.func33, Try.ntmps33
  go_wp2_with fail
  have hw : (w.alloc (.cells #[.pointer (some ⟨g, 0, none⟩)] 47)).alloc (.cells #[.int .u32 now] 25) = W2 := HW2.out
  rw [hw]
  clear hw
  go_region_held3 (fun w' => w'.cell? ⟨w.heap.size, 0, none⟩ = some (.pointer (some ⟨g, 0, none⟩)) ∧ w'.cell? ⟨g, 1, none⟩ = some (.slice (some ⟨gs, 0, none⟩) us.length us.length) ∧ Below W2.heap.size W2 w')
    (first | assumption | exact ⟨k3, c1, Below.refl _ _⟩ | exact ⟨k3, c1, below_drew _⟩ | exact SN.out _ _ (by assumption) bI | exact SN.out _ _ (by assumption) bP | exact SN.out _ _ (by assumption) bS)
    ((first
      | (go_at_call 75; (with_reducible refine (in_box 1 _).mono ?_); rintro e wi ⟨b, rfl, hbI, hcI, bI⟩)
      | (go_at_call 66; (with_reducible refine (HPL.out _ (by assumption) _ hbI hcI).mono ?_); rintro e wp ⟨v, rfl, ho, bP⟩; rw [HPI.out] at ho; obtain ⟨ap, cp, rfl, hrp, hcp, _⟩ := ho.reads; rw [natV_length] at hrp hcp ⊢)
      | (go_at_call 76; (with_reducible refine (HSO.out _ _ _ (by assumption) hrp hcp).mono ?_); rintro e ws ⟨aS, cS, rfl, hrS, hcS, bS⟩)))
  all_goals
    rename_i hHeld
    go_wp2
    go_ret
    exact ⟨aS, cS, by rw [HML.out]; rfl, by rw [HML.out]; exact hrS, by rw [HML.out]; exact hcS, K1.out.trans (hHeld.2.2.mono K1.out.size)⟩
end Go.Proofs.Ytgakidimipipeaa

namespace Go.Proofs.Ytgakidimipipeaa
open Go.RowKit Go.Sort
set_option linter.unusedVariables false
set_option linter.unusedSimpArgs false
set_option maxRecDepth 100000

theorem grown_trans {w w' w'' : World} {row : Option Nat} (h : w.grownBy w' row) (k : w'.grownBy w'' row) : w.grownBy w'' row :=
  ⟨k.os.trans h.os, k.tape.trans h.tape, k.output.trans h.output, Nat.le_trans h.size k.size, fun j hj hne => (k.block j (Nat.lt_of_lt_of_le hj h.size) hne).trans (h.block j hj hne)⟩
def put3 (w : World) (gs i : Nat) (u : UseD) : World := ((w.setCell ⟨gs, i * 3, none⟩ (.int .i64 u.live)).setCell ⟨gs, i * 3 + 1, none⟩ (.int .i64 u.state)).setCell ⟨gs, i * 3 + 2, none⟩ (.int .u32 u.age)
theorem tab_put {B : Nat} {w : World} {g gs : Nat} {room : Int} {us : List UseD} (h : IsTab B w g gs room us) {i : Nat} {u u' : UseD} (hu : us[i]? = some u) (hok : UseOk room u') :
    IsTab B (put3 w gs i u') g gs room (us.set i u') ∧ w.grownBy (put3 w gs i u') (some gs) := by
  have hi := (List.getElem?_eq_some_iff.1 hu).1
  have ho : UseOk room u := h.2.2.2.2.2.2.2 u (List.mem_of_getElem? hu)
  have s1 := tab_store (j := 0) h hu (by decide) (.int .i64 u'.live) (u' := ⟨u'.live, u.state, u.age⟩) rfl ⟨hok.1, hok.2.1, ho.2.2⟩
  have s2 := tab_store (j := 1) s1.1 (u := ⟨u'.live, u.state, u.age⟩) (i := i) (by rw [List.getElem?_set_self hi]) (by decide) (.int .i64 u'.state) (u' := ⟨u'.live, u'.state, u.age⟩) rfl ⟨hok.1, hok.2.1, hok.2.2.1, hok.2.2.2.1, ho.2.2.2.2⟩
  have s3 := tab_store (j := 2) s2.1 (u := ⟨u'.live, u'.state, u.age⟩) (i := i) (by rw [List.getElem?_set_self (by rw [List.length_set]; exact hi)]) (by decide) (.int .u32 u'.age) (u' := u') rfl hok
  rw [List.set_set, List.set_set] at s3
  exact ⟨s3.1, grown_trans (grown_trans s1.2 s2.2) s3.2⟩
def mixL (us : List UseD) (k n : Nat) : List UseD := us.take k ++ List.replicate (n - k) zeroU
theorem mixL_zero (us : List UseD) (n : Nat) : mixL us 0 n = List.replicate n zeroU := by unfold mixL; simp
theorem mixL_full (us : List UseD) (n : Nat) (h : us.length = n) : mixL us n n = us := by unfold mixL; rw [Nat.sub_self, List.take_of_length_le (by omega)]; simp
theorem mixL_get {us : List UseD} {k n : Nat} (hk : k < n) (h : us.length = n) : (mixL us k n)[k]? = some zeroU := by
  unfold mixL
  rw [List.getElem?_append_right (by rw [List.length_take]; omega), List.length_take, h, Nat.min_eq_left (by omega), Nat.sub_self, List.getElem?_replicate, if_pos (by omega)]
theorem mixL_set {us : List UseD} {k n : Nat} {x : UseD} (hk : k < n) (h : us.length = n) (hx : us[k]? = some x) : (mixL us k n).set k x = mixL us (k + 1) n := by
  unfold mixL
  rw [List.set_append_right _ _ (by rw [List.length_take]; omega), List.length_take, h, Nat.min_eq_left (by omega), Nat.sub_self]
  have e : n - k = (n - (k + 1)) + 1 := by omega
  rw [e, List.replicate_succ, List.set_cons_zero, List.take_add_one, hx]
  simp
theorem mixL_length (us : List UseD) (k n : Nat) (hk : k ≤ n) (h : us.length = n) : (mixL us k n).length = n := by
  unfold mixL
  rw [List.length_append, List.length_take, List.length_replicate, h]
  omega
def badU (R : Int) (u : UseD) : Bool := decide (u.live < 0) || decide (R < u.live) || decide (u.state < 0) || decide (3 < u.state)
def LoadPost (w : World) (R : Int) (us : List UseD) (e : Ending) (w' : World) : Prop := ∃ g gs, e = .returned (.tuple #[.pointer (some ⟨g, 0, none⟩), .int .i64 0]) ∧ IsTab w.heap.size w' g gs R us ∧ Below w.heap.size w w'
set_option maxHeartbeats 4000000 in
theorem tload_yes (room : Int) (a : Option Addr) (cap : Nat) (us : List UseD) (w : World) (hr : ReadsR w a 3 (usesV us)) (hroom : I64 room) (hl1 : 1 ≤ us.length) (hl2 : us.length ≤ 200) (hok : ∀ u ∈ us, UseOk (clampI 4096 room) u) :
    Calls Try.prog 31 #[.int .i64 room, .slice a us.length cap] w (LoadPost w (clampI 4096 room) us) := by
  have HR := Lib.hid hr
  have HRM := Lib.hid hroom
  obtain ⟨R, hR⟩ : ∃ R, clampI 4096 room = R := ⟨_, rfl⟩
  rw [hR] at hok ⊢
  have HRR := Lib.hid hR
  have HOK := Lib.hid hok
  obtain ⟨n, hnn⟩ : ∃ n, us.length = n := ⟨_, rfl⟩
  have HN := Lib.hid hnn
  rw [hnn] at hl1 hl2 ⊢
  have hcl : clampI 200 (n : Int) = n := by unfold clampI; omega
  have HCL := Lib.hid hcl
  have hI : I64 (n : Int) := ⟨by omega, by omega⟩
  have HI := Lib.hid hI
  have hne : ((n : Int) != (n : Int)) = false := by simp
  clear hr hroom hR hok hnn hcl hI
  go_enter Try.func31, Try.ntmps31
  go_wp2_with fail
  refine (tnew_is (n : Int) room w HI.out HRM.out n HCL.out).mono ?_
  rintro e w1 ⟨g, gs, rfl, t1, b1⟩
  rw [HRR.out] at t1
  have T1 := Lib.hid t1
  have B1 := Lib.hid b1
  clear t1 b1
  go_wp2_with fail
  refine (tsegs_is T1.out).mono ?_
  rintro e w2 ⟨rfl, rfl⟩
  rw [List.length_replicate]
  go_wp2
  go_loopw [20] (fun x20 wr => ∃ k : Nat, k ≤ n ∧ x20 = .int .i64 k ∧ Hid (IsTab w.heap.size wr g gs R (mixL us k n)) ∧ Hid (Below w.heap.size w wr)) (fun i _ => n - (intOf i).toNat)
  case atStart => exact ⟨0, Nat.zero_le _, rfl, by show IsTab _ _ _ _ _ _; rw [mixL_zero]; exact T1.out, B1.out⟩
  case round =>
    obtain ⟨k, hk, rfl, HT, HB⟩ := hrel
    by_cases hlt : k < n
    · obtain ⟨u, hrow⟩ : ∃ r, us[k]? = some r := ⟨_, List.getElem?_eq_getElem (by rw [HN.out]; exact hlt)⟩
      have hou := HOK.out u (List.mem_of_getElem? hrow)
      have HOU := Lib.hid hou
      obtain ⟨u1, u2, u3, u4, _, _⟩ := hou
      obtain ⟨b, off, rfl, hb, hc⟩ := (HR.out.below HB.out).row (usesV_get hrow)
      have d0 : wr.cell? ⟨b, off + k * 3, none⟩ = some (.int .i64 u.live) := hc 0 _ rfl
      have d1 : wr.cell? ⟨b, off + k * 3 + 1, none⟩ = some (.int .i64 u.state) := by have := hc 1 _ rfl; rwa [← Nat.add_assoc] at this
      have d2 : wr.cell? ⟨b, off + k * 3 + 2, none⟩ = some (.int .u32 u.age) := by have := hc 2 _ rfl; rwa [← Nat.add_assoc] at this
      have hx1 : (0 : Int) ≤ (k : Int) := by omega
      have hx2 : (k : Int) < (n : Int) := by omega
      have hmg := mixL_get (us := us) hlt HN.out
      have hml := mixL_length us k n hk HN.out
      have HPUT := Lib.hid (fun W (hW : IsTab w.heap.size W g gs R (mixL us k n)) => tab_put hW hmg HOU.out)
      have HMS : Hid ((mixL us k n).set k u = mixL us (k + 1) n) := mixL_set hlt HN.out hrow
      have b3 := below_box wr (.cells #[.int .i64 u.live, .int .i64 u.state, .int .u32 u.age] 123)
      have ht3 := HT.out.below b3
      obtain ⟨e0, e1⟩ := tab_facts ht3
      rw [hml] at e1
      obtain ⟨f0, f1⟩ := tab_facts HT.out
      obtain ⟨r0, r1, r2⟩ := tab_row ht3 hmg
      obtain ⟨l1, l2⟩ := tab_lt HT.out
      have hf := fun j => tab_free ht3 j
      have hf0 := hf (k * 3)
      have hf1 := hf (k * 3 + 1)
      have hf2 := hf (k * 3 + 2)
      have HT3 := Lib.hid ht3
      have HB3 := Lib.hid (below_next HB.out b3)
      clear hc hrow hb hmg hml b3 ht3 hf f0 f1
      have t0 : decide (u.live < 0) = false := decide_eq_false (by omega)
      have t1' : decide (R < u.live) = false := decide_eq_false (by omega)
      go_wp2_with fail
      go_quiet ((go_at_call 64; exact Calls.quiet_of_same ((isState_yes u.state _ u3 u4).mono fun _ _ ⟨h1, h2⟩ => ⟨h1, h2.symm⟩)))
      go_wp2
      go_region
      go_wp2
      have hp := HPUT.out _ (HT3.out.below (below_drewN _ nq))
      rw [HMS.out] at hp
      have hq := hp.1.below (below_drew _)
      have hb := (HT3.out.below (below_drewN _ nq)).2.1.grown (HB3.out.trans ((below_drewN _ nq).mono HB3.out.size)) HB3.out.size hp.2
      go_roundw
      case rel => exact ⟨k + 1, by omega, by go_num, hq, hb.trans ((below_drew _).mono hb.size)⟩
      case measure => simp [intOf]; omega
    · have hkn : k = n := by omega
      subst hkn
      have ht := HT.out
      rw [mixL_full us k HN.out] at ht
      have HTT := Lib.hid ht
      clear ht
      go_wp2
      go_ret2
      exact ⟨g, gs, rfl, HTT.out, HB.out⟩
theorem bad_of {R : Int} {u : UseD} (h : badU R u = false) : 0 ≤ u.live ∧ u.live ≤ R ∧ 0 ≤ u.state ∧ u.state ≤ 3 := by
  unfold badU at h
  simp at h
  omega
def NoneE (w : World) (e : Ending) (w' : World) : Prop := e = .returned (.tuple #[.pointer none, .int .i64 1]) ∧ Below w.heap.size w w'
end Go.Proofs.Ytgakidimipipeaa
