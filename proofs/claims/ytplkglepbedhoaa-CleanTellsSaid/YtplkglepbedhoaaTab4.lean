/- The usage table: what is gained by cleaning a segment, what it costs, and which is better. -/
import Derived.Test.YtplkglepbedhoaaTab3
import Derived.Test.YtplkglepbedhoaaSorted
namespace Go.Proofs.Ytplkglepbedhoaa
open Go.RowKit Go.Sort
set_option linter.unusedVariables false
set_option linter.unusedSimpArgs false
set_option maxRecDepth 100000

def ageI (now a : Int) : Int := 1 + (now - min now a)
def gainI (room now : Int) (u : UseD) : Int := (room - u.live) * ageI now u.age
def costI (room : Int) (u : UseD) : Int := room + u.live
theorem ageI_bound {now a : Int} (h0 : 0 ≤ now) (h1 : now < 4294967296) (ha : 0 ≤ a) : 1 ≤ ageI now a ∧ ageI now a ≤ 4294967296 := by unfold ageI; omega
theorem mul_bound {x y X Y : Int} (h0 : 0 ≤ x) (h1 : x ≤ X) (h2 : 0 ≤ y) (h3 : y ≤ Y) : 0 ≤ x * y ∧ x * y ≤ X * Y :=
  ⟨Int.mul_nonneg h0 h2, Int.mul_le_mul h1 h3 h2 (by omega)⟩
theorem gainI_bound {room now : Int} {u : UseD} (hr : room ≤ 4096) (hu : UseOk room u) (h0 : 0 ≤ now) (h1 : now < 4294967296) : 0 ≤ gainI room now u ∧ gainI room now u ≤ 17592186044416 := by
  have ha := ageI_bound h0 h1 hu.2.2.2.2.1
  have hb := hu.1
  have hc := hu.2.1
  have := mul_bound (x := room - u.live) (y := ageI now u.age) (X := 4096) (Y := 4294967296) (by omega) (by omega) (by omega) ha.2
  unfold gainI
  omega
set_option maxHeartbeats 2000000 in
theorem worth_is {B : Nat} {w : World} {g gs : Nat} {room : Int} {us : List UseD} (h : IsTab B w g gs room us) (i : Nat) (u : UseD) (hu : us[i]? = some u) (now : Int) (h0 : 0 ≤ now) (h1 : now < 4294967296) :
    Calls Try.prog 188 #[.pointer (some ⟨g, 0, none⟩), .int .i64 i, .int .u32 now] w fun e w' => e = .returned (.tuple #[.int .u64 (gainI room now u), .int .u64 (costI room u)]) ∧ Below w.heap.size w w' := by
  obtain ⟨c0, c1⟩ := tab_facts h
  obtain ⟨l1, l2⟩ := tab_lt h
  obtain ⟨r0, r1, r2⟩ := tab_row h hu
  have hi := (List.getElem?_eq_some_iff.1 hu).1
  have ho : UseOk room u := h.2.2.2.2.2.2.2 u (List.mem_of_getElem? hu)
  have hr1 := h.2.2.2.1
  have hr2 := h.2.2.2.2.1
  have hg := gainI_bound hr2 ho h0 h1
  have ha := ageI_bound h0 h1 ho.2.2.2.2.1
  have hi2 : (i : Int) < (us.length : Int) := by omega
  have hi0 : (0 : Int) ≤ (i : Int) := by omega
  obtain ⟨o1, o2, _, _, o5, o6⟩ := ho
  obtain ⟨m, hm⟩ : ∃ m, min now u.age = m := ⟨_, rfl⟩
  have hm0 : 0 ≤ m := by omega
  have hm1 : m ≤ now := by omega
  obtain ⟨a, haa⟩ : ∃ a, ageI now u.age = a := ⟨_, rfl⟩
  have haa' : 1 + (now - m) = a := by rw [← hm]; exact haa
  rw [haa] at ha
  obtain ⟨G, hG⟩ : ∃ G, gainI room now u = G := ⟨_, rfl⟩
  have hG' : (room - u.live) * a = G := by rw [← haa]; exact hG
  rw [hG] at hg ⊢
  have hC : costI room u = room + u.live := rfl
  rw [hC]
  have b1 := below_box w (.cells #[.int .i64 u.live, .int .i64 u.state, .int .u32 u.age] 28)
  have c0' := (b1.cell (p := ⟨g, 0, none⟩) l1).trans c0
  clear h hu hi haa hG hC
  have HG := Lib.hid hG'
  have HA := Lib.hid haa'
  clear hG' haa'
  have e0 : now - m ≤ 4294967295 := by omega
  have e1 : 0 ≤ now - m := by omega
  go_enter Try.func188, Try.ntmps188
  go_wp2
  have e3 : IntKind.i64.wrap (room - u.live) = room - u.live := IntWalk.i64_in _ (by omega)
  have e4 : IntKind.i64.wrap (room + u.live) = room + u.live := IntWalk.i64_in _ (by omega)
  have e5 : IntKind.u64.wrap (room - u.live) = room - u.live := IntWalk.u64_in _ (by omega)
  have e6 : IntKind.u64.wrap (room + u.live) = room + u.live := IntWalk.u64_in _ (by omega)
  have e7 : IntKind.u64.wrap ((room - u.live) * (1 + (now - m))) = G := by rw [HA.out, HG.out]; exact IntWalk.u64_in _ (by omega)
  go_quiet (fail)
  clear e3 e4 e5 e6 e7
  go_wp2
  go_ret2
  exact ⟨rfl, b1.trans ((below_drewN _ _).mono b1.size)⟩
/-- Is a segment better to be cleaned than another one? -/
def betterB (room now : Int) (u v : UseD) : Bool := decide (gainI room now v * costI room u < gainI room now u * costI room v)
def ltU (room now : Int) (us : List UseD) (i j : Nat) : Bool := match us[i]?, us[j]? with
  | some u, some v => betterB room now u v
  | _, _ => false
theorem prod_in {x y : Int} (h0 : 0 ≤ x) (h1 : x ≤ 17592186044416) (h2 : 0 ≤ y) (h3 : y ≤ 8192) : IntKind.u64.wrap (x * y) = x * y := by
  have := mul_bound h0 h1 h2 h3
  exact IntWalk.u64_in _ (by omega)
set_option maxHeartbeats 2000000 in
theorem better_is {B : Nat} {w : World} {g gs : Nat} {room : Int} {us : List UseD} (h : IsTab B w g gs room us) (i j : Nat) (u v : UseD) (hu : us[i]? = some u) (hv : us[j]? = some v) (now : Int) (h0 : 0 ≤ now) (h1 : now < 4294967296) :
    Calls Try.prog 118 #[.pointer (some ⟨g, 0, none⟩), .int .i64 i, .int .i64 j, .int .u32 now] w fun e w' => e = .returned (.bool (betterB room now u v)) ∧ Below w.heap.size w w' := by
  have hou : UseOk room u := h.2.2.2.2.2.2.2 u (List.mem_of_getElem? hu)
  have hov : UseOk room v := h.2.2.2.2.2.2.2 v (List.mem_of_getElem? hv)
  have hr2 := h.2.2.2.2.1
  have hr1 := h.2.2.2.1
  have hgu := gainI_bound hr2 hou h0 h1
  have hgv := gainI_bound hr2 hov h0 h1
  have hcu : 0 ≤ costI room u ∧ costI room u ≤ 8192 := by have := hou.1; have := hou.2.1; unfold costI; omega
  have hcv : 0 ≤ costI room v ∧ costI room v ≤ 8192 := by have := hov.1; have := hov.2.1; unfold costI; omega
  have HW1 := Lib.hid (worth_is h i u hu now h0 h1)
  have HW2 := Lib.hid (fun W (hW : IsTab B W g gs room us) => worth_is hW j v hv now h0 h1)
  have H := Lib.hid h
  unfold betterB
  generalize gainI room now u = Gu at *
  generalize gainI room now v = Gv at *
  generalize costI room u = Cu at *
  generalize costI room v = Cv at *
  have E1 := Lib.hid (prod_in hgu.1 hgu.2 hcv.1 hcv.2)
  have E2 := Lib.hid (prod_in hgv.1 hgv.2 hcu.1 hcu.2)
  clear h hou hov hgu hgv hcu hcv hu hv hr1 hr2
  go_enter Try.func118, Try.ntmps118
  go_wp2_with fail
  refine HW1.out.mono ?_
  rintro e w1 ⟨rfl, b1⟩
  have B1 := Lib.hid b1
  clear b1
  go_wp2_with fail
  refine (HW2.out _ (H.out.below B1.out)).mono ?_
  rintro e w2 ⟨rfl, b2⟩
  have B2 := Lib.hid b2
  clear b2
  have e1 := E1.out
  have e2 := E2.out
  go_wp2
  go_ret
  exact ⟨rfl, below_next B1.out B2.out⟩
theorem enters_less (args : Array Value) (w : World) : (callFunc 117 args).run Try.prog w = .ok (.enter 117 args) w := enters_of Try.func117 (by kernel_rfl) rfl args w
set_option maxHeartbeats 1000000 in
theorem less_use {B : Nat} {w : World} {g gs : Nat} {room : Int} {us : List UseD} (h : IsTab B w g gs room us) (now : Int) (h0 : 0 ≤ now) (h1 : now < 4294967296) (p q : Nat) (hp : p < w.heap.size) (hq : q < w.heap.size)
    (cp : w.cell? ⟨p, 0, none⟩ = some (.pointer (some ⟨g, 0, none⟩))) (cq : w.cell? ⟨q, 0, none⟩ = some (.int .u32 now)) :
    LessV 117 #[.pointer (some ⟨p, 0, none⟩), .pointer (some ⟨q, 0, none⟩)] (fun i => i < us.length) (ltU room now us) w := by
  intro W i j hi hj hB
  have hu : us[i]? = some us[i] := List.getElem?_eq_getElem hi
  have hv : us[j]? = some us[j] := List.getElem?_eq_getElem hj
  have he : ltU room now us i j = betterB room now us[i] us[j] := by unfold ltU; rw [hu, hv]
  rw [he]
  have H := Lib.hid (better_is (h.below hB) i j _ _ hu hv now h0 h1)
  have cp' := (hB.cell (p := ⟨p, 0, none⟩) hp).trans cp
  have cq' := (hB.cell (p := ⟨q, 0, none⟩) hq).trans cq
  generalize betterB room now us[i] us[j] = z at *
  clear h hB cp cq hu hv he hi hj hp hq
  show Calls Try.prog 117 #[.int .i64 i, .int .i64 j, .pointer (some ⟨p, 0, none⟩), .pointer (some ⟨q, 0, none⟩)] W _
  go_enter Try.func117, Try.ntmps117
  go_wp2_with fail
  refine H.out.mono ?_
  rintro e w1 ⟨rfl, b1⟩
  go_wp2
  go_ret
  exact ⟨rfl, b1⟩
/-- The order in which they are cleaned. -/
def orderL (room now : Int) (us : List UseD) : List Nat := sortL (ltU room now us) (inL 1 us)
theorem placesL_mem {α : Type} {p : α → Bool} {l : List α} {k i : Nat} (h : i ∈ placesL p l k) : i < k ∧ ∃ x, l[i]? = some x ∧ p x = true := by
  unfold placesL at h
  rw [List.mem_filter, List.mem_range] at h
  refine ⟨h.1, ?_⟩
  cases hx : l[i]? with
  | none => rw [hx] at h; simp at h
  | some x => rw [hx] at h; exact ⟨x, rfl, h.2⟩
theorem inL_lt {s : Int} {us : List UseD} {i : Nat} (h : i ∈ inL s us) : i < us.length := (placesL_mem h).1
def box2 (g : Nat) (now : Int) (w : World) : World := (w.alloc (.cells #[.pointer (some ⟨g, 0, none⟩)] 80)).alloc (.cells #[.int .u32 now] 25)
theorem box2_facts (g : Nat) (now : Int) (w : World) : Below w.heap.size w (box2 g now w) ∧ (box2 g now w).heap.size = w.heap.size + 2 ∧ (box2 g now w).cell? ⟨w.heap.size, 0, none⟩ = some (.pointer (some ⟨g, 0, none⟩)) ∧ (box2 g now w).cell? ⟨w.heap.size + 1, 0, none⟩ = some (.int .u32 now) := by
  refine ⟨((Below.refl _ _).alloc (Nat.le_refl _) _).alloc (by simp) _, by unfold box2; simp, ?_, ?_⟩
  · unfold box2
    have h1 := below_box (w.alloc (.cells #[.pointer (some ⟨g, 0, none⟩)] 80)) (.cells #[.int .u32 now] 25)
    rw [h1.cell (p := ⟨w.heap.size, 0, none⟩) (by simp)]
    exact cell_box _ _ _
  · have := cell_box (w.alloc (.cells #[.pointer (some ⟨g, 0, none⟩)] 80)) (.int .u32 now) 25
    simp only [World.size_alloc] at this
    exact this
end Go.Proofs.Ytplkglepbedhoaa
