/- The usage table's closures, and what is asked of all segments: Clean, First, Live, Uses. -/
import Derived.Test.YtplkglepbedhoaaTab2
import Derived.Deep.RegionHeld3
namespace Go.Proofs.Ytplkglepbedhoaa
open Go.RowKit Go.Sort
set_option linter.unusedVariables false
set_option linter.unusedSimpArgs false
set_option maxRecDepth 100000

theorem enters_in (args : Array Value) (w : World) : (callFunc 186 args).run Try.prog w = .ok (.enter 186 args) w := enters_of Try.func186 (by kernel_rfl) rfl args w
theorem enters_rel (args : Array Value) (w : World) : (callFunc 107 args).run Try.prog w = .ok (.enter 107 args) w := enters_of Try.func107 (by kernel_rfl) rfl args w
def boxI (s : Int) : Obj := .cells #[.int .i64 s] 3
theorem in_is (s : Int) (w : World) : Calls Try.prog 115 #[.int .i64 s] w fun e w' => e = .returned (.func (.func 186) #[] #[.pointer (some ⟨w.heap.size, 0, none⟩)]) ∧ w.alloc (boxI s) = w' := by
  go_enter Try.func115, Try.ntmps115
  go_wp2
  go_ret
  exact ⟨rfl, rfl⟩
theorem in_pred (s : Int) (w : World) (b : Nat) (hb : b < w.heap.size) (hc : w.cell? ⟨b, 0, none⟩ = some (.int .i64 s)) :
    PredV 186 #[.pointer (some ⟨b, 0, none⟩)] (fun u => .agg (useV u).toArray) (fun _ => True) (fun u => u.state == s) w := by
  intro W u _ hB
  have hc' : W.cell? ⟨b, 0, none⟩ = some (.int .i64 s) := (hB.cell (p := ⟨b, 0, none⟩) hb).trans hc
  have hb' : b < W.heap.size := Nat.lt_of_lt_of_le hb hB.size
  clear hB hc hb
  show Calls Try.prog 186 #[.agg #[.int .i64 u.live, .int .i64 u.state, .int .u32 u.age], .pointer (some ⟨b, 0, none⟩)] W _
  go_enter Try.func186, Try.ntmps186
  go_wp2
  go_ret
  exact ⟨rfl, below_box _ _⟩
/-- Dirty, with nothing live. -/
def idleU (u : UseD) : Bool := (u.state == 1) && (u.live == 0)
theorem rel_pred (w : World) : PredV 107 #[] (fun u => .agg (useV u).toArray) (fun _ => True) idleU w := by
  intro W u _ hB
  clear hB
  show Calls Try.prog 107 #[.agg #[.int .i64 u.live, .int .i64 u.state, .int .u32 u.age]] W _
  unfold idleU
  cases h1 : u.state == 1 with
  | true =>
    go_enter Try.func107, Try.ntmps107
    go_wp2
    go_ret
    exact ⟨rfl, below_box _ _⟩
  | false =>
    go_enter Try.func107, Try.ntmps107
    go_wp2
    go_ret
    exact ⟨rfl, below_box _ _⟩
theorem tab_reads {B : Nat} {w : World} {g gs : Nat} {room : Int} {us : List UseD} (h : IsTab B w g gs room us) : ReadsR w (some ⟨gs, 0, none⟩) 3 (usesV us) := by
  obtain ⟨a, c, hv, hr, _, _⟩ := h.2.1.reads
  obtain ⟨rfl, _, _⟩ := Value.slice.inj hv
  exact hr
/-- How many are in a state; the first one. -/
def inL (s : Int) (us : List UseD) : List Nat := placesL (fun u => u.state == s) us us.length
theorem cell_box (w : World) (v : Value) (t : TypeId) : (w.alloc (.cells #[v] t)).cell? ⟨w.heap.size, 0, none⟩ = some v := by
  unfold World.cell?
  rw [heap_alloc_new]
  rfl
/-- Places of those in a state, asked by a closure whose box was just made. -/
theorem places_in {B : Nat} {w : World} {g gs : Nat} {room : Int} {us : List UseD} (h : IsTab B w g gs room us) (s : Int) (W : World) (hW : Below (w.alloc (boxI s)).heap.size (w.alloc (boxI s)) W) :
    Calls Try.prog 76 #[.slice (some ⟨gs, 0, none⟩) us.length us.length, .func (.func 186) #[] #[.pointer (some ⟨w.heap.size, 0, none⟩)]] W (PlacesPost W (fun u => u.state == s) us) :=
  places_use us (some ⟨gs, 0, none⟩) us.length W ((tab_reads h).below ((below_box w _).trans (hW.mono (below_box w (boxI s)).size))) (by have := h.2.2.2.2.2.2.1; omega) (fun _ => True) (fun _ _ => trivial) (fun u => u.state == s) 186 #[.pointer (some ⟨w.heap.size, 0, none⟩)] enters_in
    (in_pred s _ _ (Nat.lt_of_lt_of_le (by simp) hW.size) ((hW.cell (p := ⟨w.heap.size, 0, none⟩) (by simp)).trans (cell_box w _ _)))
theorem below_in {w w' : World} {s : Int} (h : Below (w.alloc (boxI s)).drew.heap.size (w.alloc (boxI s)).drew w') : Below w.heap.size w w' := by
  have h1 := below_box w (boxI s)
  have h2 : Below w.heap.size w (w.alloc (boxI s)).drew := ⟨h1.os, h1.tape, h1.output, h1.size, h1.block⟩
  exact h2.trans (h.mono h2.size)
set_option maxHeartbeats 1600000 in
theorem tclean_is {B : Nat} {w : World} {g gs : Nat} {room : Int} {us : List UseD} (h : IsTab B w g gs room us) :
    Calls Try.prog 50 #[.pointer (some ⟨g, 0, none⟩)] w fun e w' => e = .returned (.int .i64 (inL 0 us).length) ∧ Below w.heap.size w w' := by
  obtain ⟨c0, c1⟩ := tab_facts h
  obtain ⟨l1, l2⟩ := tab_lt h
  have c1' := (tab_facts (h.below (below_box w (boxI 0)))).2
  have HP := Lib.hid (places_in h 0)
  clear h
  unfold inL
  obtain ⟨q, hq⟩ : ∃ q, (placesL (fun u : UseD => u.state == 0) us us.length) = q := ⟨_, rfl⟩
  have HQ := Lib.hid hq
  rw [hq]
  clear hq
  go_enter Try.func50, Try.ntmps50
  go_wp2_with fail
  go_region_held3 (fun w' => w'.cell? ⟨g, 1, none⟩ = some (.slice (some ⟨gs, 0, none⟩) us.length us.length))
    (first | exact c1 | exact c1' | exact c2)
    ((first
      | (go_at_call 115; refine (in_is 0 _).mono ?_; rintro e wi ⟨rfl, rfl⟩)
      | (go_at_call 76; refine (HP.out _ (by first | exact below_drew _ | exact Below.refl _ _)).mono ?_; rintro e wp ⟨v, rfl, ho, hb⟩; have c2 := (hb.cell (p := ⟨g, 1, none⟩) (by simp; omega)).trans c1'; rw [HQ.out] at ho; have hb2 := below_in hb; obtain ⟨ap, cp, rfl, _, _, _⟩ := ho.reads)))
  all_goals (rename_i hHeld; clear hHeld)
  all_goals go_wp2
  all_goals go_ret
  all_goals exact ⟨ret_int (by rw [natV_length]), hb2⟩
/-- How many blocks are live among the first k segments. -/
def liveTo (us : List UseD) (k : Nat) : Int := ((us.take k).map UseD.live).sum
theorem liveTo_succ {us : List UseD} {k : Nat} {u : UseD} (h : us[k]? = some u) : liveTo us (k + 1) = liveTo us k + u.live := by
  unfold liveTo
  rw [List.take_add_one, h]
  simp
theorem liveTo_bound {us : List UseD} {room : Int} (h : TabOk room us) : ∀ k, k ≤ us.length → 0 ≤ liveTo us k ∧ liveTo us k ≤ 4096 * k
  | 0, _ => by unfold liveTo; simp
  | k + 1, hk => by
    have ih := liveTo_bound h k (by omega)
    have hu : us[k]? = some us[k] := List.getElem?_eq_getElem (by omega)
    have ho := h.2.2.2.2 us[k] (List.getElem_mem _)
    rw [liveTo_succ hu]
    have h1 := ho.1
    have h2 := ho.2.1
    have h3 := h.2.1
    omega
set_option maxHeartbeats 1600000 in
theorem tlive_is {B : Nat} {w : World} {g gs : Nat} {room : Int} {us : List UseD} (h : IsTab B w g gs room us) :
    Calls Try.prog 43 #[.pointer (some ⟨g, 0, none⟩)] w fun e w' => e = .returned (.int .i64 (liveTo us us.length)) ∧ Below w.heap.size w w' := by
  obtain ⟨c0, c1⟩ := tab_facts h
  have hlen := h.2.2.2.2.2.2.1
  have hbd := liveTo_bound h.2.2.2
  have HBD := Lib.hid hbd
  have H := Lib.hid h
  obtain ⟨n, hnn⟩ : ∃ n, us.length = n := ⟨_, rfl⟩
  rw [hnn] at c1 hlen ⊢
  have HN := Lib.hid hnn
  clear h hnn hbd
  go_enter Try.func43, Try.ntmps43
  go_wp2
  go_loopw [3, 11] (fun s i wr => ∃ k : Nat, k ≤ n ∧ i = .int .i64 k ∧ s = .int .i64 (liveTo us k) ∧ Hid (Below w.heap.size w wr)) (fun _ i _ => n - (intOf i).toNat)
  case atStart => exact ⟨0, Nat.zero_le _, rfl, rfl, Below.refl _ _⟩
  case round =>
    obtain ⟨k, hk, rfl, rfl, HB⟩ := hrel
    by_cases hlt : k < n
    · obtain ⟨u, hrow⟩ : ∃ r, us[k]? = some r := ⟨_, List.getElem?_eq_getElem (by rw [HN.out]; exact hlt)⟩
      obtain ⟨r0, r1, r2⟩ := tab_row (H.out.below HB.out) hrow
      have hb1 := HBD.out k (by rw [HN.out]; omega)
      have hb2 := HBD.out (k + 1) (by rw [HN.out]; omega)
      have HS : Hid (liveTo us (k + 1) = liveTo us k + u.live) := liveTo_succ hrow
      rw [HS.out] at hb2
      have hx1 : (0 : Int) ≤ (k : Int) := by omega
      have hx2 : (k : Int) < (n : Int) := by omega
      have hy1 : 0 ≤ liveTo us k := hb1.1
      have hy2 : liveTo us k ≤ 1000000 := by omega
      have hy3 : 0 ≤ liveTo us k + u.live := hb2.1
      have hy4 : liveTo us k + u.live ≤ 1000000 := by omega
      clear hrow hb1 hb2
      generalize liveTo us k = z at *
      go_wp2
      go_roundw
      case rel => exact ⟨k + 1, by omega, by go_num, by rw [HS.out], below_next HB.out (below_box _ _)⟩
      case measure => simp [intOf]; omega
    · have hkn : k = n := by omega
      subst hkn
      go_wp2
      go_ret
      exact ⟨rfl, HB.out⟩
theorem uses_rows (us : List UseD) : ∀ p ∈ usesV us, p.length = 3 := by
  intro p hp
  unfold usesV at hp
  rw [List.mem_map] at hp
  obtain ⟨u, _, rfl⟩ := hp
  rfl
theorem uses_one (us : List UseD) : OneRows (usesV us) := by
  intro p hp u hu
  unfold usesV at hp
  rw [List.mem_map] at hp
  obtain ⟨x, _, rfl⟩ := hp
  simp [useV] at hu
  rcases hu with rfl | rfl | rfl <;> rfl
set_option maxHeartbeats 1000000 in
theorem tuses_is {B : Nat} {w : World} {g gs : Nat} {room : Int} {us : List UseD} (h : IsTab B w g gs room us) :
    Calls Try.prog 47 #[.pointer (some ⟨g, 0, none⟩)] w fun e w' => ∃ v, e = .returned v ∧ OwnsR' w.heap.size w' 28 3 v (usesV us) ∧ Below w.heap.size w w' := by
  obtain ⟨c0, c1⟩ := tab_facts h
  have hr := tab_reads h
  have hlen := h.2.2.2.2.2.2.1
  have HR := Lib.hid hr
  have hl := usesV_length us
  rw [← hl] at c1 hlen
  have HONE := Lib.hid (uses_one us)
  clear hr h hl
  obtain ⟨l, hll⟩ : ∃ l, usesV us = l := ⟨_, rfl⟩
  rw [hll] at c1 hlen HR HONE ⊢
  clear hll
  go_enter Try.func47, Try.ntmps47
  go_wp2_with (at_builtin; refine wpList_append_rows' rfl _ _ 24 rfl w.heap.size 28 _ 3 24 Try.underlying24 info_use rfl (by decide) _ [] rfl (OwnsR'.nil _ _ _ _) _ l.length l rfl HR.out HONE.out (by simp; omega) (by unfold maxLen; simp; omega) (Nat.le_refl _) ?_; intro v' w2 ho hg)
  go_ret
  exact ⟨_, rfl, ho, (OwnsR'.nil w.heap.size w 28 3).grown (Below.refl _ _) (Nat.le_refl _) hg⟩
end Go.Proofs.Ytplkglepbedhoaa
