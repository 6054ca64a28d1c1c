/- The document's usage table: New, Better. -/
import Derived.Test.YtnlbjpnhepdicaaTab5
namespace Go.Proofs.Ytnlbjpnhepdicaa
open Go.RowKit Go.Sort
set_option linter.unusedVariables false
set_option linter.unusedSimpArgs false
set_option maxRecDepth 100000

theorem between_is (n most : Int) (w : World) (hm : 1 ≤ most) : Calls Try.prog 78 #[.int .i64 n, .int .i64 1, .int .i64 most] w fun e w' => e = .returned (.int .i64 (clampI most n)) ∧ w = w' := by
  by_cases h1 : n < 1
  · have HE : Hid (clampI most n = 1) := by show _ = _; unfold clampI; omega
    go_enter Try.func78, Try.ntmps78
    go_wp2
    go_ret
    exact ⟨ret_int HE.out.symm, rfl⟩
  · by_cases h2 : most < n
    · have HE : Hid (clampI most n = most) := by show _ = _; unfold clampI; omega
      go_enter Try.func78, Try.ntmps78
      go_wp2
      go_ret
      exact ⟨ret_int HE.out.symm, rfl⟩
    · have HE : Hid (clampI most n = n) := by show _ = _; unfold clampI; omega
      go_enter Try.func78, Try.ntmps78
      go_wp2
      go_ret
      exact ⟨ret_int HE.out.symm, rfl⟩
theorem info_ruse : (Try.prog.info? 46).map (fun i => (i.zero, i.size, i.bytes)) = some (some (.agg #[.int .i64 0, .int .i64 0, .int .u32 0]), 3, 24) := by kernel_rfl
theorem run_make_rowRU (n : Nat) (hn : n ≤ 200) (w : World) :
    (Instr.makeSlice 43 (.int .i64 (n : Int)) (.int .i64 (n : Int))).run Try.prog w = .ok (.slice (some ⟨w.heap.size, 0, none⟩) n n) (w.alloc (.cells (madeCells #[.int .i64 0, .int .i64 0, .int .u32 0] (n * 3)) 46)) := by
  obtain ⟨i0, hi, hz0, hz1, hz2⟩ := info_parts info_ruse
  have hr := run_make (P := Try.prog) w 43 46 i0 (.agg #[.int .i64 0, .int .i64 0, .int .u32 0]) Try.underlying43 hi hz0 .i64 .i64 n n (by omega) (by omega) (by rw [hz2]; omega) (by omega)
  simp only [Int.toNat_natCast, hz1, Value.cells] at hr
  exact hr
/-- The document's table: a struct of a number and a slice. -/
def RTabV (room : Int) (v : Value) : Value := .agg #[.int .i64 room, v]
def RNewPost (w : World) (room : Int) (us : List UseD) (e : Ending) (w' : World) : Prop := ∃ g, e = .returned (.agg #[.int .i64 room, .slice (some ⟨g, 0, none⟩) us.length us.length]) ∧ OwnsR' w.heap.size w' 46 3 (.slice (some ⟨g, 0, none⟩) us.length us.length) (usesV us) ∧ Below w.heap.size w w'
set_option maxHeartbeats 1600000 in
theorem rnew_is (segs room : Int) (w : World) (n : Nat) (hn : clampI 200 segs = n) :
    Calls Try.prog 26 #[.int .i64 segs, .int .i64 room] w (RNewPost w (clampI 4096 room) (List.replicate n zeroU)) := by
  have hb2 := clampI_of (most := 200) (n := segs) (by decide)
  rw [hn] at hb2
  have hn2 : n ≤ 200 := by omega
  have hmk := fun W => run_make_rowRU n hn2 W
  have HN := Lib.hid hn
  clear hn hb2
  go_enter Try.func26, Try.ntmps26
  go_wp2_with fail
  refine (between_is room 4096 _ (by decide)).mono ?_
  rintro e w' ⟨rfl, rfl⟩
  generalize clampI 4096 room = r at *
  go_wp2_with fail
  refine (between_is segs 200 _ (by decide)).mono ?_
  rintro e w' ⟨rfl, rfl⟩
  rw [HN.out]
  go_wp2
  refine bodyPost_ret (v := .agg #[.int .i64 r, .slice (some ⟨w.heap.size + 1, 0, none⟩) n n]) (by simp [results, Try.results26, go_sem]) rfl ⟨w.heap.size + 1, ?_, ?_, ?_⟩
  · rw [List.length_replicate]
  · have hl : (usesV (List.replicate n zeroU)).length = n := by rw [usesV_length, List.length_replicate]
    rw [List.length_replicate]
    have hrows : ∀ p ∈ usesV (List.replicate n zeroU), p.length = 3 := by
      intro p hp
      unfold usesV at hp
      rw [List.mem_map] at hp
      obtain ⟨u, _, rfl⟩ := hp
      rfl
    have hnew := fun o => OwnsR'.new (B := w.heap.size) (w := w.alloc o) (e := 46) (k := 3) (l := usesV (List.replicate n zeroU)) hrows (by simp) (by rw [hl]; unfold maxLen; omega) (made_uses n)
    rw [hl] at hnew
    have hnew2 := hnew (.cells #[.int .i64 r, .slice (some ⟨w.heap.size + 1, 0, none⟩) n n] 59)
    rw [World.size_alloc] at hnew2
    exact hnew2
  · exact ((Below.refl _ _).alloc (Nat.le_refl _) _).alloc (by simp) _
set_option maxHeartbeats 2000000 in
theorem rbetter_is (room : Int) (a : Option Addr) (cap : Nat) (us : List UseD) (i j : Nat) (u v : UseD) (hu : us[i]? = some u) (hv : us[j]? = some v) (now : Int) (h0 : 0 ≤ now) (h1 : now < 4294967296) (w : World) (hr : ReadsR w a 3 (usesV us)) (hou : UseOk room u) (hov : UseOk room v) (hr1 : 1 ≤ room) (hr2 : room ≤ 4096) :
    Calls Try.prog 31 #[.agg #[.int .i64 room, .slice a us.length cap], .int .i64 i, .int .i64 j, .int .u32 now] w fun e w' => e = .returned (.bool (betterB room now u v)) ∧ Below w.heap.size w w' := by
  have hgu := gainI_bound hr2 hou h0 h1
  have hgv := gainI_bound hr2 hov h0 h1
  have hau := ageI_bound h0 h1 hou.2.2.2.2.1
  have hav := ageI_bound h0 h1 hov.2.2.2.2.1
  obtain ⟨u1, u2, _, _, u5, u6⟩ := hou
  obtain ⟨v1, v2, _, _, v5, v6⟩ := hov
  have hi := (List.getElem?_eq_some_iff.1 hu).1
  have hj := (List.getElem?_eq_some_iff.1 hv).1
  have hx1 : (0 : Int) ≤ (i : Int) := by omega
  have hx2 : (i : Int) < (us.length : Int) := by omega
  have hy1 : (0 : Int) ≤ (j : Int) := by omega
  have hy2 : (j : Int) < (us.length : Int) := by omega
  obtain ⟨b, off, rfl, hb, hc⟩ := hr.row (usesV_get hu)
  obtain ⟨b', off', e2, _, hd⟩ := hr.row (usesV_get hv)
  obtain ⟨rfl, rfl⟩ : b = b' ∧ off = off' := by simpa using e2
  have c0 : w.cell? ⟨b, off + i * 3, none⟩ = some (.int .i64 u.live) := hc 0 _ rfl
  have c1 : w.cell? ⟨b, off + i * 3 + 1, none⟩ = some (.int .i64 u.state) := by have := hc 1 _ rfl; rwa [← Nat.add_assoc] at this
  have c2 : w.cell? ⟨b, off + i * 3 + 2, none⟩ = some (.int .u32 u.age) := by have := hc 2 _ rfl; rwa [← Nat.add_assoc] at this
  have d0 : w.cell? ⟨b, off + j * 3, none⟩ = some (.int .i64 v.live) := hd 0 _ rfl
  have d1 : w.cell? ⟨b, off + j * 3 + 1, none⟩ = some (.int .i64 v.state) := by have := hd 1 _ rfl; rwa [← Nat.add_assoc] at this
  have d2 : w.cell? ⟨b, off + j * 3 + 2, none⟩ = some (.int .u32 v.age) := by have := hd 2 _ rfl; rwa [← Nat.add_assoc] at this
  obtain ⟨p, hp⟩ : ∃ p, ageI now u.age = p := ⟨_, rfl⟩
  obtain ⟨q, hq⟩ : ∃ q, ageI now v.age = q := ⟨_, rfl⟩
  obtain ⟨G, hG⟩ : ∃ G, gainI room now u = G := ⟨_, rfl⟩
  obtain ⟨J, hJ⟩ : ∃ J, gainI room now v = J := ⟨_, rfl⟩
  have hG2 : (room - u.live) * p = G := by rw [← hp]; exact hG
  have hJ2 : (room - v.live) * q = J := by rw [← hq]; exact hJ
  rw [hG] at hgu
  rw [hJ] at hgv
  rw [hp] at hau
  rw [hq] at hav
  unfold betterB
  rw [hG, hJ]
  show Calls _ _ _ _ fun e w' => e = .returned (.bool (decide (J * (room + u.live) < G * (room + v.live)))) ∧ Below w.heap.size w w'
  have hE1 : IntKind.u64.wrap ((room - u.live) * p) = G := by rw [hG2]; exact IntWalk.u64_in _ (by omega)
  have hE2 : IntKind.u64.wrap ((room - v.live) * q) = J := by rw [hJ2]; exact IntWalk.u64_in _ (by omega)
  have hE3 : IntKind.u64.wrap (G * (room + v.live)) = G * (room + v.live) := prod_in hgu.1 hgu.2 (by omega) (by omega)
  have hE4 : IntKind.u64.wrap (J * (room + u.live)) = J * (room + u.live) := prod_in hgv.1 hgv.2 (by omega) (by omega)
  have HPe : Hid (now - min now u.age + 1 = p) := by show _ = _; rw [← hp]; unfold ageI; omega
  have HQe : Hid (now - min now v.age + 1 = q) := by show _ = _; rw [← hq]; unfold ageI; omega
  clear hc hd hu hv hi hj hr e2 hp hq hG hJ
  by_cases g1 : u.age ≤ now <;> by_cases g2 : v.age ≤ now
  · have k1 : now - u.age + 1 = p := by have := HPe.out; omega
    have k2 : now - v.age + 1 = q := by have := HQe.out; omega
    clear HPe HQe hG2 hJ2
    go_enter Try.func31, Try.ntmps31
    go_wp2
    go_ret
    exact ⟨rfl, (((Below.refl _ _).alloc (Nat.le_refl _) _).alloc (by simp) _).alloc (by simp; omega) _⟩
  · have k1 : now - u.age + 1 = p := by have := HPe.out; omega
    have k2 : room - v.live = J := by
      have h1 : q = 1 := by have := HQe.out; omega
      rw [h1, Int.mul_one] at hJ2
      exact hJ2
    clear hE2
    clear HPe HQe hG2 hJ2
    go_enter Try.func31, Try.ntmps31
    go_wp2
    go_ret
    exact ⟨rfl, (((Below.refl _ _).alloc (Nat.le_refl _) _).alloc (by simp) _).alloc (by simp; omega) _⟩
  · have k1 : room - u.live = G := by
      have h1 : p = 1 := by have := HPe.out; omega
      rw [h1, Int.mul_one] at hG2
      exact hG2
    clear hE1
    have k2 : now - v.age + 1 = q := by have := HQe.out; omega
    clear HPe HQe hG2 hJ2
    go_enter Try.func31, Try.ntmps31
    go_wp2
    go_ret
    exact ⟨rfl, (((Below.refl _ _).alloc (Nat.le_refl _) _).alloc (by simp) _).alloc (by simp; omega) _⟩
  · have k1 : room - u.live = G := by
      have h1 : p = 1 := by have := HPe.out; omega
      rw [h1, Int.mul_one] at hG2
      exact hG2
    clear hE1
    have k2 : room - v.live = J := by
      have h1 : q = 1 := by have := HQe.out; omega
      rw [h1, Int.mul_one] at hJ2
      exact hJ2
    clear hE2
    clear HPe HQe hG2 hJ2
    go_enter Try.func31, Try.ntmps31
    go_wp2
    go_ret
    exact ⟨rfl, (((Below.refl _ _).alloc (Nat.le_refl _) _).alloc (by simp) _).alloc (by simp; omega) _⟩
end Go.Proofs.Ytnlbjpnhepdicaa
