/- The document's open files: Close. -/
import Derived.Test.YtbpklbicbeckdaaGbonnfagm
import Derived.Deep.RegionHeld
namespace Go.Proofs.Ytbpklbicbeckdaa
open Go.RowKit Go.Sort
set_option linter.unusedVariables false
set_option linter.unusedSimpArgs false
set_option maxRecDepth 100000

theorem size_rfile : (Try.prog.info? 77).map (·.size) = some 5 := by kernel_rfl
theorem row_rfile : ∃ d, Try.prog.underlying 77 = some d ∧ d.isRow = true := by
  cases h : Try.prog.underlying 77 with
  | none => exact absurd h (by decide)
  | some d =>
    refine ⟨d, rfl, ?_⟩
    have : (Try.prog.underlying 77).map (·.isRow) = some true := by kernel_rfl
    rw [h] at this
    simpa using this
theorem load_rfile {w : World} {g : Nat} {a b c d e : Value} (h : Five w g a b c d e) : (loadVar 77 ⟨g, 0, none⟩).run Try.prog w = .ok (.agg #[a, b, c, d, e]) w := by
  obtain ⟨t, ht, hr⟩ := row_rfile
  obtain ⟨h0, h1, h2, h3, h4⟩ := h
  refine run_loadVar_mid w g 0 77 [a, b, c, d, e] t (fun j v hv => ?_) ht hr size_rfile
  rw [Nat.zero_add]
  match j, hv with
  | 0, hv => cases hv; exact h0
  | 1, hv => cases hv; exact h1
  | 2, hv => cases hv; exact h2
  | 3, hv => cases hv; exact h3
  | 4, hv => cases hv; exact h4
theorem results_rfile {fn : Func} {p u x y : Tmp} (h : fn.results = #[.tmp u, .cell p 77, .tmp x, .tmp y]) (tmps : Array Value) (w : World) (g : Nat) {a b c d e : Value} (hp : tmps.getD p undef = .pointer (some ⟨g, 0, none⟩)) (hf : Five w g a b c d e) :
    (results fn tmps).run Try.prog w = .ok (.tuple #[tmps.getD u undef, .agg #[a, b, c, d, e], tmps.getD x undef, tmps.getD y undef]) w := by
  have e1 : (results fn tmps).run Try.prog w = ((asAddr (tmps.getD p undef)).run Try.prog w).andThen fun a w₁ => ((loadVar 77 a).run Try.prog w₁).andThen fun v w₂ => .ok (.tuple #[tmps.getD u undef, v, tmps.getD x undef, tmps.getD y undef]) w₂ := by
    simp only [results, h]
    simp [Sem.run_bind, Result.andThen]
  rw [e1, hp]
  simp only [asAddr, Sem.run_pure, Result.andThen_ok, load_rfile hf]
def RClosePost (B : Nat) (w : World) (q : List FileD × FileD × Bool × Int) (e : Ending) (w' : World) : Prop := ∃ v, e = .returned (.tuple #[v, fileA q.2.1, .bool q.2.2.1, .int .i64 q.2.2.2]) ∧ RFiles B w' v q.1 ∧ Below w.heap.size w w'
theorem RFiles.keptB {B : Nat} {w w' : World} {b : Nat} {cs : Array Value} {v : Value} {fl : List FileD} (h : RFiles B w v fl) (hg : w.grownBy w' (some b)) (hb : B ≤ b → ∀ j, v.ownBlock = some j → j ≠ b) : RFiles B w' v fl := by
  obtain ⟨a, c, e, h1⟩ := h
  refine ⟨a, c, e, h1.kept hg ?_⟩
  rcases hv : v.ownBlock with _ | j
  · exact .inl rfl
  · right
    intro e9
    have e8 : j = b := Option.some.inj e9
    have hlt := h1.lt j hv
    exact hb (by omega) j hv e8
set_option maxHeartbeats 2000000 in
theorem rfclose_is {B : Nat} {w : World} {v : Value} {fl : List FileD} (h : RFiles B w v fl) (hB : B ≤ w.heap.size) (hl : fl.length ≤ 64) (hf : FewRefs 1000 fl) (n : Int) :
    Calls Try.prog 30 #[v, .int .i64 n] w (RClosePost B w (closeF fl n)) := by
  obtain ⟨a, c, rfl, h1⟩ := id h
  obtain ⟨hr, _, _⟩ := h.reads
  obtain ⟨m, hm⟩ : ∃ m, fl.length = m := ⟨_, rfl⟩
  rw [hm] at h hl ⊢
  have HM := Lib.hid hm
  have bz := below_box w (.cells #[.int .i64 0, .int .i64 0, .int .i64 0, .int .i64 0, .int .i64 0] 77)
  have nz := heap_alloc_new w (.cells #[.int .i64 0, .int .i64 0, .int .i64 0, .int .i64 0, .int .i64 0] 77)
  obtain ⟨wz, hwz⟩ : ∃ x, w.alloc (.cells #[.int .i64 0, .int .i64 0, .int .i64 0, .int .i64 0, .int .i64 0] 77) = x := ⟨_, rfl⟩
  rw [hwz] at bz nz
  obtain ⟨b0, hb0⟩ : ∃ x, w.heap.size = x := ⟨_, rfl⟩
  have HB0 := Lib.hid hb0
  rw [hb0] at nz
  have H := Lib.hid (h.below bz)
  have HNE : Hid (∀ j, Value.ownBlock (.slice a m c) = some j → j ≠ b0) := Lib.hid (fun j hj => by
    obtain ⟨a9, c9, e9, h9⟩ := h
    have := (h9.lt j hj).2
    omega)
  have HZ := Lib.hid bz
  have NZ := Lib.hid nz
  have his := rfis_is a m c fl hm hl n wz (hr.below bz)
  cases ho : openAt fl n with
  | none =>
    have hcl : closeF fl n = (fl, zeroF, false, 2) := by unfold closeF; rw [ho]
    rw [hcl, show (openAt fl n).isSome = false by rw [ho]; rfl] at *
    have HIS := Lib.hid his
    have x0 := cell_of_row nz 0
    have x1 := cell_of_row nz 1
    have x2 := cell_of_row nz 2
    have x3 := cell_of_row nz 3
    have x4 := cell_of_row nz 4
    have ff := fun i => frozen_of_row wz b0 i _ _ nz
    have hg5 := five_set (.int .i64 0) (.int .i64 0) (.int .i64 0) (.int .i64 0) (.int .i64 0) nz
    obtain ⟨W5, hW5⟩ : ∃ x, (((((wz.setCell ⟨b0, 0, none⟩ (.int .i64 0)).setCell ⟨b0, 1, none⟩ (.int .i64 0)).setCell ⟨b0, 2, none⟩ (.int .i64 0)).setCell ⟨b0, 3, none⟩ (.int .i64 0)).setCell ⟨b0, 4, none⟩ (.int .i64 0)) = x := ⟨_, rfl⟩
    rw [hW5] at hg5
    have G := Lib.hid hg5
    clear hcl ho his h1 h hr hm nz bz hg5
    go_enter Try.func30, Try.ntmps30
    go_wp2_with fail
    refine HIS.out.mono ?_
    rintro e w' ⟨rfl, rfl⟩
    go_wp2
    refine bodyPost_ret (results_rfile rfl _ _ b0 rfl G.out.1) rfl ?_
    refine ⟨_, rfl, H.out.keptB (cs := #[]) G.out.2 (fun _ => HNE.out), ?_⟩
    exact HZ.out.grown G.out.2 HZ.out.size (fun i hi => by obtain rfl := Option.some.inj hi; have := HB0.out; omega)
  | some o =>
    rw [ho] at his
    have HIS := Lib.hid his
    obtain ⟨i, rfl, hu, hk⟩ := openAt_some ho
    have hcl : closeF fl (i : Int) = if o.refs = 1 then (fl.set i zeroF, o, true, 0) else (fl.set i { o with refs := o.refs - 1 }, o, false, 0) := by unfold closeF; rw [ho, Int.toNat_natCast]
    obtain ⟨q, hq⟩ : ∃ q, closeF fl (i : Int) = q := ⟨_, rfl⟩
    rw [hq] at hcl ⊢
    have HCL := Lib.hid hcl
    have hb := hf o (List.mem_of_getElem? hu)
    have hi := (List.getElem?_eq_some_iff.1 hu).1
    have HPUT := Lib.hid (fun (o' : FileD) (W : World) (hW : Below wz.heap.size wz W) => rfput_is a c fl i hi (by omega) o' W ((hr.below bz).below hW))
    rw [hm] at HPUT
    unfold fileA at HPUT
    obtain ⟨b, off, rfl, hb9, hc⟩ := (hr.below bz).row (filesV_get hu)
    have c0 : wz.cell? ⟨b, off + i * 5, none⟩ = some (.int .i64 o.kind) := hc 0 _ rfl
    have c1 : wz.cell? ⟨b, off + i * 5 + 1, none⟩ = some (.int .i64 o.num) := by have := hc 1 _ rfl; rwa [← Nat.add_assoc] at this
    have c2 : wz.cell? ⟨b, off + i * 5 + 2, none⟩ = some (.int .i64 o.at_) := by have := hc 2 _ rfl; rwa [← Nat.add_assoc] at this
    have c3 : wz.cell? ⟨b, off + i * 5 + 3, none⟩ = some (.int .i64 o.flags) := by have := hc 3 _ rfl; rwa [← Nat.add_assoc] at this
    have c4 : wz.cell? ⟨b, off + i * 5 + 4, none⟩ = some (.int .i64 o.refs) := by have := hc 4 _ rfl; rwa [← Nat.add_assoc] at this
    have hi2 : (i : Int) < (m : Int) := by omega
    have hi0 : (0 : Int) ≤ (i : Int) := by omega
    have hwr : IntKind.i64.wrap (o.refs - 1) = o.refs - 1 := IntWalk.i64_in _ (by omega)
    have b8 := below_box wz (.cells #[.int .i64 o.kind, .int .i64 o.num, .int .i64 o.at_, .int .i64 o.flags, .int .i64 o.refs] 77)
    have n8 := heap_alloc_new wz (.cells #[.int .i64 o.kind, .int .i64 o.num, .int .i64 o.at_, .int .i64 o.flags, .int .i64 o.refs] 77)
    obtain ⟨w8, hw8⟩ : ∃ x, wz.alloc (.cells #[.int .i64 o.kind, .int .i64 o.num, .int .i64 o.at_, .int .i64 o.flags, .int .i64 o.refs] 77) = x := ⟨_, rfl⟩
    rw [hw8] at b8 n8
    obtain ⟨g8, hg8⟩ : ∃ x, wz.heap.size = x := ⟨_, rfl⟩
    have HG8 : Hid (b0 < g8 ∧ g8 < w8.heap.size) := Lib.hid ⟨by rw [← hg8]; exact (Array.getElem?_eq_some_iff.1 nz).1, by rw [← hg8]; exact (Array.getElem?_eq_some_iff.1 n8).1⟩
    rw [hg8] at n8
    have N8 := Lib.hid n8
    have K8 := Lib.hid b8
    have NZ8 := Lib.hid ((b8.block b0 (Array.getElem?_eq_some_iff.1 nz).1).trans nz)
    have y4 := cell_of_row n8 4
    have HO := Lib.hid hb
    clear ho his h1 h hr hm hu hk hc hb9 hi hf hb hcl hq nz bz b8 n8
    by_cases hre : o.refs = 1
    · have hone : (o.refs == 1) = true := by rw [hre]; rfl
      have HQ := Lib.hid (HCL.out.trans (if_pos hre))
      clear hre HCL
      go_enter Try.func30, Try.ntmps30
      go_wp2_with fail
      refine HIS.out.mono ?_
      rintro e w' ⟨rfl, rfl⟩
      go_wp2_with fail
      clear y4 c0 c1 c2 c3 c4 hwz hw8 hg8
      have n9 := N8.out
      skip
      refine wp_region_held_drew (S := fun W => (W.cell? ⟨g8, 0, none⟩ = some (.int .i64 o.kind) ∧ W.cell? ⟨g8, 1, none⟩ = some (.int .i64 o.num) ∧ W.cell? ⟨g8, 2, none⟩ = some (.int .i64 o.at_) ∧ W.cell? ⟨g8, 3, none⟩ = some (.int .i64 o.flags) ∧ W.cell? ⟨g8, 4, none⟩ = some (.int .i64 o.refs))) (by kernel_rfl) ⟨cell_of_row (w := w8.drew) n9 0, cell_of_row (w := w8.drew) n9 1, cell_of_row (w := w8.drew) n9 2, cell_of_row (w := w8.drew) n9 3, cell_of_row (w := w8.drew) n9 4⟩ (fun hHeld => ?_)
      have KD := Lib.hid (K8.out.drew)
      have ND : Hid (w8.drew.heap[g8]? = _) := Lib.hid n9
      have NZD : Hid (w8.drew.heap[b0]? = _) := Lib.hid NZ8.out
      skip
      generalize w8.drew = w9 at *
      refine wpAnyH_take (i := 0) (v := .slice (some ⟨b, off, none⟩) m c) rfl (by kernel_rfl) (by kernel_rfl) (by kernel_rfl) (fun _ _ _ h => h) (Or.inl ⟨by rfl, by intro W hSw; clear hSw; go_simp⟩) (by assumption) ?_
      try simp only [List.getElem_toArray, List.getElem_cons_zero, List.getElem_cons_succ, Act.put, List.setIfInBounds_toArray, List.set_cons_zero, List.set_cons_succ]
      refine wpAnyH_take (i := 1) (v := .int .i64 (i : Int)) rfl (by kernel_rfl) (by kernel_rfl) (by kernel_rfl) (fun _ _ _ h => h) (Or.inl ⟨by rfl, by intro W hSw; clear hSw; go_simp⟩) (by assumption) ?_
      try simp only [List.getElem_toArray, List.getElem_cons_zero, List.getElem_cons_succ, Act.put, List.setIfInBounds_toArray, List.set_cons_zero, List.set_cons_succ]
      refine wpAnyH_take (i := 2) (v := .agg #[.int .i64 0, .int .i64 0, .int .i64 0, .int .i64 0, .int .i64 0]) rfl (by kernel_rfl) (by kernel_rfl) (by kernel_rfl) (fun _ _ _ h => h) (Or.inl ⟨by rfl, by intro W hSw; clear hSw; go_simp⟩) (by assumption) ?_
      try simp only [List.getElem_toArray, List.getElem_cons_zero, List.getElem_cons_succ, Act.put, List.setIfInBounds_toArray, List.set_cons_zero, List.set_cons_succ]
      refine wpAnyH_take (i := 4) (v := .agg #[.int .i64 o.kind, .int .i64 o.num, .int .i64 o.at_, .int .i64 o.flags, .int .i64 o.refs]) rfl (by kernel_rfl) (by kernel_rfl) (by kernel_rfl) (fun _ _ _ h => h) (Or.inl ⟨by rfl, by intro W hSw; obtain ⟨q0, q1, q2, q3, q4⟩ := hSw; go_simp⟩) (by assumption) ?_
      try simp only [List.getElem_toArray, List.getElem_cons_zero, List.getElem_cons_succ, Act.put, List.setIfInBounds_toArray, List.set_cons_zero, List.set_cons_succ]
      refine wpAnyH_ready (rs := [3]) (by kernel_rfl) (by simp) ?_
      refine AllReadyH.cons rfl (fun K hK => ?_) AllReadyH.nil
      go_simp
      refine (HPUT.out ⟨0, 0, 0, 0, 0⟩ w9 KD.out).mono ?_
      rintro e w10 ⟨v2, rfl, hv2, b10⟩
      have n10 := (b10.block g8 (Array.getElem?_eq_some_iff.1 ND.out).1).trans ND.out
      have z10 := (b10.block b0 (Array.getElem?_eq_some_iff.1 NZD.out).1).trans NZD.out
      have HLT9 : Hid (b0 < w9.heap.size) := Lib.hid (Array.getElem?_eq_some_iff.1 NZD.out).1
      dsimp only
      refine hK.out _ _ ⟨cell_of_row n10 0, cell_of_row n10 1, cell_of_row n10 2, cell_of_row n10 3, cell_of_row n10 4⟩ (fun hH10 => ?_)
      clear hK K
      try simp only [List.getElem_toArray, List.getElem_cons_zero, List.getElem_cons_succ, Act.put, List.setIfInBounds_toArray, List.set_cons_zero, List.set_cons_succ]
      refine wpAnyH_take (i := 5) (v := v2) rfl (by kernel_rfl) (by kernel_rfl) (by kernel_rfl) (fun _ _ _ h => h) (Or.inl ⟨by rfl, by intro W hSw; clear hSw; go_simp⟩) (by assumption) ?_
      try simp only [List.getElem_toArray, List.getElem_cons_zero, List.getElem_cons_succ, Act.put, List.setIfInBounds_toArray, List.set_cons_zero, List.set_cons_succ]
      have x0 := cell_of_row z10 0
      have x1 := cell_of_row z10 1
      have x2 := cell_of_row z10 2
      have x3 := cell_of_row z10 3
      have x4 := cell_of_row z10 4
      have ff := fun i => frozen_of_row w10 b0 i _ _ z10
      have hg5 := five_set (.int .i64 o.kind) (.int .i64 o.num) (.int .i64 o.at_) (.int .i64 o.flags) (.int .i64 o.refs) z10
      obtain ⟨W5, hW5⟩ : ∃ x, (((((w10.setCell ⟨b0, 0, none⟩ (.int .i64 o.kind)).setCell ⟨b0, 1, none⟩ (.int .i64 o.num)).setCell ⟨b0, 2, none⟩ (.int .i64 o.at_)).setCell ⟨b0, 3, none⟩ (.int .i64 o.flags)).setCell ⟨b0, 4, none⟩ (.int .i64 o.refs)) = x := ⟨_, rfl⟩
      rw [hW5] at hg5
      have G := Lib.hid hg5
      have n11 := (hg5.2.block g8 (Array.getElem?_eq_some_iff.1 n10).1 (by intro e; have : g8 = b0 := Option.some.inj e; have := HG8.out; omega)).trans n10
      have HV := Lib.hid hv2
      have B10 := Lib.hid b10
      refine wpAnyH_ready (rs := [6]) (by kernel_rfl) (by simp) ?_
      refine AllReadyH.cons rfl (fun K hK => ?_) AllReadyH.nil
      go_simp
      refine hK.out _ _ ⟨cell_of_row n11 0, cell_of_row n11 1, cell_of_row n11 2, cell_of_row n11 3, cell_of_row n11 4⟩ (fun hH11 => ?_)
      clear hK K x0 x1 x2 x3 x4 ff hW5 hg5 n11 n10 z10 hv2 b10
      try simp only [List.getElem_toArray, List.getElem_cons_zero, List.getElem_cons_succ, Act.put, List.setIfInBounds_toArray, List.set_cons_zero, List.set_cons_succ]
      refine wpAnyH_take (i := 7) (v := .bool true) rfl (by kernel_rfl) (by kernel_rfl) (by kernel_rfl) (fun _ _ _ h => h) (Or.inl ⟨by rfl, by intro W hSw; clear hSw; go_simp⟩) (by assumption) ?_
      try simp only [List.getElem_toArray, List.getElem_cons_zero, List.getElem_cons_succ, Act.put, List.setIfInBounds_toArray, List.set_cons_zero, List.set_cons_succ]
      refine wpAnyH_take (i := 8) (v := .int .i64 0) rfl (by kernel_rfl) (by kernel_rfl) (by kernel_rfl) (fun _ _ _ h => h) (Or.inl ⟨by rfl, by intro W hSw; clear hSw; go_simp⟩) (by assumption) ?_
      try simp only [List.getElem_toArray, List.getElem_cons_zero, List.getElem_cons_succ, Act.put, List.setIfInBounds_toArray, List.set_cons_zero, List.set_cons_succ]
      refine wpAnyH_done (by kernel_rfl) ?_ _
      clear hHeld hH10 hH11
      go_wp2
      refine bodyPost_ret (results_rfile rfl _ _ b0 rfl G.out.1) rfl ?_
      rw [HQ.out]
      have hbb := HB0.out
      have kk : Below w.heap.size w w10 := (HZ.out.trans (KD.out.mono HZ.out.size)).trans (B10.out.mono (HZ.out.trans (KD.out.mono HZ.out.size)).size)
      refine ⟨_, rfl, ?_, kk.grown G.out.2 kk.size (fun i hi => by obtain rfl := Option.some.inj hi; omega)⟩
      obtain ⟨a9, c9, rfl, h9⟩ := HV.out
      refine RFiles.keptB (cs := #[]) (RFiles.less ⟨a9, c9, rfl, h9⟩ ?_) G.out.2 (fun _ j hj => ?_)
      · exact Nat.le_trans hB (HZ.out.trans (KD.out.mono HZ.out.size)).size
      · have h1 := (h9.lt j hj).1
        have h2 := HLT9.out
        omega
    · have hone : (o.refs == 1) = false := by simp [hre]
      have HQ := Lib.hid (HCL.out.trans (if_neg hre))
      clear hre HCL
      have b9 := below_box w8 (.cells #[.int .i64 o.kind, .int .i64 o.num, .int .i64 o.at_, .int .i64 o.flags, .int .i64 (o.refs - 1)] 77)
      have n9b := heap_alloc_new w8 (.cells #[.int .i64 o.kind, .int .i64 o.num, .int .i64 o.at_, .int .i64 o.flags, .int .i64 (o.refs - 1)] 77)
      obtain ⟨w8b, hw8b⟩ : ∃ x, w8.alloc (.cells #[.int .i64 o.kind, .int .i64 o.num, .int .i64 o.at_, .int .i64 o.flags, .int .i64 (o.refs - 1)] 77) = x := ⟨_, rfl⟩
      rw [hw8b] at b9 n9b
      obtain ⟨g9, hg9⟩ : ∃ x, w8.heap.size = x := ⟨_, rfl⟩
      rw [hg9] at n9b
      have HG9 : Hid (g8 < g9) := Lib.hid (by have := HG8.out; omega)
      have N8b := Lib.hid ((b9.block g8 HG8.out.2).trans N8.out)
      have NB8 := Lib.hid n9b
      have NZ8b := Lib.hid ((b9.block b0 (Array.getElem?_eq_some_iff.1 NZ8.out).1).trans NZ8.out)
      have K8b := Lib.hid (K8.out.trans (b9.mono K8.out.size))
      have x80 := cell_of_row N8.out 0
      have x81 := cell_of_row N8.out 1
      have x82 := cell_of_row N8.out 2
      have x83 := cell_of_row N8.out 3
      clear b9 n9b
      go_enter Try.func30, Try.ntmps30
      go_wp2_with fail
      refine HIS.out.mono ?_
      rintro e w' ⟨rfl, rfl⟩
      go_wp2_with fail
      clear N8 NZ8 K8 x80 x81 x82 x83 hw8b hg9
      have N8 := N8b
      have NZ8 := NZ8b
      have K8 := K8b
      clear N8b NZ8b K8b
      clear y4 c0 c1 c2 c3 c4 hwz hw8 hg8
      have n9 := N8.out
      have nB8 := NB8.out
      refine wp_region_held_drew (S := fun W => (W.cell? ⟨g8, 0, none⟩ = some (.int .i64 o.kind) ∧ W.cell? ⟨g8, 1, none⟩ = some (.int .i64 o.num) ∧ W.cell? ⟨g8, 2, none⟩ = some (.int .i64 o.at_) ∧ W.cell? ⟨g8, 3, none⟩ = some (.int .i64 o.flags) ∧ W.cell? ⟨g8, 4, none⟩ = some (.int .i64 o.refs) ∧ W.cell? ⟨g9, 0, none⟩ = some (.int .i64 o.kind) ∧ W.cell? ⟨g9, 1, none⟩ = some (.int .i64 o.num) ∧ W.cell? ⟨g9, 2, none⟩ = some (.int .i64 o.at_) ∧ W.cell? ⟨g9, 3, none⟩ = some (.int .i64 o.flags) ∧ W.cell? ⟨g9, 4, none⟩ = some (.int .i64 (o.refs - 1)))) (by kernel_rfl) ⟨cell_of_row (w := w8b.drew) n9 0, cell_of_row (w := w8b.drew) n9 1, cell_of_row (w := w8b.drew) n9 2, cell_of_row (w := w8b.drew) n9 3, cell_of_row (w := w8b.drew) n9 4, cell_of_row (w := w8b.drew) nB8 0, cell_of_row (w := w8b.drew) nB8 1, cell_of_row (w := w8b.drew) nB8 2, cell_of_row (w := w8b.drew) nB8 3, cell_of_row (w := w8b.drew) nB8 4⟩ (fun hHeld => ?_)
      have KD := Lib.hid (K8.out.drew)
      have ND : Hid (w8b.drew.heap[g8]? = _) := Lib.hid n9
      have NZD : Hid (w8b.drew.heap[b0]? = _) := Lib.hid NZ8.out
      have NB : Hid (w8b.drew.heap[g9]? = _) := Lib.hid nB8
      generalize w8b.drew = w9 at *
      refine wpAnyH_take (i := 0) (v := .slice (some ⟨b, off, none⟩) m c) rfl (by kernel_rfl) (by kernel_rfl) (by kernel_rfl) (fun _ _ _ h => h) (Or.inl ⟨by rfl, by intro W hSw; clear hSw; go_simp⟩) (by assumption) ?_
      try simp only [List.getElem_toArray, List.getElem_cons_zero, List.getElem_cons_succ, Act.put, List.setIfInBounds_toArray, List.set_cons_zero, List.set_cons_succ]
      refine wpAnyH_take (i := 1) (v := .int .i64 (i : Int)) rfl (by kernel_rfl) (by kernel_rfl) (by kernel_rfl) (fun _ _ _ h => h) (Or.inl ⟨by rfl, by intro W hSw; clear hSw; go_simp⟩) (by assumption) ?_
      try simp only [List.getElem_toArray, List.getElem_cons_zero, List.getElem_cons_succ, Act.put, List.setIfInBounds_toArray, List.set_cons_zero, List.set_cons_succ]
      refine wpAnyH_take (i := 2) (v := .agg #[.int .i64 o.kind, .int .i64 o.num, .int .i64 o.at_, .int .i64 o.flags, .int .i64 (o.refs - 1)]) rfl (by kernel_rfl) (by kernel_rfl) (by kernel_rfl) (fun _ _ _ h => h) (Or.inl ⟨by rfl, by intro W hSw; obtain ⟨q0, q1, q2, q3, q4, r0, r1, r2, r3, r4⟩ := hSw; go_simp⟩) (by assumption) ?_
      try simp only [List.getElem_toArray, List.getElem_cons_zero, List.getElem_cons_succ, Act.put, List.setIfInBounds_toArray, List.set_cons_zero, List.set_cons_succ]
      refine wpAnyH_take (i := 4) (v := .agg #[.int .i64 o.kind, .int .i64 o.num, .int .i64 o.at_, .int .i64 o.flags, .int .i64 o.refs]) rfl (by kernel_rfl) (by kernel_rfl) (by kernel_rfl) (fun _ _ _ h => h) (Or.inl ⟨by rfl, by intro W hSw; obtain ⟨q0, q1, q2, q3, q4, r0, r1, r2, r3, r4⟩ := hSw; go_simp⟩) (by assumption) ?_
      try simp only [List.getElem_toArray, List.getElem_cons_zero, List.getElem_cons_succ, Act.put, List.setIfInBounds_toArray, List.set_cons_zero, List.set_cons_succ]
      refine wpAnyH_ready (rs := [3]) (by kernel_rfl) (by simp) ?_
      refine AllReadyH.cons rfl (fun K hK => ?_) AllReadyH.nil
      go_simp
      refine (HPUT.out { o with refs := o.refs - 1 } w9 KD.out).mono ?_
      rintro e w10 ⟨v2, rfl, hv2, b10⟩
      have n10 := (b10.block g8 (Array.getElem?_eq_some_iff.1 ND.out).1).trans ND.out
      have nB := (b10.block g9 (Array.getElem?_eq_some_iff.1 NB.out).1).trans NB.out
      have z10 := (b10.block b0 (Array.getElem?_eq_some_iff.1 NZD.out).1).trans NZD.out
      have HLT9 : Hid (b0 < w9.heap.size) := Lib.hid (Array.getElem?_eq_some_iff.1 NZD.out).1
      dsimp only
      refine hK.out _ _ ⟨cell_of_row n10 0, cell_of_row n10 1, cell_of_row n10 2, cell_of_row n10 3, cell_of_row n10 4, cell_of_row nB 0, cell_of_row nB 1, cell_of_row nB 2, cell_of_row nB 3, cell_of_row nB 4⟩ (fun hH10 => ?_)
      clear hK K
      try simp only [List.getElem_toArray, List.getElem_cons_zero, List.getElem_cons_succ, Act.put, List.setIfInBounds_toArray, List.set_cons_zero, List.set_cons_succ]
      refine wpAnyH_take (i := 5) (v := v2) rfl (by kernel_rfl) (by kernel_rfl) (by kernel_rfl) (fun _ _ _ h => h) (Or.inl ⟨by rfl, by intro W hSw; clear hSw; go_simp⟩) (by assumption) ?_
      try simp only [List.getElem_toArray, List.getElem_cons_zero, List.getElem_cons_succ, Act.put, List.setIfInBounds_toArray, List.set_cons_zero, List.set_cons_succ]
      have x0 := cell_of_row z10 0
      have x1 := cell_of_row z10 1
      have x2 := cell_of_row z10 2
      have x3 := cell_of_row z10 3
      have x4 := cell_of_row z10 4
      have ff := fun i => frozen_of_row w10 b0 i _ _ z10
      have hg5 := five_set (.int .i64 o.kind) (.int .i64 o.num) (.int .i64 o.at_) (.int .i64 o.flags) (.int .i64 o.refs) z10
      obtain ⟨W5, hW5⟩ : ∃ x, (((((w10.setCell ⟨b0, 0, none⟩ (.int .i64 o.kind)).setCell ⟨b0, 1, none⟩ (.int .i64 o.num)).setCell ⟨b0, 2, none⟩ (.int .i64 o.at_)).setCell ⟨b0, 3, none⟩ (.int .i64 o.flags)).setCell ⟨b0, 4, none⟩ (.int .i64 o.refs)) = x := ⟨_, rfl⟩
      rw [hW5] at hg5
      have G := Lib.hid hg5
      have n11 := (hg5.2.block g8 (Array.getElem?_eq_some_iff.1 n10).1 (by intro e; have : g8 = b0 := Option.some.inj e; have := HG8.out; omega)).trans n10
      have nB1 := (hg5.2.block g9 (Array.getElem?_eq_some_iff.1 nB).1 (by intro e; have : g9 = b0 := Option.some.inj e; have := HG8.out; have := HG9.out; omega)).trans nB
      have HV := Lib.hid hv2
      have B10 := Lib.hid b10
      refine wpAnyH_ready (rs := [6]) (by kernel_rfl) (by simp) ?_
      refine AllReadyH.cons rfl (fun K hK => ?_) AllReadyH.nil
      go_simp
      refine hK.out _ _ ⟨cell_of_row n11 0, cell_of_row n11 1, cell_of_row n11 2, cell_of_row n11 3, cell_of_row n11 4, cell_of_row nB1 0, cell_of_row nB1 1, cell_of_row nB1 2, cell_of_row nB1 3, cell_of_row nB1 4⟩ (fun hH11 => ?_)
      clear hK K x0 x1 x2 x3 x4 ff hW5 hg5 n11 n10 z10 hv2 b10
      try simp only [List.getElem_toArray, List.getElem_cons_zero, List.getElem_cons_succ, Act.put, List.setIfInBounds_toArray, List.set_cons_zero, List.set_cons_succ]
      refine wpAnyH_take (i := 7) (v := .bool false) rfl (by kernel_rfl) (by kernel_rfl) (by kernel_rfl) (fun _ _ _ h => h) (Or.inl ⟨by rfl, by intro W hSw; clear hSw; go_simp⟩) (by assumption) ?_
      try simp only [List.getElem_toArray, List.getElem_cons_zero, List.getElem_cons_succ, Act.put, List.setIfInBounds_toArray, List.set_cons_zero, List.set_cons_succ]
      refine wpAnyH_take (i := 8) (v := .int .i64 0) rfl (by kernel_rfl) (by kernel_rfl) (by kernel_rfl) (fun _ _ _ h => h) (Or.inl ⟨by rfl, by intro W hSw; clear hSw; go_simp⟩) (by assumption) ?_
      try simp only [List.getElem_toArray, List.getElem_cons_zero, List.getElem_cons_succ, Act.put, List.setIfInBounds_toArray, List.set_cons_zero, List.set_cons_succ]
      refine wpAnyH_done (by kernel_rfl) ?_ _
      clear hHeld hH10 hH11
      go_wp2
      refine bodyPost_ret (results_rfile rfl _ _ b0 rfl G.out.1) rfl ?_
      rw [HQ.out]
      have hbb := HB0.out
      have kk : Below w.heap.size w w10 := (HZ.out.trans (KD.out.mono HZ.out.size)).trans (B10.out.mono (HZ.out.trans (KD.out.mono HZ.out.size)).size)
      refine ⟨_, rfl, ?_, kk.grown G.out.2 kk.size (fun i hi => by obtain rfl := Option.some.inj hi; omega)⟩
      obtain ⟨a9, c9, rfl, h9⟩ := HV.out
      refine RFiles.keptB (cs := #[]) (RFiles.less ⟨a9, c9, rfl, h9⟩ ?_) G.out.2 (fun _ j hj => ?_)
      · exact Nat.le_trans hB (HZ.out.trans (KD.out.mono HZ.out.size)).size
      · have h1 := (h9.lt j hj).1
        have h2 := HLT9.out
        omega
end Go.Proofs.Ytbpklbicbeckdaa
