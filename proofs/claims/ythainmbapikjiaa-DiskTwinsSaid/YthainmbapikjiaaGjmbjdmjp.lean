/- A disk's twin: another disk, and the same. -/
import Derived.Test.YthainmbapikjiaaGjkfficmg
namespace Go.Proofs.Ythainmbapikjiaa
open Go.ChangeShapes Go.WideShapes Go.ChangeAt Go.RowKit Go.Sort
set_option linter.unusedVariables false
set_option linter.unusedSimpArgs false
set_option maxRecDepth 100000

/-- What was cloned from a disk makes a disk. -/
theorem twin_disk {B : Nat} {w : World} {D : DiskD} {vs vc : Value} {g : Nat} (hok : D.ok) (hs : OwnsR' B w 106 128 vs (secR D.secs)) (hc : OwnsR' B w 130 129 vc (rowsW D.cache)) (hB : B ≤ g)
    (hg : w.heap[g]? = some (.cells #[.bool D.dead, .bool D.armed, .int .i64 D.left, vs, vc, .int .i64 D.deeds] 126 (0, 0))) :
    ∃ gs room junk, IsDisk B w g gs vc { D with room := room, junk := junk } := by
  have e1 : (rowsW D.cache).length = D.cache.length := by unfold rowsW; rw [List.length_map]
  have e2 : flatR (rowsW D.cache) = cacheV D.cache := by unfold flatR rowsW cacheV; rw [List.flatMap_map]
  have e3 : (secR D.secs).length = D.secs.length := by unfold secR; rw [List.length_map]
  obtain ⟨_, h2⟩ := hc
  rw [e1, e2] at h2
  obtain ⟨_, h4, ⟨_, h5⟩ | ⟨gs, cap, cur, rfl, hBs, hgs, _, _, hsz, htk⟩⟩ := hs
  · have := hok.2.2.1; rw [e3] at h5; omega
  · rw [e3] at hg htk
    rw [← secV_flat] at htk
    refine ⟨gs, cap, cur.toList.drop (D.secs.length * 128), hg, ?_, h2, hok, hB, hBs⟩
    show _ = some (Obj.cells (secV D.secs ++ cur.toList.drop (D.secs.length * 128)).toArray _ _)
    rw [← htk, List.take_append_drop]
    exact hgs
theorem build_disk (dd ar : Bool) (lf : Int) (a : Option Addr) (n c : Nat) (a' : Option Addr) (n' c' : Nat) (ds : Int) (W : World) : (Instr.build 126 #[(0, .agg #[.bool dd, .bool ar, .int .i64 lf]), (1, .slice a n c), (2, .slice a' n' c'), (3, .int .i64 ds)]).run Try.prog W = .ok (.agg #[.bool dd, .bool ar, .int .i64 lf, .slice a n c, .slice a' n' c', .int .i64 ds]) W := by kernel_rfl
def TwinPost (w : World) (D : DiskD) (e : Ending) (w' : World) : Prop := ∃ g gs cv room junk, e = .returned (.pointer (some ⟨g, 0, none⟩)) ∧ IsDisk w.heap.size w' g gs cv { D with room := room, junk := junk } ∧ Below w.heap.size w w'
set_option maxHeartbeats 1600000 in
theorem twin_is {B : Nat} {w : World} {g gs : Nat} {cv : Value} {D : DiskD} (h : IsDisk B w g gs cv D) :
    Calls Try.prog 13 #[.pointer (some ⟨g, 0, none⟩)] w (TwinPost w D) := by
  obtain ⟨c0, c1, c2, c3, c4, c5⟩ := head_facts h.1
  have hl3 : (secR D.secs).length = D.secs.length := by unfold secR; rw [List.length_map]
  have hw3 : (rowsW D.cache).length = D.cache.length := by unfold rowsW; rw [List.length_map]
  have HCS : Hid (∀ W, Below w.heap.size w W → Calls Try.prog 64 #[.slice (some ⟨gs, 0, none⟩) D.secs.length D.room] W fun e w' => ∃ v', e = .returned v' ∧ OwnsR' w.heap.size w' 106 128 v' (secR D.secs) ∧ Below W.heap.size W w') := Lib.hid (fun W b => by
    refine (clone_secs gs 0 D.secs.length D.room (secR D.secs) hl3 h.2.2.2.1.2.2.2.1 W ((disk_rows h).below b) (secR_one _)).mono ?_
    rintro e w' ⟨v', rfl, ho, bb⟩
    exact ⟨v', rfl, ho.less b.size, bb⟩)
  have HCW : Hid (∀ W, Below w.heap.size w W → Calls Try.prog 65 #[cv] W fun e w' => ∃ v', e = .returned v' ∧ OwnsR' w.heap.size w' 130 129 v' (rowsW D.cache) ∧ Below W.heap.size W w') := Lib.hid (fun W b => by
    have hc := disk_cache h
    obtain ⟨a, c, rfl, hr, _, _⟩ := hc.reads
    obtain ⟨_, _, ⟨e0, h0⟩ | ⟨gc, cap, cur, e0, _⟩⟩ := hc
    · have hn : rowsW D.cache = [] := List.eq_nil_of_length_eq_zero h0
      rw [hn] at e0 ⊢
      injection e0 with e0 _ e1
      subst e0; subst e1
      refine (clone_wr_nil W).mono ?_
      rintro e w' ⟨rfl, rfl⟩
      exact ⟨_, rfl, OwnsR'.nil _ _ _ _, Below.refl _ _⟩
    · injection e0 with e0 _ e1
      subst e0
      rw [hw3]
      refine (clone_wr gc 0 D.cache.length c (rowsW D.cache) hw3 h.2.2.2.1.2.2.2.2.1 W (hr.below b) (rowsW_one _)).mono ?_
      rintro e w' ⟨v', rfl, ho, bb⟩
      exact ⟨v', rfl, ho.less b.size, bb⟩)
  have HOK := Lib.hid h.2.2.2.1
  have hcells : ∀ W, Below w.heap.size w W → W.cell? ⟨g, 0, none⟩ = some (.bool D.dead) ∧ W.cell? ⟨g, 1, none⟩ = some (.bool D.armed) ∧ W.cell? ⟨g, 2, none⟩ = some (.int .i64 D.left) ∧ W.cell? ⟨g, 3, none⟩ = some (.slice (some ⟨gs, 0, none⟩) D.secs.length D.room) ∧ W.cell? ⟨g, 4, none⟩ = some cv ∧ W.cell? ⟨g, 5, none⟩ = some (.int .i64 D.deeds) := fun W b => head_facts (h.more b).1
  have HKP : Hid (∀ W, Below w.heap.size w W → W.cell? ⟨g, 0, none⟩ = some (.bool D.dead) ∧ W.cell? ⟨g, 1, none⟩ = some (.bool D.armed) ∧ W.cell? ⟨g, 2, none⟩ = some (.int .i64 D.left) ∧ W.cell? ⟨g, 3, none⟩ = some (.slice (some ⟨gs, 0, none⟩) D.secs.length D.room) ∧ W.cell? ⟨g, 4, none⟩ = some cv ∧ W.cell? ⟨g, 5, none⟩ = some (.int .i64 D.deeds) ∧ Below w.heap.size w W) := Lib.hid (fun W b => by obtain ⟨k0, k1, k2, k3, k4, k5⟩ := hcells W b; exact ⟨k0, k1, k2, k3, k4, k5, b⟩)
  have SN : Hid (∀ W W', Below w.heap.size w W → Below W.heap.size W W' → Below w.heap.size w W') := Lib.hid (fun W W' a b => below_next a b)
  have HL3 := Lib.hid hl3
  have HW3 := Lib.hid hw3
  have hbuild := fun (W : World) (a : Option Addr) (c : Nat) (a' : Option Addr) (c' : Nat) => build_disk D.dead D.armed D.left a D.secs.length c a' D.cache.length c' D.deeds W
  clear h hcells hl3 hw3
  go_enter Try.func13, Try.ntmps13
  go_wp2_with fail
  go_region_held3 (fun w' => w'.cell? ⟨g, 0, none⟩ = some (.bool D.dead) ∧ w'.cell? ⟨g, 1, none⟩ = some (.bool D.armed) ∧ w'.cell? ⟨g, 2, none⟩ = some (.int .i64 D.left) ∧ w'.cell? ⟨g, 3, none⟩ = some (.slice (some ⟨gs, 0, none⟩) D.secs.length D.room) ∧ w'.cell? ⟨g, 4, none⟩ = some cv ∧ w'.cell? ⟨g, 5, none⟩ = some (.int .i64 D.deeds) ∧ Below w.heap.size w w')
    (first | assumption | exact HKP.out _ (Below.refl _ _) | exact HKP.out _ (below_drew _) | exact HKP.out _ kS | exact HKP.out _ kC | exact HKP.out _ (SN.out _ _ kC (below_box _ _)) | exact HKP.out _ (SN.out _ _ kS (below_box _ _)))
    ((first
      | (go_at_call 64; (with_reducible refine (HCS.out _ (And.right (And.right (And.right (And.right (And.right (And.right (by assumption)))))))).mono ?_); rintro e wS ⟨vS, rfl, oS, bS⟩; have kS := SN.out _ _ (And.right (And.right (And.right (And.right (And.right (And.right (by assumption))))))) bS; obtain ⟨aS, cS, rfl, _, _, _⟩ := oS.reads; rw [HL3.out] at oS ⊢)
      | (go_at_call 65; (with_reducible refine (HCW.out _ (And.right (And.right (And.right (And.right (And.right (And.right (by assumption)))))))).mono ?_); rintro e wC ⟨vC, rfl, oC, bC⟩; have kC := SN.out _ _ (And.right (And.right (And.right (And.right (And.right (And.right (by assumption))))))) bC; obtain ⟨aC, cC, rfl, _, _, _⟩ := oC.reads; rw [HW3.out] at oC ⊢)))
  all_goals
    rename_i hHeld
    clear hHeld
    go_wp2
    go_ret
    first
      | (obtain ⟨gs', room, junk, hd⟩ := twin_disk HOK.out ((oS.below bC).below (below_box wC _)) (oC.below (below_box wC _)) kC.size (heap_alloc_new wC _); exact ⟨_, _, _, _, _, rfl, hd, SN.out _ _ kC (below_box _ _)⟩)
      | (obtain ⟨gs', room, junk, hd⟩ := twin_disk HOK.out (oS.below (below_box wS _)) ((oC.below bS).below (below_box wS _)) kS.size (heap_alloc_new wS _); exact ⟨_, _, _, _, _, rfl, hd, SN.out _ _ kS (below_box _ _)⟩)
end Go.Proofs.Ythainmbapikjiaa
