/- The law's look at a disk: it is the document's. -/
import Derived.Test.YthainmbapikjiaaGjlgcenia
import Derived.Test.YthainmbapikjiaaGkgojahoh
namespace Go.Proofs.Ythainmbapikjiaa
open Go.RowKit Go.Sort
set_option linter.unusedVariables false
set_option linter.unusedSimpArgs false
set_option maxRecDepth 100000

theorem queueV_at {C : List (Nat × List Nat)} {m k : Nat} (hm : C.length = m) {p : Nat × List Nat} (hp : C[k]? = some p) : (queueV C m)[k]? = some (.int .i64 (p.1 : Int)) := by
  unfold queueV
  have hlt := (List.getElem?_eq_some_iff.1 hp).1
  rw [List.getElem?_toArray, List.take_of_length_le (by omega), List.getElem?_append_left (by rw [List.length_map]; exact hlt), List.getElem?_map, hp]
  rfl
theorem calls_below {P : Program} {f : FuncId} {args : Array Value} {w : World} {v : Value} (h : Calls P f args w fun e w' => e = .returned v ∧ w = w') : Calls P f args w fun e w' => e = .returned v ∧ Below w.heap.size w w' := h.mono (by rintro e w' ⟨h1, rfl⟩; exact ⟨h1, Below.refl _ _⟩)
theorem below_in {w W w' : World} {b : Nat} (h : Below w.heap.size w W) (k : Below W.heap.size W w') (e : w.heap.size = b) : Below b w w' := by rw [← e]; exact below_next h k
set_option maxHeartbeats 1000000 in
theorem is3_true {B B' : Nat} {w : World} {g gs : Nat} {cv v : Value} {D : DiskD} (hd : IsDisk B w g gs cv D) (hr : RefIs B' w D v) :
    Calls Try.prog 15 #[.pointer (some ⟨g, 0, none⟩), v] w fun e w' => e = .returned (.bool true) ∧ Below w.heap.size w w' := by
  have HD := Lib.hid hd
  have HR := Lib.hid hr
  have hok := hd.2.2.2.1
  obtain ⟨sa, sc, qa, qc, rfl, h1, h2⟩ := hr
  obtain ⟨r1, l1, c1⟩ := owns_room h1
  obtain ⟨r2, l2, c2⟩ := owns_room h2
  have hn1 := hok.2.2.1
  have hn2 := hok.2.2.2.1
  have hm2 := hok.2.2.2.2.1
  have HSZ := Lib.hid (fun W (hW : Below w.heap.size w W) => calls_below (dsize_is (HD.out.more hW)))
  have HDE := Lib.hid (fun W (hW : Below w.heap.size w W) => calls_below (ddead_is (HD.out.more hW)))
  have HDD := Lib.hid (fun W (hW : Below w.heap.size w W) => calls_below (ddeeds_is (HD.out.more hW)))
  have HQU := Lib.hid (fun W (hW : Below w.heap.size w W) => dqueue_is (HD.out.more hW))
  have HRD := Lib.hid (fun W (hW : Below w.heap.size w W) (i : Int) => dread_is (HD.out.more hW) i)
  have HRR := Lib.hid (fun W (hW : Below w.heap.size w W) (i : Int) => rread_is (HR.out.below hW) hok i)
  have HR2 := Lib.hid r2
  have HS8 : Hid (∀ i, (readS D i).length = 128) := Lib.hid (fun i => by
    unfold readS
    split
    · rfl
    · refine readL_len _ _ _ (fun p hp => (hok.2.1 p hp).2.1) ?_
      rcases h : D.secs[i.toNat]? with _ | s
      · rfl
      · exact (hok.1 s (List.mem_of_getElem? h)).1)
  have HRI : Hid (∀ i, 0 ≤ refI D i ∧ refI D i ≤ 20) := Lib.hid (fun i => by
    unfold refI
    split
    · omega
    · split <;> omega)
  clear h1 h2 r1 r2 l1 l2 c1 c2 hd hok
  obtain ⟨C, hC⟩ : ∃ x, D.cache = x := ⟨_, rfl⟩
  obtain ⟨m, hm⟩ : ∃ x, C.length = x := ⟨_, rfl⟩
  obtain ⟨n, hn⟩ : ∃ x, D.secs.length = x := ⟨_, rfl⟩
  rw [hC] at HQU HR2 HRR hm2
  rw [hm] at HQU HRR hm2
  rw [hn] at HSZ HRR hn1 hn2
  rw [hC, hm, hn]
  have HM := Lib.hid hm
  obtain ⟨ai, hai⟩ : ∃ x, armI D = x := ⟨_, rfl⟩
  obtain ⟨dn, hdn⟩ : ∃ x : Int, (D.deeds : Int) = x := ⟨_, rfl⟩
  obtain ⟨dd, hdd⟩ : ∃ x, D.dead = x := ⟨_, rfl⟩
  rw [hdn] at HDD
  rw [hai, hdn, hdd] at HRR
  rw [hdd] at HDE
  rw [hai, hdn, hdd]
  clear hC hm hn hai hdn hdd
  have hself : (m : Int) = (m : Int) := rfl
  unfold refV at *
  go_enter Try.func15, Try.ntmps15
  have b1 := below_box w (.cells #[.slice sa n sc, .slice qa m qc, .bool dd, .int .i64 ai, .int .i64 dn] 28)
  have n1 := heap_alloc_new w (.cells #[.slice sa n sc, .slice qa m qc, .bool dd, .int .i64 ai, .int .i64 dn] 28)
  obtain ⟨w1, hw1⟩ : ∃ x, w.alloc (.cells #[.slice sa n sc, .slice qa m qc, .bool dd, .int .i64 ai, .int .i64 dn] 28) = x := ⟨_, rfl⟩
  rw [hw1] at b1 n1
  obtain ⟨b0, hb0⟩ : ∃ x, w.heap.size = x := ⟨_, rfl⟩
  rw [hb0] at n1
  have HB0 := Lib.hid hb0
  have B1 := Lib.hid b1
  have N1 := Lib.hid n1
  have x0 : w1.cell? ⟨b0, 0, none⟩ = some (.slice sa n sc) := cell_of_row n1 0
  have x1 : w1.cell? ⟨b0, 1, none⟩ = some (.slice qa m qc) := cell_of_row n1 1
  have x2 : w1.cell? ⟨b0, 2, none⟩ = some (.bool dd) := cell_of_row n1 2
  have x4 : w1.cell? ⟨b0, 4, none⟩ = some (.int .i64 dn) := cell_of_row n1 4
  clear b1 n1
  go_wp2_with fail
  have p0 := cell_regrown x0
  have p2 := cell_regrown x2
  have p4 := cell_regrown x4
  have e1 : ((n : Int) != (n : Int)) = false := by simp
  have e2 : (dd != dd) = false := by simp
  have e3 : (dn != dn) = false := by simp
  rw [hb0] at HSZ HDE HDD
  refine wp_region_quiet_below (by kernel_rfl) (by kernel_rfl) ?_
  repeat (go_big_quiet_step (first
    | (go_at_call 68; exact Calls.regrown_of (HSZ.out _ (below_in B1.out (below_regrown _ _ _) HB0.out)))
    | (go_at_call 69; exact Calls.regrown_of (HDE.out _ (below_in B1.out (below_regrown _ _ _) HB0.out)))
    | (go_at_call 70; exact Calls.regrown_of (HDD.out _ (below_in B1.out (below_regrown _ _ _) HB0.out)))))
  refine wpQuiet_nil (regrown_name fun w2 b2 => ?_)
  have B2 := Lib.hid (below_next B1.out b2)
  have n2 := (b2.block b0 (Array.getElem?_eq_some_iff.1 N1.out).1).trans N1.out
  have N2 := Lib.hid n2
  have y0 : w2.cell? ⟨b0, 0, none⟩ = some (.slice sa n sc) := cell_of_row n2 0
  have y1 : w2.cell? ⟨b0, 1, none⟩ = some (.slice qa m qc) := cell_of_row n2 1
  clear p0 p2 p4 x0 x1 x2 x4 n2 b2 e2 e3
  go_wp2_with fail
  refine (HQU.out w2 (by rw [hb0]; have h := B2.out; rwa [hb0] at h)).mono ?_
  rintro e w3 ⟨gq, rfl, hgq, nq, b3⟩
  have B3 := Lib.hid (below_next B2.out b3)
  have n3 := (b3.block b0 (Array.getElem?_eq_some_iff.1 N2.out).1).trans N2.out
  have N3 := Lib.hid n3
  have NQ := Lib.hid nq
  have z0 : w3.cell? ⟨b0, 0, none⟩ = some (.slice sa n sc) := cell_of_row n3 0
  have z1 : w3.cell? ⟨b0, 1, none⟩ = some (.slice qa m qc) := cell_of_row n3 1
  have e4 : ((m : Int) != (m : Int)) = false := by simp
  have R3 := Lib.hid (HR2.out.below B3.out)
  clear n3 nq b3 y0 y1
  go_wp2_with fail
  clear z0 z1 e4
  go_loopw [42] (fun i wr => ∃ k : Nat, k ≤ m ∧ i = .int .i64 (k : Int) ∧ Hid (Below w3.heap.size w3 wr)) (fun i _ => m - (intOf i).toNat)
  case atStart => exact ⟨0, Nat.zero_le _, rfl, Lib.hid (Below.refl _ _)⟩
  case round =>
    obtain ⟨k, hk, rfl, KR⟩ := hrel
    have n4 := (KR.out.block b0 (Array.getElem?_eq_some_iff.1 N3.out).1).trans N3.out
    have N4 := Lib.hid n4
    have q0 : wr.cell? ⟨b0, 0, none⟩ = some (.slice sa n sc) := cell_of_row n4 0
    have q1 : wr.cell? ⟨b0, 1, none⟩ = some (.slice qa m qc) := cell_of_row n4 1
    clear n4
    by_cases hlt : k < m
    · obtain ⟨⟨pa, ps⟩, hp⟩ : ∃ p, C[k]? = some p := ⟨_, List.getElem?_eq_getElem (by rw [HM.out]; exact hlt)⟩
      have hrow : (rowsW C)[k]? = some (wrV (pa, ps)) := by unfold rowsW; rw [List.getElem?_map, hp]; rfl
      obtain ⟨qb, qo, rfl, hqb, hc⟩ := (R3.out.below KR.out).row hrow
      have d0 : wr.cell? ⟨qb, qo + k * 129, none⟩ = some (.int .i64 (pa : Int)) := hc 0 _ rfl
      have nq := (KR.out.block gq (Array.getElem?_eq_some_iff.1 NQ.out).1).trans NQ.out
      have d1 : wr.cell? ⟨gq, k, none⟩ = some (.int .i64 (pa : Int)) := (cell_of_row nq k).trans (queueV_at HM.out hp)
      have hx0 : (0 : Int) ≤ (k : Int) := by omega
      have hx1 : (k : Int) < (m : Int) := by omega
      have e5 : ((pa : Int) != (pa : Int)) = false := by simp
      have HLT := Lib.hid hlt
      have hkm : k ≤ 1000000 := by omega
      clear hc hrow hp nq hlt hqb
      go_wp2_with fail
      have p0 := cell_regrown q1
      have p1 := cell_regrown d0
      have p2 := cell_regrown d1
      refine wp_region_quiet_below (by kernel_rfl) (by kernel_rfl) ?_
      repeat (go_big_quiet_step (fail))
      refine wpQuiet_nil (regrown_name fun w5 b5 => ?_)
      have K5 := Lib.hid (below_next KR.out b5)
      clear p0 p1 p2 b5
      go_wp2
      have h1 := HLT.out
      go_roundw
      case rel => exact ⟨k + 1, HLT.out, by go_num, K5⟩
      case measure => simp [intOf]; omega
    · obtain rfl : k = m := by omega
      have hge : ¬ (k : Int) < (k : Int) := by omega
      have B4 := Lib.hid (below_next B3.out KR.out)
      clear hlt hk
      go_wp2_with fail
      generalize wr = ws at *
      generalize k = m0 at *
      clear q0 q1 KR
      go_loopw [7] (fun i wr => ∃ k : Nat, k ≤ n + 2 ∧ i = .int .i64 ((k : Int) - 1) ∧ Hid (Below ws.heap.size ws wr)) (fun i _ => n + 2 - (intOf i + 1).toNat)
      case atStart => exact ⟨0, by omega, rfl, Lib.hid (Below.refl _ _)⟩
      case round =>
        obtain ⟨k, hk, rfl, KR⟩ := hrel
        have n5 := (KR.out.block b0 (Array.getElem?_eq_some_iff.1 N4.out).1).trans N4.out
        have N5 := Lib.hid n5
        have q0 : wr.cell? ⟨b0, 0, none⟩ = some (.slice sa n sc) := cell_of_row n5 0
        clear n5
        by_cases hlt : k < n + 2
        · have hx1 : (k : Int) - 1 ≤ (n : Int) := by omega
          have B5 := Lib.hid (below_next B4.out KR.out)
          have HLT := Lib.hid hlt
          obtain ⟨z, hz⟩ : ∃ z : Int, (k : Int) - 1 = z := ⟨_, rfl⟩
          have HZ := Lib.hid hz
          rw [hz] at hx1 ⊢
          have hzb : -1 ≤ z ∧ z ≤ 65536 := by omega
          have hrd := fun W hW => HRD.out W hW z
          have hrr := fun W hW => HRR.out W hW z
          have hs8 := HS8.out z
          obtain ⟨S, hS⟩ : ∃ S, readS D z = S := ⟨_, rfl⟩
          obtain ⟨ri, hri⟩ : ∃ x, refI D z = x := ⟨_, rfl⟩
          have hrib := HRI.out z
          simp only [hS, hri] at hrd hrr
          rw [hS] at hs8
          rw [hri] at hrib
          have HRD1 := Lib.hid hrd
          have HRR1 := Lib.hid hrr
          have HS := Lib.hid hs8
          have hneq := run_neq_sector S S hs8 hs8
          rw [decide_eq_true rfl, Bool.not_true] at hneq
          have e6 : (ri != ri) = false := by simp
          have hzs := zero_sector
          have hzf := zero_full
          clear hrd hrr hS hri hs8 hz hlt hk
          go_wp2_with fail
          refine (HRD1.out wr (by rw [hb0]; have h := B5.out; rwa [hb0] at h)).mono ?_
          rintro e w5 ⟨rfl, b5⟩
          have nz := heap_alloc_new w5 (.cells (cells noughts) 106)
          have nS := heap_alloc_new w5 (.cells (cells S) 106)
          have eS := World.setRow_alloc_new w5 (cells noughts) (cells S) 106
          have bS := below_box w5 (.cells (cells S) 106)
          obtain ⟨w6, hw6⟩ : ∃ x, w5.alloc (.cells (cells S) 106) = x := ⟨_, rfl⟩
          rw [hw6] at eS bS nS
          obtain ⟨g5, hg5⟩ : ∃ x, w5.heap.size = x := ⟨_, rfl⟩
          rw [hg5] at nz nS eS
          have K6 := Lib.hid (below_next (below_next KR.out b5) bS)
          have n6 := ((below_next b5 bS).block b0 (Array.getElem?_eq_some_iff.1 N5.out).1).trans N5.out
          have y0 : w6.cell? ⟨b0, 0, none⟩ = some (.slice sa n sc) := cell_of_row n6 0
          have y1 : w6.cell? ⟨b0, 1, none⟩ = some (.slice qa m0 qc) := cell_of_row n6 1
          have y2 : w6.cell? ⟨b0, 2, none⟩ = some (.bool dd) := cell_of_row n6 2
          have y3 : w6.cell? ⟨b0, 3, none⟩ = some (.int .i64 ai) := cell_of_row n6 3
          have y4 : w6.cell? ⟨b0, 4, none⟩ = some (.int .i64 dn) := cell_of_row n6 4
          have N6 := Lib.hid n6
          have NS := Lib.hid nS
          clear b5 bS n6 nS hw6 q0
          go_wp2_with (first | (refine wpList_store_sector rfl _ _ rfl g5 S rfl rfl HS.out _ _ nz rfl ?_; rw [eS]) | fail)
          refine (HRR1.out w6 (below_next B4.out K6.out)).mono ?_
          rintro e w7 ⟨rfl, b7⟩
          have nz7 := heap_alloc_new w7 (.cells (cells noughts) 39)
          have nS7 := heap_alloc_new w7 (.cells (cells S) 39)
          have eS7 := World.setRow_alloc_new w7 (cells noughts) (cells S) 39
          have bS7 := below_box w7 (.cells (cells S) 39)
          obtain ⟨w8, hw8⟩ : ∃ x, w7.alloc (.cells (cells S) 39) = x := ⟨_, rfl⟩
          rw [hw8] at eS7 bS7 nS7
          obtain ⟨g7, hg7⟩ : ∃ x, w7.heap.size = x := ⟨_, rfl⟩
          rw [hg7] at nz7 nS7 eS7
          have K8 := Lib.hid (below_next (below_next K6.out b7) bS7)
          have n8 := ((below_next b7 bS7).block g5 (Array.getElem?_eq_some_iff.1 NS.out).1).trans NS.out
          have L8 := Lib.hid (block_cells HS.out n8)
          have L9 := Lib.hid (block_cells HS.out nS7)
          clear b7 bS7 n8 nS7 hw8 y0 y1 y2 y3 y4 nz eS hzs
          go_wp2_with (first
            | (refine wpList_store_full rfl _ _ rfl g7 S rfl rfl HS.out _ _ nz7 rfl ?_; rw [eS7])
            | (refine wpList_load_sector rfl _ rfl g5 0 S rfl HS.out L8.out ?_)
            | (refine wpList_load_full rfl _ rfl g7 0 S rfl HS.out L9.out ?_)
            | fail)
          refine ⟨⟨k + 1, by have := HLT.out; omega, congrArg (Value.int .i64) (by have := HZ.out; omega), K8⟩, ?_⟩
          have h1 := HLT.out
          have h2 := HZ.out
          simp only [intOf]
          omega
        · have hx1 : ¬ (k : Int) - 1 ≤ (n : Int) := by omega
          have B5 := Lib.hid (below_next B4.out KR.out)
          clear hlt hk
          go_wp2
          go_ret
          exact ⟨rfl, by rw [← hb0]; exact B5.out⟩
end Go.Proofs.Ythainmbapikjiaa
