/- How many of all kinds of sealed sectors a sector is. -/
import Derived.Test.YtgakidimipipeaaGreatGbbknhcke
import Derived.Test.YtgakidimipipeaaGreatGdgeabifm
import Derived.Test.YtgakidimipipeaaGreatGmdeekokd
import Derived.Test.YtgakidimipipeaaGreatGfblkhggm
import Derived.Test.YtgakidimipipeaaGreatGhipcojbo
import Derived.Test.YtgakidimipipeaaGreatGobamljda
import Derived.Test.YtgakidimipipeaaGreatGnjaienak
import Derived.Lib.MinMax
namespace Go.Proofs.YtgakidimipipeaaGreat
open Go.RowKit Go.Sort
set_option linter.unusedVariables false
set_option linter.unusedSimpArgs false
set_option maxRecDepth 100000

/-- Which kinds a sector is: the number. -/
def Kinds (s : List Nat) (n : Int) : Prop :=
  (readSlot s).2 = 21 ∧ (readUse s).2 = 21 ∧ (readH s).2 = 21 ∧ isSuper s = false ∧
    ((n = 1 ∧ (readI s).2 = 0 ∧ (readSm s).2 = 21 ∧ (readRecord s).2 = 21) ∨ (n = 1 ∧ (readI s).2 = 21 ∧ (readSm s).2 = 0 ∧ (readRecord s).2 = 21) ∨
      (n = 1 ∧ (readI s).2 = 21 ∧ (readSm s).2 = 21 ∧ (readRecord s).2 = 0) ∨ (n = 0 ∧ (readI s).2 = 21 ∧ (readSm s).2 = 21 ∧ (readRecord s).2 = 21))
theorem zero_geomK (w : World) : (zeroValue 78).run Tryz.prog w = .ok (.agg #[.int .i64 0, .int .i64 0, .int .i64 0]) w := by kernel_rfl
theorem readI_len {s : List Nat} (hb : Bytes s) : (readI s).1.length = 15 := (readI_isInode hb).1
theorem readH_len {s : List Nat} (hb : Bytes s) : (readH s).1.length = 6 := by
  unfold readH
  split
  · exact (rdH_is (bO_bytes hb)).1
  · rfl
set_option maxHeartbeats 3200000 in
theorem readers_is (s : List Nat) (n : Int) (hs : s.length = 128) (hb : Bytes s) (h : Kinds s n) (w : World) :
    Calls Tryz.prog 5 #[.agg (cells s)] w fun e w' => e = .returned (.int .i64 n) ∧ Below w.heap.size w w' := by
  have hzi := zero_inode
  have hzs := zero_sum2
  have hzh := zero_head
  have hzg := zero_geomK
  obtain ⟨h3, h4, h5, h7, h126⟩ := h
  have b1 := below_box w (.cells (cells s) 31)
  have n1 := heap_alloc_new w (.cells (cells s) 31)
  obtain ⟨w1, hw1⟩ : ∃ w1, w.alloc (.cells (cells s) 31) = w1 := ⟨_, rfl⟩
  have s1 : w1.heap.size = w.heap.size + 1 := by rw [← hw1]; simp
  rw [hw1] at b1 n1
  have HW1 := Lib.hid hw1
  have HC : Hid (∀ W, Below w1.heap.size w1 W → ∀ j, j < 128 → W.cell? ⟨w.heap.size, 0 + j, none⟩ = some (byteV (s.getD j 0))) := Lib.hid (fun W hW => block_cells hs ((hW.block _ (by omega)).trans n1))
  have HW : Hid (Below w.heap.size w w1) := Lib.hid b1
  have HSZ : Hid (w.heap.size ≤ w1.heap.size) := Lib.hid (by omega)
  have HB1 : Hid (Below w1.heap.size w1 w1) := Lib.hid (Below.refl _ _)
  have HI15 : Hid ((readI s).1.length = 15) := Lib.hid (readI_len hb)
  have HH6 : Hid ((readH s).1.length = 6) := Lib.hid (readH_len hb)
  have HR1 := Lib.hid (fun W => readInode_is s hs hb W)
  have HR2 := Lib.hid (fun W => readSummary_is s hs hb W)
  have HR3 := Lib.hid (fun W => readSlots_is (w := W) s hs hb)
  have HR4 := Lib.hid (fun W => readUses_is (w := W) s hs hb)
  have HR5 := Lib.hid (fun W => readHeader_is s hs hb W)
  have HR6 := Lib.hid (fun W => readRecords_is (w := W) s hs hb)
  have HR7 := Lib.hid (fun W => gread_any s hs hb W)
  obtain ⟨LI, hLI⟩ : ∃ L, (readI s).1 = L := ⟨_, rfl⟩
  obtain ⟨LH, hLH⟩ : ∃ L, (readH s).1 = L := ⟨_, rfl⟩
  obtain ⟨DS, hDS⟩ : ∃ D, (readSm s).1 = D := ⟨_, rfl⟩
  obtain ⟨L3, hL3⟩ : ∃ L, (readSlot s).1 = L := ⟨_, rfl⟩
  obtain ⟨L4, hL4⟩ : ∃ L, (readUse s).1 = L := ⟨_, rfl⟩
  obtain ⟨L6, hL6⟩ : ∃ L, (readRecord s).1 = L := ⟨_, rfl⟩
  rw [hLI] at HI15
  rw [hLH] at HH6
  have HLI := Lib.hid hLI
  have HLH := Lib.hid hLH
  have HDS := Lib.hid hDS
  have HL3 := Lib.hid hL3
  have HL4 := Lib.hid hL4
  have HL6 := Lib.hid hL6
  have H3 := Lib.hid h3
  have H4 := Lib.hid h4
  have H5 := Lib.hid h5
  have H7 := Lib.hid h7
  clear hLI hLH hDS hL3 hL4 hL6 h3 h4 h5 h7 hb b1 n1 s1 hw1
  rcases h126 with ⟨rfl, h1, h2, h6⟩ | ⟨rfl, h1, h2, h6⟩ | ⟨rfl, h1, h2, h6⟩ | ⟨rfl, h1, h2, h6⟩
  all_goals
    have H1 := Lib.hid h1
    have H2 := Lib.hid h2
    have H6 := Lib.hid h6
    clear h1 h2 h6
    go_enter Tryz.func5, Tryz.ntmps5
    go_wp2_with (rw [HW1.out]; refine wpList_load_sector rfl _ rfl w.heap.size 0 s rfl hs (HC.out w1 HB1.out) ?_)
    refine (HR1.out w1).mono ?_
    rintro e u1 ⟨rfl, b⟩
    rw [HLI.out, H1.out]
    have HU1 : Hid (Below w1.heap.size w1 u1) := Lib.hid (HB1.out.trans (b.mono HB1.out.size))
    clear b
    have nz1 := heap_alloc_new u1 (.cells (cellsF zeroI) 37)
    have e1 := World.setRow_alloc_new u1 (cellsF zeroI) (cellsF LI) 37
    have HV1 : Hid (Below w1.heap.size w1 (u1.alloc (.cells (cellsF LI) 37))) := Lib.hid (HU1.out.alloc HU1.out.size _)
    obtain ⟨v1, hv1⟩ : ∃ W, u1.alloc (.cells (cellsF LI) 37) = W := ⟨_, rfl⟩
    rw [hv1] at e1 HV1
    have HZ1 := Lib.hid nz1
    have HE1 := Lib.hid e1
    clear hv1 nz1 e1
    have HSI : Hid ((Tryz.prog.info? 37).map (·.size) = some (cellsF LI).size) := Lib.hid (by rw [cellsF_size, HI15.out]; exact size_inode)
    have HOI : Hid ((cellsF zeroI).size = (cellsF LI).size) := Lib.hid (by rw [cellsF_size, cellsF_size, HI15.out]; rfl)
    go_wp2_with (first | (refine wpList_store_row rfl 37 _ _ rfl u1.heap.size (cellsF LI) rfl rfl _ _ HZ1.out HSI.out HOI.out (cellsF_one LI) ?_; rw [HE1.out]) | (refine wpList_load_sector rfl _ rfl w.heap.size 0 s rfl hs (HC.out v1 HV1.out) ?_))
    refine (HR2.out v1).mono ?_
    rintro e u2 ⟨b, v, rfl, ho⟩
    rw [HDS.out] at ho
    rw [HDS.out, H2.out]
    obtain ⟨aS, cS, rfl, -, -⟩ := owned_list ho
    clear ho
    have HU2 : Hid (Below w1.heap.size w1 u2) := Lib.hid (HV1.out.trans (b.mono HV1.out.size))
    clear b
    have nz2 := heap_alloc_new u2 (.cells (sumZ) 43)
    have e2 := World.setRow_alloc_new u2 (sumZ) (sumX DS (.slice aS DS.list.length cS)) 43
    have HV2 : Hid (Below w1.heap.size w1 (u2.alloc (.cells (sumX DS (.slice aS DS.list.length cS)) 43))) := Lib.hid (HU2.out.alloc HU2.out.size _)
    obtain ⟨v2, hv2⟩ : ∃ W, u2.alloc (.cells (sumX DS (.slice aS DS.list.length cS)) 43) = W := ⟨_, rfl⟩
    rw [hv2] at e2 HV2
    have HZ2 := Lib.hid nz2
    have HE2 := Lib.hid e2
    clear hv2 nz2 e2
    go_wp2_with (first | (refine wpList_store_row rfl 43 _ _ rfl u2.heap.size (sumX DS (.slice aS DS.list.length cS)) rfl rfl _ _ HZ2.out size_sum rfl (sumV_one _ _ _ _ _ _ _ _) ?_; rw [HE2.out]) | (refine wpList_load_sector rfl _ rfl w.heap.size 0 s rfl hs (HC.out v2 HV2.out) ?_))
    refine (HR3.out v2).mono ?_
    rintro e u3 ⟨b, aa, cc, rfl, -⟩
    rw [HL3.out, H3.out]
    have HU3 : Hid (Below w1.heap.size w1 u3) := Lib.hid (HV2.out.trans (b.mono HV2.out.size))
    clear b
    go_wp2_with (refine wpList_load_sector rfl _ rfl w.heap.size 0 s rfl hs (HC.out u3 HU3.out) ?_)
    refine (HR4.out u3).mono ?_
    rintro e u4 ⟨b, aa, cc, rfl, -⟩
    rw [HL4.out, H4.out]
    have HU4 : Hid (Below w1.heap.size w1 u4) := Lib.hid (HU3.out.trans (b.mono HU3.out.size))
    clear b
    go_wp2_with (refine wpList_load_sector rfl _ rfl w.heap.size 0 s rfl hs (HC.out u4 HU4.out) ?_)
    refine (HR5.out u4).mono ?_
    rintro e u5 ⟨rfl, b⟩
    rw [HLH.out, H5.out]
    have HU5 : Hid (Below w1.heap.size w1 u5) := Lib.hid (HU4.out.trans (b.mono HU4.out.size))
    clear b
    have nz5 := heap_alloc_new u5 (.cells (cellsF zeroH) 72)
    have e5 := World.setRow_alloc_new u5 (cellsF zeroH) (cellsF LH) 72
    have HV5 : Hid (Below w1.heap.size w1 (u5.alloc (.cells (cellsF LH) 72))) := Lib.hid (HU5.out.alloc HU5.out.size _)
    obtain ⟨v5, hv5⟩ : ∃ W, u5.alloc (.cells (cellsF LH) 72) = W := ⟨_, rfl⟩
    rw [hv5] at e5 HV5
    have HZ5 := Lib.hid nz5
    have HE5 := Lib.hid e5
    clear hv5 nz5 e5
    have HSH : Hid ((Tryz.prog.info? 72).map (·.size) = some (cellsF LH).size) := Lib.hid (by rw [cellsF_size, HH6.out]; exact size_head)
    have HOH : Hid ((cellsF zeroH).size = (cellsF LH).size) := Lib.hid (by rw [cellsF_size, cellsF_size, HH6.out]; rfl)
    go_wp2_with (first | (refine wpList_store_row rfl 72 _ _ rfl u5.heap.size (cellsF LH) rfl rfl _ _ HZ5.out HSH.out HOH.out (cellsF_one LH) ?_; rw [HE5.out]) | (refine wpList_load_sector rfl _ rfl w.heap.size 0 s rfl hs (HC.out v5 HV5.out) ?_))
    refine (HR6.out v5).mono ?_
    rintro e u6 ⟨b, aa, cc, rfl, -⟩
    rw [HL6.out, H6.out]
    have HU6 : Hid (Below w1.heap.size w1 u6) := Lib.hid (HV5.out.trans (b.mono HV5.out.size))
    clear b
    go_wp2_with (refine wpList_load_sector rfl _ rfl w.heap.size 0 s rfl hs (HC.out u6 HU6.out) ?_)
    refine (HR7.out u6).mono ?_
    rintro e u7 ⟨b, ⟨hx, -⟩ | ⟨-, rfl⟩⟩
    · rw [H7.out] at hx; cases hx
    · have HU7 : Hid (Below w1.heap.size w1 u7) := Lib.hid (HU6.out.trans (b.mono HU6.out.size))
      clear b
      have HB9 : Hid (Below w.heap.size w (u7.alloc (.cells #[.int .i64 0, .int .i64 0, .int .i64 0] 78))) := Lib.hid (by
        have h1 := (HW.out.trans (HU7.out.mono HSZ.out))
        exact h1.alloc h1.size _)
      go_wp2
      go_ret
      exact ⟨rfl, HB9.out⟩
end Go.Proofs.YtgakidimipipeaaGreat
