/- A call with nothing but what its Op has; the errors' helpers. -/
import Derived.Test.YtebgejoemlgggaaDoorParse1
namespace Go.Proofs.YtebgejoemlgggaaDoor
open Go.RowKit Go.Sort
set_option linter.unusedVariables false
set_option linter.unusedSimpArgs false
set_option maxRecDepth 100000

def bareC (has : Bx) (op a b : Int) (S T : ByteArray) (da : Option Addr) (dn dc : Nat) : Array Value :=
  callC op (if (65 : UInt8) ∈ has then a else 0) (if (66 : UInt8) ∈ has then b else 0) (if (83 : UInt8) ∈ has then S else ⟨#[]⟩) (if (84 : UInt8) ∈ has then T else ⟨#[]⟩) (if (68 : UInt8) ∈ has then da else none) (if (68 : UInt8) ∈ has then dn else 0) (if (68 : UInt8) ∈ has then dc else 0)
theorem bare_step {has : Bx} {op a b : Int} {S T : ByteArray} {da : Option Addr} {dn dc : Nat} :
    bareC (has ++ [65]) op a b S T da dn dc = (bareC has op a b S T da dn dc).setIfInBounds 1 (.int .i64 a) ∧
    bareC (has ++ [66]) op a b S T da dn dc = (bareC has op a b S T da dn dc).setIfInBounds 2 (.int .i64 b) ∧
    bareC (has ++ [83]) op a b S T da dn dc = (bareC has op a b S T da dn dc).setIfInBounds 3 (.string S) ∧
    bareC (has ++ [84]) op a b S T da dn dc = (bareC has op a b S T da dn dc).setIfInBounds 4 (.string T) ∧
    bareC (has ++ [68]) op a b S T da dn dc = (bareC has op a b S T da dn dc).setIfInBounds 5 (.slice da dn dc) := by
  refine ⟨?_, ?_, ?_, ?_, ?_⟩ <;> · unfold bareC callC; simp
set_option maxHeartbeats 1600000 in
theorem bare_is (op a b : Int) (S T : ByteArray) (da : Option Addr) (dn dc : Nat) (w : World) (hv : VarsAt w) (ho : I64 op) :
    Calls Tryd.prog 43 #[.agg #[.int .i64 op, .int .i64 a, .int .i64 b, .string S, .string T, .slice da dn dc]] w fun e w' => e = .returned (.agg (bareC (shapeN op).2 op a b S T da dn dc)) ∧ Below w.heap.size w w' := by
  obtain ⟨n1, n2, _⟩ := shapeN_facts op
  have HSH := Lib.hid (fun (W : World) (hW : Below w.heap.size w W) => shapeOf_is op ho W (hv.below hW))
  obtain ⟨nm, hnm⟩ : ∃ x, (shapeN op).1 = x := ⟨_, rfl⟩
  obtain ⟨H, hH⟩ : ∃ x, (shapeN op).2 = x := ⟨_, rfl⟩
  rw [hH] at n1 n2 ⊢
  have N1 := Lib.hid n1
  have N2 := Lib.hid n2
  have HNH := Lib.hid (And.intro hnm hH)
  clear hv hnm hH n1 n2
  go_enter Tryd.func43, Tryd.ntmps43
  go_wp2_with fail
  have m0 := heap_alloc_new w (.cells #[.int .i64 op, .int .i64 a, .int .i64 b, .string S, .string T, .slice da dn dc] 27)
  have k0 := below_box w (.cells #[.int .i64 op, .int .i64 a, .int .i64 b, .string S, .string T, .slice da dn dc] 27)
  obtain ⟨w1, hw1⟩ : ∃ x, w.alloc (.cells #[.int .i64 op, .int .i64 a, .int .i64 b, .string S, .string T, .slice da dn dc] 27) = x := ⟨_, rfl⟩
  have s1 : w1.heap.size = w.heap.size + 1 := by rw [← hw1]; simp
  rw [hw1] at m0 k0
  have m1 := heap_alloc_new w1 (.cells #[.int .i64 0, .int .i64 0, .int .i64 0, .string ⟨#[]⟩, .string ⟨#[]⟩, .slice none 0 0] 27)
  have k1 := below_box w1 (.cells #[.int .i64 0, .int .i64 0, .int .i64 0, .string ⟨#[]⟩, .string ⟨#[]⟩, .slice none 0 0] 27)
  rw [s1] at m1
  obtain ⟨w2, hw2⟩ : ∃ x, w1.alloc (.cells #[.int .i64 0, .int .i64 0, .int .i64 0, .string ⟨#[]⟩, .string ⟨#[]⟩, .slice none 0 0] 27) = x := ⟨_, rfl⟩
  have s2 : w2.heap.size = w.heap.size + 1 + 1 := by rw [← hw2]; simp [s1]
  rw [hw2] at m1 k1
  have m2 := heap_alloc_new w2 (.cells #[.int .i64 op, .int .i64 0, .int .i64 0, .string ⟨#[]⟩, .string ⟨#[]⟩, .slice none 0 0] 27)
  have k2 := below_box w2 (.cells #[.int .i64 op, .int .i64 0, .int .i64 0, .string ⟨#[]⟩, .string ⟨#[]⟩, .slice none 0 0] 27)
  rw [s2] at m2
  rw [hw1, hw2]
  obtain ⟨w3, hw3⟩ : ∃ x, w2.alloc (.cells #[.int .i64 op, .int .i64 0, .int .i64 0, .string ⟨#[]⟩, .string ⟨#[]⟩, .slice none 0 0] 27) = x := ⟨_, rfl⟩
  rw [hw3] at m2 k2 ⊢
  have M0 := Lib.hid (((below_next k1 k2).block w.heap.size (Array.getElem?_eq_some_iff.1 m0).1).trans m0)
  have M1 := Lib.hid ((k2.block (w.heap.size + 1) (by rw [s2]; omega)).trans m1)
  have M2 := Lib.hid m2
  have K3 := Lib.hid (below_next (below_next k0 k1) k2)
  have hs3 : w.heap.size + 1 + 1 < w3.heap.size := (Array.getElem?_eq_some_iff.1 m2).1
  obtain ⟨b1, hb1⟩ : ∃ x, w.heap.size + 1 = x := ⟨_, rfl⟩
  rw [hb1] at M1 M2 hs3 ⊢
  obtain ⟨b2, hb2⟩ : ∃ x, b1 + 1 = x := ⟨_, rfl⟩
  rw [hb2] at M2 hs3 ⊢
  have HBI : Hid (w.heap.size < b1 ∧ b1 < b2) := Lib.hid (by omega)
  have HS3 := Lib.hid hs3
  clear m0 k0 m1 k1 m2 k2 hw1 hw2 hw3 s1 s2 hb1 hb2 hs3
  refine (HSH.out _ K3.out).mono ?_
  rintro e w4 ⟨rfl, b4⟩
  rw [HNH.out.1, HNH.out.2]
  obtain ⟨xn, hxn⟩ : ∃ x, strB nm = .string x := ⟨_, rfl⟩
  obtain ⟨xh, hxh⟩ : ∃ x, strB H = .string x := ⟨_, rfl⟩
  rw [hxn, hxh]
  have hxd : xh.data.toList = H := by unfold strB at hxh; injection hxh with hxh; rw [← hxh]
  have hxs : xh.size = H.length := by rw [Lib.size_eq, hxd]
  have hf := field_shp2 xn xh
  have hcv := conv_bytesB w4 xh
  have k5 := below_bytesB w4 5 xh
  have r5 := reads_bytesB w4 5 xh
  have n5 := Lib.bytesWorld_at_new w4 5 xh
  rw [hxd] at r5
  obtain ⟨gh, hgh⟩ : ∃ x, w4.heap.size = x := ⟨_, rfl⟩
  obtain ⟨gc, hgc⟩ : ∃ x, grownCap w4 xh.size 0 5 = x := ⟨_, rfl⟩
  obtain ⟨m, hm⟩ : ∃ x, xh.size = x := ⟨_, rfl⟩
  obtain ⟨w5, hw5⟩ : ∃ x, Lib.bytesWorld w4 5 xh = x := ⟨_, rfl⟩
  rw [hw5, hgh] at n5
  rw [hw5, hgh, hm] at r5
  rw [hw5, hgh, hgc, hm] at hcv
  rw [hw5] at k5
  rw [hm] at hxs
  have HM := Lib.hid hxs
  have R5 := Lib.hid r5
  have HGB : Hid (b2 < gh) := Lib.hid (by rw [← hgh]; exact Nat.lt_of_lt_of_le HS3.out b4.size)
  have b45 := below_next b4 k5
  have HGL5 : Hid (gh < w5.heap.size) := Lib.hid (Array.getElem?_eq_some_iff.1 n5).1
  have K5 := Lib.hid (below_next K3.out b45)
  have A0 := Lib.hid ((b45.block w.heap.size (Array.getElem?_eq_some_iff.1 M0.out).1).trans M0.out)
  have A1 := Lib.hid ((b45.block b1 (Array.getElem?_eq_some_iff.1 M1.out).1).trans M1.out)
  have A2 : Hid (w5.heap[b2]? = some (.cells (bareC [] op a b S T da dn dc) 27 (0, 0))) := Lib.hid ((b45.block b2 (Array.getElem?_eq_some_iff.1 M2.out).1).trans M2.out)
  have hm2 : (m : Int) ≤ 2 := by have := N1.out; omega
  clear hxn hxh hxd hgh hgc hm hw5 hxs b4 k5 b45 r5 n5 K3 M0 M1 M2 HSH
  go_wp2_with fail
  go_loopw [15] (fun i wr => ∃ k : Nat, i = .int .i64 (k : Int) ∧ k ≤ m ∧ Hid (Below w.heap.size w wr) ∧ Hid (wr.heap[w.heap.size]? = some (.cells #[.int .i64 op, .int .i64 a, .int .i64 b, .string S, .string T, .slice da dn dc] 27 (0, 0))) ∧ Hid (wr.heap[b1]? = some (.cells #[.int .i64 0, .int .i64 0, .int .i64 0, .string ⟨#[]⟩, .string ⟨#[]⟩, .slice none 0 0] 27 (0, 0))) ∧ Hid (wr.heap[b2]? = some (.cells (bareC (H.take k) op a b S T da dn dc) 27 (0, 0))) ∧ Hid (wr.heap[gh]? = w5.heap[gh]?)) (fun i _ => m - (intOf i).toNat)
  case atStart => exact ⟨0, rfl, Nat.zero_le _, K5, A0, A1, A2, Lib.hid rfl⟩
  case round =>
    obtain ⟨k, rfl, hk, HB, H0, H1, HXB, HG⟩ := hrel
    clear K5 A0 A1 A2
    by_cases hlt : k < m
    · have hlt2 : (k : Int) < (m : Int) := by omega
      obtain ⟨c, hc⟩ : ∃ c, H[k]? = some c := ⟨_, List.getElem?_eq_getElem (by rw [← HM.out]; exact hlt)⟩
      obtain ⟨b9, o9, e9, _, d9⟩ := reads_get R5.out hc
      have d1 : wr.cell? ⟨gh, k, none⟩ = some (.int .u8 (c.toNat : Int)) := by
        cases e9
        rw [Nat.zero_add] at d9
        exact (cell_same HG.out k).trans d9
      have HGL : Hid (gh < wr.heap.size) := Lib.hid (by
        have h1 := (Array.getElem?_eq_some_iff.1 (show w5.heap[gh]? = some (w5.heap[gh]'HGL5.out) from Array.getElem?_eq_getElem HGL5.out))
        have h2 := HG.out
        rw [Array.getElem?_eq_getElem HGL5.out] at h2
        exact (Array.getElem?_eq_some_iff.1 h2).1)
      have c1 := cell_atB H0.out 1
      have c2 := cell_atB H0.out 2
      have c3 := cell_atB H0.out 3
      have c4 := cell_atB H0.out 4
      have c5 := cell_atB H0.out 5
      have x1 := cell_atB HXB.out 1
      have x2 := cell_atB HXB.out 2
      have x3 := cell_atB HXB.out 3
      have x4 := cell_atB HXB.out 4
      have x5 := cell_atB HXB.out 5
      unfold bareC callC at x1 x2 x3 x4 x5
      have f1 := Joins.unfrozen_of_block HXB.out 1
      have f2 := Joins.unfrozen_of_block HXB.out 2
      have f3 := Joins.unfrozen_of_block HXB.out 3
      have f4 := Joins.unfrozen_of_block HXB.out 4
      have f5 := Joins.unfrozen_of_block HXB.out 5
      have hl5 := N2.out c (List.mem_of_getElem? hc)
      have HC := Lib.hid hc
      have key : ∀ n : Nat, n < 256 → c.toNat = n → c = UInt8.ofNat n := fun n hn e => UInt8.toNat_inj.1 (by rw [e, UInt8.toNat_ofNat', Nat.mod_eq_of_lt hn])
      simp only [List.mem_cons, List.not_mem_nil, or_false] at hl5
      clear hc d9 e9
      rcases hl5 with hl5 | hl5 | hl5 | hl5 | hl5
      · obtain rfl := key 65 (by decide) hl5
        have hst := (bare_step (has := H.take k) (op := op) (a := a) (b := b) (S := S) (T := T) (da := da) (dn := dn) (dc := dc)).1
        have hsx := set_cellB 1 (.int .i64 a) HXB.out
        rw [← hst] at hsx
        have hgr : wr.grownBy (wr.setCell ⟨b2, 1, none⟩ (.int .i64 a)) (some b2) := grown_setB wr ⟨b2, 1, none⟩ (.int .i64 a)
        have HSX : Hid ((wr.setCell ⟨b2, 1, none⟩ (.int .i64 a)).heap[b2]? = some (.cells (bareC (H.take (k + 1)) op a b S T da dn dc) 27 (0, 0))) := Lib.hid (by rw [List.take_add_one, HC.out]; exact hsx)
        have H09 : Hid ((wr.setCell ⟨b2, 1, none⟩ (.int .i64 a)).heap[w.heap.size]? = some (.cells #[.int .i64 op, .int .i64 a, .int .i64 b, .string S, .string T, .slice da dn dc] 27 (0, 0))) := Lib.hid ((hgr.block w.heap.size (Array.getElem?_eq_some_iff.1 H0.out).1 (fun e => by have := Option.some.inj e; have := HBI.out; omega)).trans H0.out)
        have H19 : Hid ((wr.setCell ⟨b2, 1, none⟩ (.int .i64 a)).heap[b1]? = some (.cells #[.int .i64 0, .int .i64 0, .int .i64 0, .string ⟨#[]⟩, .string ⟨#[]⟩, .slice none 0 0] 27 (0, 0))) := Lib.hid ((hgr.block b1 (Array.getElem?_eq_some_iff.1 H1.out).1 (fun e => by have := Option.some.inj e; have := HBI.out; omega)).trans H1.out)
        have HG9 : Hid ((wr.setCell ⟨b2, 1, none⟩ (.int .i64 a)).heap[gh]? = w5.heap[gh]?) := Lib.hid ((hgr.block gh HGL.out (fun e => by have := Option.some.inj e; have := HGB.out; omega)).trans HG.out)
        have HB9 : Hid (Below w.heap.size w (wr.setCell ⟨b2, 1, none⟩ (.int .i64 a))) := Lib.hid (HB.out.grown hgr HB.out.size (fun j hj => by obtain rfl := Option.some.inj hj; have := HBI.out; omega))
        clear hst hsx hgr HXB H0 H1 HG HB
        go_wp2
        go_roundw
        case rel => exact ⟨k + 1, by go_num, by omega, HB9, H09, H19, HSX, HG9⟩
        case measure => simp [intOf]; omega
      · obtain rfl := key 66 (by decide) hl5
        have hst := (bare_step (has := H.take k) (op := op) (a := a) (b := b) (S := S) (T := T) (da := da) (dn := dn) (dc := dc)).2.1
        have hsx := set_cellB 2 (.int .i64 b) HXB.out
        rw [← hst] at hsx
        have hgr : wr.grownBy (wr.setCell ⟨b2, 2, none⟩ (.int .i64 b)) (some b2) := grown_setB wr ⟨b2, 2, none⟩ (.int .i64 b)
        have HSX : Hid ((wr.setCell ⟨b2, 2, none⟩ (.int .i64 b)).heap[b2]? = some (.cells (bareC (H.take (k + 1)) op a b S T da dn dc) 27 (0, 0))) := Lib.hid (by rw [List.take_add_one, HC.out]; exact hsx)
        have H09 : Hid ((wr.setCell ⟨b2, 2, none⟩ (.int .i64 b)).heap[w.heap.size]? = some (.cells #[.int .i64 op, .int .i64 a, .int .i64 b, .string S, .string T, .slice da dn dc] 27 (0, 0))) := Lib.hid ((hgr.block w.heap.size (Array.getElem?_eq_some_iff.1 H0.out).1 (fun e => by have := Option.some.inj e; have := HBI.out; omega)).trans H0.out)
        have H19 : Hid ((wr.setCell ⟨b2, 2, none⟩ (.int .i64 b)).heap[b1]? = some (.cells #[.int .i64 0, .int .i64 0, .int .i64 0, .string ⟨#[]⟩, .string ⟨#[]⟩, .slice none 0 0] 27 (0, 0))) := Lib.hid ((hgr.block b1 (Array.getElem?_eq_some_iff.1 H1.out).1 (fun e => by have := Option.some.inj e; have := HBI.out; omega)).trans H1.out)
        have HG9 : Hid ((wr.setCell ⟨b2, 2, none⟩ (.int .i64 b)).heap[gh]? = w5.heap[gh]?) := Lib.hid ((hgr.block gh HGL.out (fun e => by have := Option.some.inj e; have := HGB.out; omega)).trans HG.out)
        have HB9 : Hid (Below w.heap.size w (wr.setCell ⟨b2, 2, none⟩ (.int .i64 b))) := Lib.hid (HB.out.grown hgr HB.out.size (fun j hj => by obtain rfl := Option.some.inj hj; have := HBI.out; omega))
        clear hst hsx hgr HXB H0 H1 HG HB
        go_wp2
        go_roundw
        case rel => exact ⟨k + 1, by go_num, by omega, HB9, H09, H19, HSX, HG9⟩
        case measure => simp [intOf]; omega
      · obtain rfl := key 83 (by decide) hl5
        have hst := (bare_step (has := H.take k) (op := op) (a := a) (b := b) (S := S) (T := T) (da := da) (dn := dn) (dc := dc)).2.2.1
        have hsx := set_cellB 3 (.string S) HXB.out
        rw [← hst] at hsx
        have hgr : wr.grownBy (wr.setCell ⟨b2, 3, none⟩ (.string S)) (some b2) := grown_setB wr ⟨b2, 3, none⟩ (.string S)
        have HSX : Hid ((wr.setCell ⟨b2, 3, none⟩ (.string S)).heap[b2]? = some (.cells (bareC (H.take (k + 1)) op a b S T da dn dc) 27 (0, 0))) := Lib.hid (by rw [List.take_add_one, HC.out]; exact hsx)
        have H09 : Hid ((wr.setCell ⟨b2, 3, none⟩ (.string S)).heap[w.heap.size]? = some (.cells #[.int .i64 op, .int .i64 a, .int .i64 b, .string S, .string T, .slice da dn dc] 27 (0, 0))) := Lib.hid ((hgr.block w.heap.size (Array.getElem?_eq_some_iff.1 H0.out).1 (fun e => by have := Option.some.inj e; have := HBI.out; omega)).trans H0.out)
        have H19 : Hid ((wr.setCell ⟨b2, 3, none⟩ (.string S)).heap[b1]? = some (.cells #[.int .i64 0, .int .i64 0, .int .i64 0, .string ⟨#[]⟩, .string ⟨#[]⟩, .slice none 0 0] 27 (0, 0))) := Lib.hid ((hgr.block b1 (Array.getElem?_eq_some_iff.1 H1.out).1 (fun e => by have := Option.some.inj e; have := HBI.out; omega)).trans H1.out)
        have HG9 : Hid ((wr.setCell ⟨b2, 3, none⟩ (.string S)).heap[gh]? = w5.heap[gh]?) := Lib.hid ((hgr.block gh HGL.out (fun e => by have := Option.some.inj e; have := HGB.out; omega)).trans HG.out)
        have HB9 : Hid (Below w.heap.size w (wr.setCell ⟨b2, 3, none⟩ (.string S))) := Lib.hid (HB.out.grown hgr HB.out.size (fun j hj => by obtain rfl := Option.some.inj hj; have := HBI.out; omega))
        clear hst hsx hgr HXB H0 H1 HG HB
        go_wp2
        go_roundw
        case rel => exact ⟨k + 1, by go_num, by omega, HB9, H09, H19, HSX, HG9⟩
        case measure => simp [intOf]; omega
      · obtain rfl := key 84 (by decide) hl5
        have hst := (bare_step (has := H.take k) (op := op) (a := a) (b := b) (S := S) (T := T) (da := da) (dn := dn) (dc := dc)).2.2.2.1
        have hsx := set_cellB 4 (.string T) HXB.out
        rw [← hst] at hsx
        have hgr : wr.grownBy (wr.setCell ⟨b2, 4, none⟩ (.string T)) (some b2) := grown_setB wr ⟨b2, 4, none⟩ (.string T)
        have HSX : Hid ((wr.setCell ⟨b2, 4, none⟩ (.string T)).heap[b2]? = some (.cells (bareC (H.take (k + 1)) op a b S T da dn dc) 27 (0, 0))) := Lib.hid (by rw [List.take_add_one, HC.out]; exact hsx)
        have H09 : Hid ((wr.setCell ⟨b2, 4, none⟩ (.string T)).heap[w.heap.size]? = some (.cells #[.int .i64 op, .int .i64 a, .int .i64 b, .string S, .string T, .slice da dn dc] 27 (0, 0))) := Lib.hid ((hgr.block w.heap.size (Array.getElem?_eq_some_iff.1 H0.out).1 (fun e => by have := Option.some.inj e; have := HBI.out; omega)).trans H0.out)
        have H19 : Hid ((wr.setCell ⟨b2, 4, none⟩ (.string T)).heap[b1]? = some (.cells #[.int .i64 0, .int .i64 0, .int .i64 0, .string ⟨#[]⟩, .string ⟨#[]⟩, .slice none 0 0] 27 (0, 0))) := Lib.hid ((hgr.block b1 (Array.getElem?_eq_some_iff.1 H1.out).1 (fun e => by have := Option.some.inj e; have := HBI.out; omega)).trans H1.out)
        have HG9 : Hid ((wr.setCell ⟨b2, 4, none⟩ (.string T)).heap[gh]? = w5.heap[gh]?) := Lib.hid ((hgr.block gh HGL.out (fun e => by have := Option.some.inj e; have := HGB.out; omega)).trans HG.out)
        have HB9 : Hid (Below w.heap.size w (wr.setCell ⟨b2, 4, none⟩ (.string T))) := Lib.hid (HB.out.grown hgr HB.out.size (fun j hj => by obtain rfl := Option.some.inj hj; have := HBI.out; omega))
        clear hst hsx hgr HXB H0 H1 HG HB
        go_wp2
        go_roundw
        case rel => exact ⟨k + 1, by go_num, by omega, HB9, H09, H19, HSX, HG9⟩
        case measure => simp [intOf]; omega
      · obtain rfl := key 68 (by decide) hl5
        have hst := (bare_step (has := H.take k) (op := op) (a := a) (b := b) (S := S) (T := T) (da := da) (dn := dn) (dc := dc)).2.2.2.2
        have hsx := set_cellB 5 (.slice da dn dc) HXB.out
        rw [← hst] at hsx
        have hgr : wr.grownBy (wr.setCell ⟨b2, 5, none⟩ (.slice da dn dc)) (some b2) := grown_setB wr ⟨b2, 5, none⟩ (.slice da dn dc)
        have HSX : Hid ((wr.setCell ⟨b2, 5, none⟩ (.slice da dn dc)).heap[b2]? = some (.cells (bareC (H.take (k + 1)) op a b S T da dn dc) 27 (0, 0))) := Lib.hid (by rw [List.take_add_one, HC.out]; exact hsx)
        have H09 : Hid ((wr.setCell ⟨b2, 5, none⟩ (.slice da dn dc)).heap[w.heap.size]? = some (.cells #[.int .i64 op, .int .i64 a, .int .i64 b, .string S, .string T, .slice da dn dc] 27 (0, 0))) := Lib.hid ((hgr.block w.heap.size (Array.getElem?_eq_some_iff.1 H0.out).1 (fun e => by have := Option.some.inj e; have := HBI.out; omega)).trans H0.out)
        have H19 : Hid ((wr.setCell ⟨b2, 5, none⟩ (.slice da dn dc)).heap[b1]? = some (.cells #[.int .i64 0, .int .i64 0, .int .i64 0, .string ⟨#[]⟩, .string ⟨#[]⟩, .slice none 0 0] 27 (0, 0))) := Lib.hid ((hgr.block b1 (Array.getElem?_eq_some_iff.1 H1.out).1 (fun e => by have := Option.some.inj e; have := HBI.out; omega)).trans H1.out)
        have HG9 : Hid ((wr.setCell ⟨b2, 5, none⟩ (.slice da dn dc)).heap[gh]? = w5.heap[gh]?) := Lib.hid ((hgr.block gh HGL.out (fun e => by have := Option.some.inj e; have := HGB.out; omega)).trans HG.out)
        have HB9 : Hid (Below w.heap.size w (wr.setCell ⟨b2, 5, none⟩ (.slice da dn dc))) := Lib.hid (HB.out.grown hgr HB.out.size (fun j hj => by obtain rfl := Option.some.inj hj; have := HBI.out; omega))
        clear hst hsx hgr HXB H0 H1 HG HB
        go_wp2
        go_roundw
        case rel => exact ⟨k + 1, by go_num, by omega, HB9, H09, H19, HSX, HG9⟩
        case measure => simp [intOf]; omega
    · obtain rfl : k = m := by omega
      have hge : ¬ (k : Int) < (k : Int) := by omega
      have htk : H.take k = H := List.take_of_length_le (by rw [← HM.out]; exact Nat.le_refl _)
      rw [htk] at HXB
      obtain ⟨A9, hA⟩ : ∃ x, (if (65 : UInt8) ∈ H then a else 0) = x := ⟨_, rfl⟩
      obtain ⟨B9, hB⟩ : ∃ x, (if (66 : UInt8) ∈ H then b else 0) = x := ⟨_, rfl⟩
      obtain ⟨S9, hS⟩ : ∃ x, (if (83 : UInt8) ∈ H then S else ⟨#[]⟩) = x := ⟨_, rfl⟩
      obtain ⟨T9, hT⟩ : ∃ x, (if (84 : UInt8) ∈ H then T else ⟨#[]⟩) = x := ⟨_, rfl⟩
      obtain ⟨d1, hd1⟩ : ∃ x, (if (68 : UInt8) ∈ H then da else none) = x := ⟨_, rfl⟩
      obtain ⟨d2, hd2⟩ : ∃ x, (if (68 : UInt8) ∈ H then dn else 0) = x := ⟨_, rfl⟩
      obtain ⟨d3, hd3⟩ : ∃ x, (if (68 : UInt8) ∈ H then dc else 0) = x := ⟨_, rfl⟩
      have hbc : bareC H op a b S T da dn dc = #[.int .i64 op, .int .i64 A9, .int .i64 B9, .string S9, .string T9, .slice d1 d2 d3] := by unfold bareC callC; rw [hA, hB, hS, hT, hd1, hd2, hd3]
      rw [hbc] at HXB
      have HBC := Lib.hid hbc
      have x0 := cell_atB HXB.out 0
      have x1 := cell_atB HXB.out 1
      have x2 := cell_atB HXB.out 2
      have x3 := cell_atB HXB.out 3
      have x4 := cell_atB HXB.out 4
      have x5 := cell_atB HXB.out 5
      have z0 := cell_atB H1.out 0
      have z1 := cell_atB H1.out 1
      have z2 := cell_atB H1.out 2
      have z3 := cell_atB H1.out 3
      have z4 := cell_atB H1.out 4
      have z5 := cell_atB H1.out 5
      have f0 := Joins.unfrozen_of_block H1.out 0
      have f1 := Joins.unfrozen_of_block H1.out 1
      have f2 := Joins.unfrozen_of_block H1.out 2
      have f3 := Joins.unfrozen_of_block H1.out 3
      have f4 := Joins.unfrozen_of_block H1.out 4
      have f5 := Joins.unfrozen_of_block H1.out 5
      have HZ := Lib.hid (set_sixB (.int .i64 op) (.int .i64 A9) (.int .i64 B9) (.string S9) (.string T9) (.slice d1 d2 d3) H1.out)
      clear hA hB hS hT hd1 hd2 hd3 hbc HXB H0 HG
      go_wp2
      (try simp only [Exit.inBlock, Exit.then])
      refine bodyPost_ret (results_call rfl _ _ b1 (cs := [.int .i64 op, .int .i64 A9, .int .i64 B9, .string S9, .string T9, .slice d1 d2 d3]) rfl rfl HZ.out.1) rfl ?_
      exact ⟨by rw [HBC.out], HB.out.grown HZ.out.2 HB.out.size (fun j hj => by obtain rfl := Option.some.inj hj; exact Nat.le_of_lt HBI.out.1)⟩
theorem when_is (so : Bool) (x : Int) (w : World) : Calls Tryd.prog 47 #[.bool so, .int .i64 x] w fun e w' => e = .returned (.int .i64 (if so = true then x else 0)) ∧ w' = w := by
  go_enter Tryd.func47, Tryd.ntmps47
  cases so
  · go_wp2
    go_ret
    exact ⟨rfl, rfl⟩
  · go_wp2
    go_ret
    exact ⟨rfl, rfl⟩
/-- The first that is none of them 0. -/
def firstE : List Int → Int
  | [] => 0
  | x :: l => if x ≠ 0 then x else firstE l
theorem firstE_none {l : List Int} (h : ∀ x ∈ l, x = 0) : firstE l = 0 := by
  induction l with
  | nil => rfl
  | cons x l ih => unfold firstE; rw [if_neg (by simpa using h x (by simp))]; exact ih fun y hy => h y (by simp [hy])
theorem firstE_at {l : List Int} {k : Nat} {x : Int} (h : ∀ (j : Nat) (y : Int), j < k → l[j]? = some y → y = 0) (hk : l[k]? = some x) (hx : x ≠ 0) : firstE l = x := by
  induction l generalizing k with
  | nil => cases hk
  | cons y l ih =>
    unfold firstE
    cases k with
    | zero =>
      have : y = x := by simpa using hk
      rw [this, if_pos hx]
    | succ k =>
      have h0 := h 0 y (by omega) rfl
      rw [if_neg (by simpa using h0)]
      exact ih (k := k) (fun j z hj hz => h (j + 1) z (by omega) (by simpa using hz)) (by simpa using hk)
set_option maxHeartbeats 800000 in
theorem first_is (a : Option Addr) (cap : Nat) (l : List Int) (w : World) (hr : ReadsV w a l.length (l.map (Value.int .i64))) (hl : l.length ≤ 100) : Calls Tryd.prog 46 #[.slice a l.length cap] w fun e w' => e = .returned (.int .i64 (firstE l)) ∧ w' = w := by
  have HR := Lib.hid hr
  obtain ⟨n, hn⟩ : ∃ n, l.length = n := ⟨_, rfl⟩
  have HN := Lib.hid hn
  rw [hn] at hl ⊢
  have hl2 : (n : Int) ≤ 100 := by omega
  clear hr hn
  go_enter Tryd.func46, Tryd.ntmps46
  go_wp2
  go_loop [7] (fun i => ∃ k : Nat, k ≤ n ∧ i = .int .i64 (k : Int) ∧ Hid (∀ (j : Nat) (y : Int), j < k → l[j]? = some y → y = 0)) (fun i => n - (intOf i).toNat)
  case atStart => exact ⟨0, Nat.zero_le _, rfl, Lib.hid (fun j y h => by omega)⟩
  case round =>
    obtain ⟨k, hk, rfl, HNO⟩ := hrel
    by_cases hlt : k < n
    · have hlt2 : (k : Int) < (n : Int) := by omega
      obtain ⟨x, hx⟩ : ∃ x, l[k]? = some x := ⟨_, List.getElem?_eq_getElem (by rw [HN.out]; exact hlt)⟩
      obtain ⟨b, off, rfl, _, d0⟩ := HR.out.at (i := k) (u := .int .i64 x) (by rw [List.getElem?_map, hx]; rfl)
      have HX := Lib.hid hx
      clear hx
      by_cases h0 : x = 0
      · have HN2 : Hid (∀ (j : Nat) (y : Int), j < k + 1 → l[j]? = some y → y = 0) := Lib.hid (fun j y hj hy => by
          by_cases hjk : j = k
          · subst hjk
            rw [HX.out] at hy
            cases hy
            exact h0
          · exact HNO.out j y (by omega) hy)
        have hb : (x == 0) = true := by rw [h0]; rfl
        have hb2 : (x != 0) = false := by rw [bne, hb]; rfl
        clear h0
        go_wp2
        go_round
        case rel => exact ⟨k + 1, by omega, by go_num, HN2⟩
        case measure => simp [intOf]; omega
      · have HE := Lib.hid (firstE_at HNO.out HX.out h0)
        have hb : (x == 0) = false := by simpa using h0
        have hb2 : (x != 0) = true := by rw [bne, hb]; rfl
        clear h0
        go_wp2
        go_ret
        exact ⟨by rw [HE.out]; rfl, rfl⟩
    · obtain rfl : k = n := by omega
      have HE : Hid (firstE l = 0) := Lib.hid (firstE_none fun x hx => by
        obtain ⟨j, hj⟩ := List.getElem?_of_mem hx
        have := (List.getElem?_eq_some_iff.1 hj).1
        exact HNO.out j x (by rw [← HN.out]; exact this) hj)
      go_wp2
      go_ret
      exact ⟨by rw [HE.out]; rfl, rfl⟩
end Go.Proofs.YtebgejoemlgggaaDoor
