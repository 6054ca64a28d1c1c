/- A call's text. -/
import Derived.Test.YtebgejoemlgggaaDoorCall2
import Derived.Lib.Join
namespace Go.Proofs.YtebgejoemlgggaaDoor
open Go.RowKit Go.Sort
set_option linter.unusedVariables false
set_option linter.unusedSimpArgs false
set_option maxRecDepth 100000

def textL (op a b : Int) (S T d : Bx) : Bx := Lib.join ((shapeN op).1 :: (shapeN op).2.map fun l => wordL l.toNat a b S T d) [32]
theorem shapes_ok : ∀ i, i < 30 → ((shapesL[i]?.getD ([], [])).2.length ≤ 2 ∧ (∀ l ∈ (shapesL[i]?.getD ([], [])).2, l.toNat ∈ [65, 66, 83, 84, 68]) ∧ (shapesL[i]?.getD ([], [])).1.length ≤ 8) := by decide
theorem shapeN_facts (op : Int) : (shapeN op).2.length ≤ 2 ∧ (∀ l ∈ (shapeN op).2, l.toNat ∈ [65, 66, 83, 84, 68]) ∧ (shapeN op).1.length ≤ 8 := by
  unfold shapeN
  split
  · exact shapes_ok _ (by omega)
  · exact ⟨by decide, by decide, by decide⟩
theorem wordL_length {l : Nat} {a b : Int} {S T d : Bx} (ha : I64 a) (hb : I64 b) (hS : S.length ≤ 20000) (hT : T.length ≤ 20000) (hd : d.length ≤ 20000) : (wordL l a b S T d).length ≤ 70000 := by
  have h1 := itoa_len a ha
  have h2 := itoa_len b hb
  have h3 := (escL_length S).2
  have h4 := (escL_length T).2
  have h5 := (escL_length d).2
  unfold wordL
  (repeat' split) <;> omega
theorem join_length (x : Bx) (l : List Bx) (hx : x.length ≤ 70000) (hl : ∀ y ∈ l, y.length ≤ 70000) : (Lib.join (x :: l) [32]).length ≤ 70001 * (l.length + 1) := by
  unfold Lib.join
  induction l generalizing x with
  | nil => simp [List.intercalate]; omega
  | cons y l ih =>
    have h1 := ih y (hl y (by simp)) (fun z hz => hl z (by simp [hz]))
    have e : [32].intercalate (x :: y :: l) = x ++ [32] ++ [32].intercalate (y :: l) := by simp [List.intercalate, List.intersperse]
    rw [e, List.length_append, List.length_append, List.length_singleton, List.length_cons]
    omega
theorem info_strB : (Tryd.prog.info? 9).map (fun i => (i.zero, i.size, i.bytes)) = some (some (.string ByteArray.empty), 1, 16) := by kernel_rfl
theorem own_type {B : Nat} {w : World} {e : TypeId} {v : Value} {l : List Value} (h : OwnsV B w e v l) {g : Nat} {cs : Array Value} {t : TypeId} {fr : Nat × Nat} (hg : w.heap[g]? = some (.cells cs t fr)) (hne : t ≠ e) : v.ownBlock ≠ some g := by
  obtain ⟨_, ⟨hv, _⟩ | ⟨g', cap, cur, hv, _, hg', _⟩⟩ := h
  · intro hb; rw [hv] at hb; cases hb
  · intro hb
    rw [hv] at hb
    cases hb
    rw [hg] at hg'
    simp at hg'
    exact hne hg'.2.1
theorem cell_same {w w' : World} {g : Nat} (h : w'.heap[g]? = w.heap[g]?) (i : Nat) : w'.cell? ⟨g, i, none⟩ = w.cell? ⟨g, i, none⟩ := by unfold World.cell?; rw [h]
/-- A list of texts as values. -/
def strsB (Q : List Bx) : List Value := Q.map strB
theorem strsB_one (Q : List Bx) : OneCells (strsB Q) := by
  intro u hu
  obtain ⟨x, _, rfl⟩ := List.mem_map.1 hu
  rfl
set_option maxHeartbeats 1600000 in
theorem text_is (op a b : Int) (S T : ByteArray) (da : Option Addr) (dn dc : Nat) (d : Bx) (w : World) (hv : VarsAt w) (ho : I64 op) (ha : I64 a) (hb : I64 b) (hS : S.size ≤ 20000) (hT : T.size ≤ 20000) (hd : Reads w da dn (nb d)) (hdc : dn ≤ dc) (hdl : d.length ≤ 20000) :
    Calls Tryd.prog 26 #[.agg #[.int .i64 op, .int .i64 a, .int .i64 b, .string S, .string T, .slice da dn dc]] w fun e w' => e = .returned (strB (textL op a b S.data.toList T.data.toList d)) ∧ Below w.heap.size w w' := by
  obtain ⟨n1, n2, n3⟩ := shapeN_facts op
  have HW := Lib.hid (fun (W : World) (hW : Below w.heap.size w W) (l : Nat) (hl : l ∈ [65, 66, 83, 84, 68]) => word_is l hl op a b S T da dn dc d W (hv.below hW) ha hb hS hT (hd.below hW) hdc hdl)
  have HNM := Lib.hid (fun (W : World) (hW : Below w.heap.size w W) => name_is op ho W (hv.below hW))
  have HSH := Lib.hid (fun (W : World) (hW : Below w.heap.size w W) => shapeOf_is op ho W (hv.below hW))
  have HLEN := Lib.hid (fun l => wordL_length (l := l) (S := S.data.toList) (T := T.data.toList) ha hb (by rw [← Lib.size_eq]; exact hS) (by rw [← Lib.size_eq]; exact hT) hdl)
  obtain ⟨nm, hnm⟩ : ∃ x, (shapeN op).1 = x := ⟨_, rfl⟩
  obtain ⟨H, hH⟩ : ∃ x, (shapeN op).2 = x := ⟨_, rfl⟩
  rw [hH] at n1 n2
  rw [hnm] at n3
  have HT0 : Hid (textL op a b S.data.toList T.data.toList d = Lib.join (nm :: H.map fun l => wordL l.toNat a b S.data.toList T.data.toList d) [32]) := Lib.hid (by unfold textL; rw [hnm, hH])
  obtain ⟨wd, hwd⟩ : ∃ f : Nat → Bx, (fun l => wordL l a b S.data.toList T.data.toList d) = f := ⟨_, rfl⟩
  have hwd2 : ∀ l, wordL l a b S.data.toList T.data.toList d = wd l := fun l => by rw [← hwd]
  simp only [hwd2] at HW HT0 HLEN
  have N1 := Lib.hid n1
  have N2 := Lib.hid n2
  have N3 := Lib.hid n3
  have HNH := Lib.hid (And.intro hnm hH)
  clear hv hd hnm hH n1 n2 n3 hwd hwd2 ho ha hb hS hT hdc hdl
  have kx := below_box w (.cells #[.int .i64 op, .int .i64 a, .int .i64 b, .string S, .string T, .slice da dn dc] 27)
  have nx := heap_alloc_new w (.cells #[.int .i64 op, .int .i64 a, .int .i64 b, .string S, .string T, .slice da dn dc] 27)
  obtain ⟨w1, hw1⟩ : ∃ x, w.alloc (.cells #[.int .i64 op, .int .i64 a, .int .i64 b, .string S, .string T, .slice da dn dc] 27) = x := ⟨_, rfl⟩
  rw [hw1] at kx nx
  have KX := Lib.hid kx
  have NX := Lib.hid nx
  have c0 := cell_atB nx 0
  clear kx nx
  go_enter Tryd.func26, Tryd.ntmps26
  go_wp2_with fail
  refine (HNM.out _ KX.out).mono ?_
  rintro e w2 ⟨rfl, b2⟩
  rw [HNH.out.1]
  obtain ⟨xn, hxn⟩ : ∃ x, strB nm = .string x := ⟨_, rfl⟩
  rw [hxn]
  have HXN := Lib.hid hxn
  clear hxn c0
  have k3 := below_box w2 (.cells #[.string xn] 9)
  have HO3 : Hid (OwnsV w1.heap.size (w2.alloc (.cells #[.string xn] 9)) 9 (.slice (some ⟨w2.heap.size, 0, none⟩) 1 1) [.string xn]) := Lib.hid (OwnsV.new #[.string xn] b2.size (by show 1 ≤ maxLen; unfold maxLen; omega))
  obtain ⟨g3, hg3⟩ : ∃ x, w2.heap.size = x := ⟨_, rfl⟩
  obtain ⟨w3, hw3⟩ : ∃ x, w2.alloc (.cells #[.string xn] 9) = x := ⟨_, rfl⟩
  rw [hw3] at k3 HO3
  rw [hg3] at HO3
  have K3 := Lib.hid (below_next b2 k3)
  have c0 : w3.cell? ⟨w.heap.size, 0, none⟩ = some (.int .i64 op) := cell_atB ((K3.out.block w.heap.size (Array.getElem?_eq_some_iff.1 NX.out).1).trans NX.out) 0
  have HSH3 := Lib.hid (HSH.out w3 (below_next KX.out K3.out))
  clear b2 k3
  go_wp2_with fail
  refine HSH3.out.mono ?_
  rintro e w4 ⟨rfl, b4⟩
  rw [HNH.out.1, HNH.out.2, HXN.out]
  obtain ⟨xh, hxh⟩ : ∃ x, strB H = .string x := ⟨_, rfl⟩
  rw [hxh]
  have hxd : xh.data.toList = H := by unfold strB at hxh; injection hxh with hxh; rw [← hxh]
  have hxs : xh.size = H.length := by rw [Lib.size_eq, hxd]
  have hf := field_shp2 xn xh
  have hcv := conv_bytesB w4 xh
  have k5 := below_bytesB w4 5 xh
  have r5 := reads_bytesB w4 5 xh
  have n5 := Lib.bytesWorld_at_new w4 5 xh
  rw [hxd] at r5
  obtain ⟨gh, hgh⟩ : ∃ x, w4.heap.size = x := ⟨_, rfl⟩
  obtain ⟨gc, hgc⟩ : ∃ x, grownCap w4 xh.size 0 5 = x := ⟨_, rfl⟩
  obtain ⟨m, hm⟩ : ∃ x, xh.size = x := ⟨_, rfl⟩
  obtain ⟨w5, hw5⟩ : ∃ x, Lib.bytesWorld w4 5 xh = x := ⟨_, rfl⟩
  obtain ⟨hcs, hhcs⟩ : ∃ x, Lib.bytesCells w4 5 xh = x := ⟨_, rfl⟩
  rw [hw5, hhcs, hgh] at n5
  rw [hw5, hgh, hm] at r5
  rw [hw5, hgh, hgc, hm] at hcv
  rw [hw5] at k5
  rw [hm] at hxs
  have HM := Lib.hid hxs
  have R5 := Lib.hid r5
  have N5 := Lib.hid n5
  have HO5 := Lib.hid ((HO3.out.below b4).below k5)
  have K5 := Lib.hid (below_next (below_next K3.out b4) k5)
  have hm2 : (m : Int) ≤ 2 := by have := N1.out; omega
  have HXL : Hid (strsB [nm] = [.string xn]) := Lib.hid (by show [strB nm] = _; rw [HXN.out])
  clear hxh hxd hgh hgc hm hw5 hhcs hxs b4 k5 r5 n5 HO3 K3 HSH3 c0 HSH HNM
  go_wp2_with fail
  go_loopw [3, 16] (fun v i wr => ∃ k : Nat, i = .int .i64 (k : Int) ∧ k ≤ m ∧ Hid (OwnsV w1.heap.size wr 9 v (strsB (nm :: (H.take k).map fun l => wd l.toNat))) ∧ Hid (Below w1.heap.size w1 wr) ∧ Hid (wr.heap[gh]? = w5.heap[gh]?)) (fun _ i _ => m - (intOf i).toNat)
  case atStart => exact ⟨0, rfl, Nat.zero_le _, by show Hid (OwnsV w1.heap.size w5 9 _ (strsB [nm])); rw [HXL.out]; exact HO5, K5, Lib.hid rfl⟩
  case round =>
    obtain ⟨k, rfl, hk, HO, HB, HG⟩ := hrel
    by_cases hlt : k < m
    · have hlt2 : (k : Int) < (m : Int) := by omega
      obtain ⟨c, hc⟩ : ∃ c, H[k]? = some c := ⟨_, List.getElem?_eq_getElem (by rw [← HM.out]; exact hlt)⟩
      obtain ⟨b9, o9, e9, _, d9⟩ := reads_get R5.out hc
      have d1 : wr.cell? ⟨gh, k, none⟩ = some (.int .u8 (c.toNat : Int)) := by
        cases e9
        rw [Nat.zero_add] at d9
        exact (cell_same HG.out k).trans d9
      have nx : wr.heap[w.heap.size]? = some (.cells #[.int .i64 op, .int .i64 a, .int .i64 b, .string S, .string T, .slice da dn dc] 27 (0, 0)) := (HB.out.block w.heap.size (Array.getElem?_eq_some_iff.1 NX.out).1).trans NX.out
      have c0 := cell_atB nx 0
      have c1 := cell_atB nx 1
      have c2 := cell_atB nx 2
      have c3 := cell_atB nx 3
      have c4 := cell_atB nx 4
      have c5 := cell_atB nx 5
      have HWC := Lib.hid (HW.out wr (below_next KX.out HB.out) c.toNat (N2.out c (List.mem_of_getElem? hc)))
      have HC := Lib.hid hc
      clear hc d9 e9 nx
      go_wp2_with fail
      refine HWC.out.mono ?_
      rintro e w6 ⟨rfl, b6⟩
      obtain ⟨xw, hxw⟩ : ∃ x, strB (wd c.toNat) = .string x := ⟨_, rfl⟩
      rw [hxw]
      have HXW := Lib.hid hxw
      have k7 := below_box w6 (.cells #[.string xw] 9)
      have HO6 := Lib.hid ((HO.out.below b6).below k7)
      have HB6 := Lib.hid (below_next (below_next HB.out b6) k7)
      have HRV := Lib.hid (ReadsV.lit w6 #[.string xw] 9)
      have hl0 : gh < wr.heap.size := by
        have h1 := HG.out
        rw [N5.out] at h1
        exact (Array.getElem?_eq_some_iff.1 h1).1
      have HG6 : Hid ((w6.alloc (.cells #[.string xw] 9)).heap[gh]? = w5.heap[gh]? ∧ gh < (w6.alloc (.cells #[.string xw] 9)).heap.size) := Lib.hid ⟨((below_next b6 k7).block gh hl0).trans HG.out, Nat.lt_of_lt_of_le hl0 (below_next b6 k7).size⟩
      have HLN : Hid ((strsB (nm :: (H.take k).map fun l => wd l.toNat)).length ≤ 3) := Lib.hid (by unfold strsB; rw [List.length_map, List.length_cons, List.length_map, List.length_take]; have := N1.out; omega)
      clear hxw b6 k7 hl0 HB HO HG HWC c0 c1 c2 c3 c4 c5 d1
      go_wp2_with (at_builtin; refine wpList_append_vals rfl _ _ 91 rfl w1.heap.size 9 (.string ByteArray.empty) 16 Tryd.underlying91 info_strB rfl u3 (strsB (nm :: (H.take k).map fun l => wd l.toNat)) rfl HO6.out (some ⟨w6.heap.size, 0, none⟩) 1 1 rfl [.string xw] HRV.out (by intro u hu; rw [List.mem_singleton.1 hu]; rfl) (by have := HLN.out; omega) (by have := HLN.out; unfold maxLen; omega) HB6.out.size ?_; intro v9 w9 o9 g9)
      have HB9 := Lib.hid (HO6.out.grown HB6.out HB6.out.size g9)
      have HG9 : Hid (w9.heap[gh]? = w5.heap[gh]?) := Lib.hid ((g9.block gh HG6.out.2 (fun e => own_type HO6.out (HG6.out.1.trans N5.out) (by decide) e.symm)).trans HG6.out.1)
      have HO9 : Hid (OwnsV w1.heap.size w9 9 v9 (strsB (nm :: (H.take (k + 1)).map fun l => wd l.toNat))) := Lib.hid (by
        have e1 : strsB (nm :: (H.take (k + 1)).map fun l => wd l.toNat) = strsB (nm :: (H.take k).map fun l => wd l.toNat) ++ [.string xw] := by
          rw [List.take_add_one, HC.out, ← HXW.out]
          unfold strsB
          simp
        rw [e1]
        exact o9)
      clear o9 g9 HO6 HB6 HG6 HRV HLN
      go_wp2
      go_roundw
      case rel => exact ⟨k + 1, by go_num, by omega, HO9, HB9, HG9⟩
      case measure => simp [intOf]; omega
    · obtain rfl : k = m := by omega
      have hge : ¬ (k : Int) < (k : Int) := by omega
      generalize u3 = v3 at *
      have htk : H.take k = H := List.take_of_length_le (by rw [← HM.out]; exact Nat.le_refl _)
      rw [htk] at HO
      obtain ⟨xs, hxs⟩ : ∃ xs : List ByteArray, ((nm :: H.map fun l => wd l.toNat).map fun l => (⟨l.toArray⟩ : ByteArray)) = xs := ⟨_, rfl⟩
      have hxd : xs.map (·.data.toList) = nm :: H.map fun l => wd l.toNat := by rw [← hxs, List.map_map]; exact (List.map_congr_left (g := id) fun x _ => rfl).trans (List.map_id _)
      have hxv : strsB (nm :: H.map fun l => wd l.toNat) = xs.map Value.string := by rw [← hxs, List.map_map]; rfl
      have hxn : xs.length = (strsB (nm :: H.map fun l => wd l.toNat)).length := by rw [hxv, List.length_map]
      have hn3 : xs.length ≤ 3 := by rw [← hxs, List.length_map, List.length_cons, List.length_map]; have := N1.out; omega
      have hjl : (Lib.join (xs.map (·.data.toList)) [32]).length ≤ 140737488355328 := by
        rw [hxd]
        have h9 := join_length nm (H.map fun l => wd l.toNat) (by have := N3.out; omega) (fun y hy => by obtain ⟨l, _, rfl⟩ := List.mem_map.1 hy; exact HLEN.out l.toNat)
        rw [List.length_map] at h9
        have := N1.out
        omega
      rcases HO.out.head with ⟨_, hnil⟩ | ⟨g, cap, rfl, hg1, hg2, hg3, _, hcells⟩
      · exact absurd hnil (by unfold strsB; simp)
      · rw [← hxn] at hg3 HO ⊢
        rw [hxv] at hcells
        have HJ := Lib.hid (Tryd.strings_Join g 0 cap xs ⟨#[32]⟩ wr (fun j x hx => by rw [Nat.zero_add]; exact hcells j _ (by rw [List.getElem?_map, hx]; rfl)) hg2 (by omega) hg3 hjl)
        have e0 : (⟨#[32]⟩ : ByteArray).data.toList = [32] := rfl
        rw [e0, hxd] at HJ
        have HB0 := Lib.hid (below_next KX.out HB.out)
        clear hxd hxv hxn hjl hcells hg1 hg2 hg3 HO HB HG hxs htk
        go_wp2_with fail
        refine HJ.out.mono ?_
        rintro e w9 ⟨rfl, b9⟩
        go_wp2
        go_ret
        exact ⟨by rw [HT0.out]; rfl, below_next HB0.out b9⟩
end Go.Proofs.YtebgejoemlgggaaDoor
