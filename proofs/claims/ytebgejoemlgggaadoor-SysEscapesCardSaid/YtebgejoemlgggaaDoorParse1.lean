/- Calls read of texts: Parse. -/
import Derived.Test.YtebgejoemlgggaaDoorParse0
namespace Go.Proofs.YtebgejoemlgggaaDoor
open Go.RowKit Go.Sort
set_option linter.unusedVariables false
set_option linter.unusedSimpArgs false
set_option maxRecDepth 100000

def zeroC : Array Value := callC 0 0 0 ⟨#[]⟩ ⟨#[]⟩ none 0 0
def ParsePost (w : World) (s : Bx) (e : Ending) (w' : World) : Prop := Below w.heap.size w w' ∧
  ((∃ op a b S T da dn dc d, e = .returned (.tuple #[.agg (callC op a b S T da dn dc), .int .i64 0]) ∧ Said s op a b S.data.toList T.data.toList d ∧ PlainB (shapeN op).2 a b S.data.toList T.data.toList d ∧ S.size ≤ 20000 ∧ T.size ≤ 20000 ∧ Reads w' da dn (nb d) ∧ dn ≤ dc ∧ d.length ≤ 20000) ∨
   (e = .returned (.tuple #[.agg zeroC, .int .i64 21]) ∧ ∀ op a b S T d, ¬ Said s op a b S T d))
theorem field_shpC (x1 x2 : ByteArray) : (∀ W, (Instr.field 85 (.agg #[.string x1, .string x2]) 1).run Tryd.prog W = .ok (.string x2) W) := fun W => by kernel_rfl
theorem cellsOf_get {P : List ByteArray} {N i : Nat} {x : ByteArray} (h : P[i]? = some x) : (Lib.cellsOf P N)[i]? = some (.string x) := by
  unfold Lib.cellsOf
  have hi := (List.getElem?_eq_some_iff.1 h).1
  rw [List.getElem?_toArray, List.getElem?_append_left (by rw [List.length_map]; exact hi), List.getElem?_map, h]
  rfl
theorem words_tail (gw n N : Nat) (h1 : 1 ≤ n) (hN : n ≤ N) : ∃ a', (∀ W, (Instr.sliceAt 91 (.slice (some ⟨gw, 0, none⟩) n N) (some (.int .i64 1)) none none).run Tryd.prog W = .ok (.slice a' (n - 1) (N - 1)) W) ∧ (2 ≤ n → a' = some ⟨gw, 1, none⟩) := by
  have ht : Tryd.prog.underlying 91 = some (.slice (Tryd.prog.elem 91)) := by kernel_rfl
  have he : Tryd.prog.elem 91 = 9 := by kernel_rfl
  have hsz : ∀ W, (Go.sizeOf 9).run Tryd.prog W = .ok 1 W := fun W => by kernel_rfl
  refine ⟨if N = 1 then some ⟨gw, 0, none⟩ else (some (⟨gw, 0, none⟩ : Addr)).map (·.add (1 * 1)), fun W => ?_, fun h2 => ?_⟩
  · rw [run_sliceAt_slice _ _ _ _ _ _ ht, run_slice_l _ _ _ _ _ ht .i64 _ (by omega) (by omega), he, hsz]
    simp only [Result.andThen_ok, sliced]
    rfl
  · rw [if_neg (by omega)]
    rfl
theorem reads_kept {w w' : World} {g : Nat} {op a b : Int} {S T : ByteArray} {da : Option Addr} {dn dc : Nat} (hb : w.heap[g]? = some (.cells (callC op a b S T da dn dc) 27 (0, 0))) {x : Option Addr} {n : Nat} {l : List Nat} (hr : Reads w x n l) (hgr : w.grownBy w' (some g)) : Reads w' x n l := by
  obtain ⟨h1, h2, h3 | ⟨b9, off, rfl, h4, h5⟩⟩ := hr
  · exact ⟨h1, h2, .inl h3⟩
  · by_cases hn : n = 0
    · refine ⟨h1, h2, .inl ?_⟩
      rw [hn] at h1
      exact List.length_eq_zero_iff.1 h1
    · have hne : b9 ≠ g := by
        rintro rfl
        have h6 := h5 0 (by omega)
        rw [cell_atB hb, Nat.add_zero] at h6
        unfold callC at h6
        have hlt : off < 6 := by
          have := (Array.getElem?_eq_some_iff.1 h6).1
          simpa using this
        have : off = 0 ∨ off = 1 ∨ off = 2 ∨ off = 3 ∨ off = 4 ∨ off = 5 := by omega
        rcases this with rfl | rfl | rfl | rfl | rfl | rfl <;> simp at h6
      refine ⟨h1, h2, .inr ⟨b9, off, rfl, Nat.lt_of_lt_of_le h4 hgr.size, fun j hj => ?_⟩⟩
      exact (cell_same (hgr.block b9 h4 (fun e => hne (Option.some.inj e))) (off + j)).trans (h5 j hj)
theorem join_mem_le : ∀ (l : List Bx) (y : Bx), y ∈ l → y.length ≤ (Lib.join l [32]).length
  | [], y, h => by simp at h
  | [x], y, h => by rw [List.mem_singleton.1 h, join_one']; exact Nat.le_refl _
  | x :: z :: l, y, h => by
    rw [join_cons, List.length_append, List.length_cons]
    rcases List.mem_cons.1 h with rfl | h
    · omega
    · have := join_mem_le (z :: l) y h
      omega
theorem cells_set {w w' : World} {g gw : Nat} (hg : w.grownBy w' (some g)) (hne : gw ≠ g) (hlt : gw < w.heap.size) (i : Nat) : w'.cell? ⟨gw, i, none⟩ = w.cell? ⟨gw, i, none⟩ := cell_same (hg.block gw hlt (fun e => hne (Option.some.inj e))) i
set_option maxHeartbeats 800000 in
theorem parse_is (s : ByteArray) (w : World) (hv : VarsAt w) (hs : s.size ≤ 20000) : Calls Tryd.prog 24 #[.string s] w (ParsePost w s.data.toList) := by
  have HV := Lib.hid hv
  have HS := Lib.hid hs
  clear hv hs
  have k1 := below_box w (.cells #[.int .i64 0, .int .i64 0, .int .i64 0, .string ⟨#[]⟩, .string ⟨#[]⟩, .slice none 0 0] 27)
  have n1 := heap_alloc_new w (.cells #[.int .i64 0, .int .i64 0, .int .i64 0, .string ⟨#[]⟩, .string ⟨#[]⟩, .slice none 0 0] 27)
  obtain ⟨w1, hw1⟩ : ∃ x, w.alloc (.cells #[.int .i64 0, .int .i64 0, .int .i64 0, .string ⟨#[]⟩, .string ⟨#[]⟩, .slice none 0 0] 27) = x := ⟨_, rfl⟩
  rw [hw1] at k1 n1
  have K1 := Lib.hid k1
  have N1 := Lib.hid n1
  clear k1 n1
  go_enter Tryd.func24, Tryd.ntmps24
  go_wp2_with fail
  refine (splitN_is s w1 HS.out).mono ?_
  rintro e w2 ⟨P, N, hP, hPN, hN4, rfl, hw2⟩
  have n2 := heap_alloc_new w1 (.cells (Lib.cellsOf P N) 9)
  have k2 := below_box w1 (.cells (Lib.cellsOf P N) 9)
  rw [← hw2] at n2 k2
  obtain ⟨gw, hgw⟩ : ∃ x, w1.heap.size = x := ⟨_, rfl⟩
  rw [hgw] at n2 ⊢
  obtain ⟨n, hn⟩ : ∃ x, P.length = x := ⟨_, rfl⟩
  have HPL := Lib.hid hn
  rw [hn] at hPN ⊢
  have hpne : 0 < n := by
    rw [← hn]
    have h9 := wordsK_ne (min 4 (s.size + 1) - 1) s.data.toList
    rw [← hP] at h9
    exact List.length_pos_iff.2 (fun e => h9 (by rw [e]; rfl))
  obtain ⟨x0, hx0⟩ : ∃ x, P[0]? = some x := ⟨_, List.getElem?_eq_getElem (by omega)⟩
  have k3 := below_box w2 (.cells #[.slice (some ⟨gw, 0, none⟩) n N] 91)
  have n3 := heap_alloc_new w2 (.cells #[.slice (some ⟨gw, 0, none⟩) n N] 91)
  obtain ⟨w3, hw3⟩ : ∃ x, w2.alloc (.cells #[.slice (some ⟨gw, 0, none⟩) n N] 91) = x := ⟨_, rfl⟩
  rw [hw3] at k3 n3
  have hgl : gw < w2.heap.size := (Array.getElem?_eq_some_iff.1 n2).1
  have n23 : w3.heap[gw]? = some (.cells (Lib.cellsOf P N) 9 (0, 0)) := (k3.block gw hgl).trans n2
  have HWA : Hid (WordsAt w3 w2.heap.size gw n N x0) := Lib.hid ⟨n3, (cell_atB n23 0).trans (cellsOf_get hx0), Nat.lt_of_lt_of_le hgl k3.size⟩
  have HWC : Hid (∀ (i : Nat) (x : ByteArray), P[i]? = some x → w3.cell? ⟨gw, i, none⟩ = some (.string x)) := Lib.hid (fun i x h => (cell_atB n23 i).trans (cellsOf_get h))
  have K3 := Lib.hid (below_next (below_next K1.out k2) k3)
  have N31 : Hid (w3.heap[w.heap.size]? = some (.cells #[.int .i64 0, .int .i64 0, .int .i64 0, .string ⟨#[]⟩, .string ⟨#[]⟩, .slice none 0 0] 27 (0, 0))) := Lib.hid (((below_next k2 k3).block w.heap.size (Array.getElem?_eq_some_iff.1 N1.out).1).trans N1.out)
  have HP := Lib.hid hP
  have HN := Lib.hid (And.intro hpne (And.intro hPN hN4))
  have HX0 := Lib.hid hx0
  have HIX := Lib.hid (pidx_is x0 w2.heap.size gw n N w3 (HV.out.below K3.out) HWA.out hpne hPN hN4)
  clear hP hPN hN4 hw2 n2 k2 hgw hn hpne hx0 k3 n3 hgl n23 K1 N1
  go_wp2_with fail
  refine HIX.out.mono ?_
  rintro e w4 ⟨r, rfl, hr, b4⟩
  have hrI : I64 r := by
    rcases hr with ⟨i, p, rfl, hp, _⟩ | ⟨rfl, _⟩
    · have := (List.getElem?_eq_some_iff.1 hp).1
      rw [shapesL_len] at this
      unfold I64; omega
    · unfold I64; omega
  have K4 := Lib.hid (below_next K3.out b4)
  have HWA4 := Lib.hid (HWA.out.below b4)
  have HWC4 : Hid (∀ (i : Nat) (x : ByteArray), P[i]? = some x → w4.cell? ⟨gw, i, none⟩ = some (.string x)) := Lib.hid (fun i x h => (b4.cell (p := ⟨gw, i, none⟩) HWA.out.lt).trans (HWC.out i x h))
  have N41 : Hid (w4.heap[w.heap.size]? = some (.cells #[.int .i64 0, .int .i64 0, .int .i64 0, .string ⟨#[]⟩, .string ⟨#[]⟩, .slice none 0 0] 27 (0, 0))) := Lib.hid ((b4.block w.heap.size (Array.getElem?_eq_some_iff.1 N31.out).1).trans N31.out)
  have HSHP := Lib.hid (shapeOf_is r hrI w4 (HV.out.below K4.out))
  have HNAM := Lib.hid (fun (W : World) (hW : Below w4.heap.size w4 W) => name_is r hrI W ((HV.out.below K4.out).below hW))
  obtain ⟨nf, hf1, hf3⟩ := shapeN_facts r
  have HRI := Lib.hid (And.intro hr hrI)
  obtain ⟨nm, hnm⟩ : ∃ x, (shapeN r).1 = x := ⟨_, rfl⟩
  obtain ⟨H, hH⟩ : ∃ x, (shapeN r).2 = x := ⟨_, rfl⟩
  rw [hnm, hH] at HSHP
  rw [hnm] at HNAM
  rw [hH] at nf hf1
  have HNH := Lib.hid (And.intro hnm hH)
  have HH := Lib.hid (And.intro nf hf1)
  clear hr hrI b4 hf1 hf3 nf hnm hH HIX HWA HWC K3 N31
  go_wp2_with fail
  refine HSHP.out.mono ?_
  rintro e w5 ⟨rfl, b5⟩
  obtain ⟨xn, hxn⟩ : ∃ x, strB nm = .string x := ⟨_, rfl⟩
  obtain ⟨xh, hxh⟩ : ∃ x, strB H = .string x := ⟨_, rfl⟩
  rw [hxn, hxh]
  have hxd : xh.data.toList = H := by unfold strB at hxh; injection hxh with hxh; rw [← hxh]
  have hnd : xn.data.toList = nm := by unfold strB at hxn; injection hxn with hxn; rw [← hxn]
  have hf := field_shpC xn xh
  have HXD := Lib.hid (And.intro hxd hnd)
  have HNM5 := HNAM.out w5 b5
  rw [hxn] at HNM5
  have HNM := Lib.hid HNM5
  have B5 := Lib.hid b5
  clear hxn hxh hxd hnd b5 HNM5 HNAM
  go_wp2_with fail
  refine HNM.out.mono ?_
  rintro e w6 ⟨rfl, b6⟩
  have b46 := below_next B5.out b6
  have K6 := Lib.hid (below_next K4.out b46)
  have HWA6 := Lib.hid (HWA4.out.below b46)
  have HWC6 : Hid (∀ (i : Nat) (x : ByteArray), P[i]? = some x → w6.cell? ⟨gw, i, none⟩ = some (.string x)) := Lib.hid (fun i x h => (b46.cell (p := ⟨gw, i, none⟩) HWA4.out.lt).trans (HWC4.out i x h))
  have N61 : Hid (w6.heap[w.heap.size]? = some (.cells #[.int .i64 0, .int .i64 0, .int .i64 0, .string ⟨#[]⟩, .string ⟨#[]⟩, .slice none 0 0] 27 (0, 0))) := Lib.hid ((b46.block w.heap.size (Array.getElem?_eq_some_iff.1 N41.out).1).trans N41.out)
  have hhs : xh.size = H.length := by rw [Lib.size_eq, HXD.out.1]
  have hh2 : (xh.size : Int) ≤ 2 := by have := HH.out.1; omega
  have cb := cell_atB HWA6.out.box 0
  have HHS := Lib.hid hhs
  clear b46 b6 B5 HWA4 HWC4 N41 K4 HSHP HNM hhs
  have hSO : ∀ op a b S T d, Said s.data.toList op a b S T d → r = op ∧ P.map (·.data.toList) = (shapeN op).1 :: (shapeN op).2.map fun l => wordL l.toNat a b S T d := fun op a b S T d hsd => by
    have hk : min 4 (s.size + 1) - 1 = min 4 (s.data.toList.length + 1) - 1 := by rw [Lib.size_eq]
    have h1 := said_words hsd _ hk
    obtain ⟨P', hP'⟩ : ∃ P', P = x0 :: P' := by
      have h2 := HX0.out
      cases P with
      | nil => cases h2
      | cons y P' => simp at h2; exact ⟨P', by rw [h2]⟩
    have h3 : wordsK (min 4 (s.size + 1) - 1) s.data.toList = x0.data.toList :: P'.map (·.data.toList) := by rw [← HP.out, hP']; rfl
    exact ⟨said_op hsd hk h3 HRI.out.1, HP.out.trans h1⟩
  have HSO := Lib.hid hSO
  clear hSO
  have b0 := N61.out
  have cz0 := cell_atB b0 0
  have cz1 := cell_atB b0 1
  have cz2 := cell_atB b0 2
  have cz3 := cell_atB b0 3
  have cz4 := cell_atB b0 4
  have cz5 := cell_atB b0 5
  have fz0 := Joins.unfrozen_of_block b0 0
  have fz1 := Joins.unfrozen_of_block b0 1
  have fz2 := Joins.unfrozen_of_block b0 2
  have fz3 := Joins.unfrozen_of_block b0 3
  have fz4 := Joins.unfrozen_of_block b0 4
  have fz5 := Joins.unfrozen_of_block b0 5
  have HZ := Lib.hid (set_sixB (.int .i64 0) (.int .i64 0) (.int .i64 0) (.string ⟨#[]⟩) (.string ⟨#[]⟩) (.slice none 0 0) b0)
  clear b0
  by_cases hnil : nm = []
  · have hb : (xn.toList == []) = true := by rw [toList_is HXD.out.2, hnil]; rfl
    have HNS : Hid (∀ op a b S T d, ¬ Said s.data.toList op a b S T d) := Lib.hid (fun op a b S T d hsd => by
      obtain ⟨rfl, _⟩ := HSO.out op a b S T d hsd
      have h1 := hsd.one
      have h2 := hsd.top
      have h3 := HNH.out.1
      rw [hnil, shapeN_at (by omega) (by omega)] at h3
      exact (names_ok _ (by omega) (by omega)).1 h3)
    go_wp2
    (try simp only [Exit.inBlock, Exit.then])
    refine bodyPost_ret (results_call_tmp rfl _ _ w.heap.size (cs := [.int .i64 0, .int .i64 0, .int .i64 0, .string ⟨#[]⟩, .string ⟨#[]⟩, .slice none 0 0]) rfl rfl HZ.out.1) rfl ?_
    exact ⟨K6.out.grown HZ.out.2 K6.out.size (fun j hj => by obtain rfl := Option.some.inj hj; exact Nat.le_refl _), .inr ⟨rfl, HNS.out⟩⟩
  · have hb : (xn.toList == []) = false := by rw [toList_is HXD.out.2]; simpa using hnil
    by_cases hlen : n = 1 + xh.size
    · have hw9 : IntKind.i64.wrap (1 + (xh.size : Int)) = 1 + (xh.size : Int) := IntWalk.i64_in _ (by omega)
      have hne : ((n : Int) == 1 + (xh.size : Int)) = true := by simp; omega
      have hne2 : ((n : Int) != 1 + (xh.size : Int)) = false := by rw [bne, hne]; rfl
      have g1 : (1 : Int) ≤ (n : Int) := by omega
      have g2 : (n : Int) ≤ (N : Int) := by have := HN.out; omega
      have g3 : (N : Int) ≤ 4 := by have := HN.out; omega
      obtain ⟨a', hsl, hat⟩ := words_tail gw n N HN.out.1 HN.out.2.1
      have g0 : (1 : Int) ≤ (n : Int) := by omega
      have n7 := heap_alloc_new w6 (.cells #[.int .i64 r, .int .i64 0, .int .i64 0, .string ⟨#[]⟩, .string ⟨#[]⟩, .slice none 0 0] 27)
      have k7 := below_box w6 (.cells #[.int .i64 r, .int .i64 0, .int .i64 0, .string ⟨#[]⟩, .string ⟨#[]⟩, .slice none 0 0] 27)
      obtain ⟨w7, hw7⟩ : ∃ x, w6.alloc (.cells #[.int .i64 r, .int .i64 0, .int .i64 0, .string ⟨#[]⟩, .string ⟨#[]⟩, .slice none 0 0] 27) = x := ⟨_, rfl⟩
      rw [hw7] at n7 k7
      have cb := cell_atB (HWA6.out.below k7).box 0
      rw [← hw7] at cb
      have HW7 := Lib.hid hw7
      clear hw7
      have HLT7 : Hid (gw < w6.heap.size ∧ w.heap.size < w6.heap.size) := Lib.hid ⟨HWA6.out.lt, (Array.getElem?_eq_some_iff.1 N61.out).1⟩
      have HBX : Hid (BoxC w7 w6.heap.size r 0 0 ⟨#[]⟩ ⟨#[]⟩ none 0 0 []) := Lib.hid ⟨n7, by unfold I64; omega, by unfold I64; omega, by decide, by decide, ⟨rfl, by intro x hx; simp [nb] at hx, .inl rfl⟩, Nat.le_refl _, by simp⟩
      have K7 := Lib.hid (below_next K6.out k7)
      have HWC7 : Hid (∀ (i : Nat) (x : ByteArray), P[i]? = some x → w7.cell? ⟨gw, i, none⟩ = some (.string x)) := Lib.hid (fun i x h => (k7.cell (p := ⟨gw, i, none⟩) HWA6.out.lt).trans (HWC6.out i x h))
      have N71 : Hid (w7.heap[w.heap.size]? = some (.cells #[.int .i64 0, .int .i64 0, .int .i64 0, .string ⟨#[]⟩, .string ⟨#[]⟩, .slice none 0 0] 27 (0, 0))) := Lib.hid ((k7.block w.heap.size (Array.getElem?_eq_some_iff.1 N61.out).1).trans N61.out)
      have HSZ : Hid (w6.heap.size < w7.heap.size) := Lib.hid (Array.getElem?_eq_some_iff.1 n7).1
      obtain ⟨m, hm⟩ : ∃ m, xh.size = m := ⟨_, rfl⟩
      have hn1 : n - 1 = m := by omega
      rw [hn1] at hsl
      rw [hm] at hw9 hne hne2 hh2
      have HM := Lib.hid hm
      have HNM : Hid (n = 1 + m) := Lib.hid (by omega)
      have HAT := Lib.hid hat
      clear hlen hn1 n7 k7 hat HZ cz0 cz1 cz2 cz3 cz4 cz5 fz0 fz1 fz2 fz3 fz4 fz5
      go_wp2
      rw [HW7.out]
      go_loopw [35] (fun i wr => ∃ (k : Nat) (a b : Int) (S T : ByteArray) (da : Option Addr) (dn dc : Nat) (d : Bx), i = .int .i64 (k : Int) ∧ k ≤ m ∧ Hid (BoxC wr w6.heap.size r a b S T da dn dc d) ∧ Hid (TakenJ s.data.toList r (H.take k) a b S.data.toList T.data.toList d) ∧ Hid (Below w.heap.size w wr ∧ gw < wr.heap.size ∧ w.heap.size < wr.heap.size) ∧ Hid (∀ (i : Nat) (x : ByteArray), P[i]? = some x → wr.cell? ⟨gw, i, none⟩ = some (.string x)) ∧ Hid (wr.heap[w.heap.size]? = some (.cells #[.int .i64 0, .int .i64 0, .int .i64 0, .string ⟨#[]⟩, .string ⟨#[]⟩, .slice none 0 0] 27 (0, 0)))) (fun i _ => m - (intOf i).toNat)
      case atStart => exact ⟨0, 0, 0, ⟨#[]⟩, ⟨#[]⟩, none, 0, 0, [], rfl, Nat.zero_le _, HBX, Lib.hid (taken_none _ _), Lib.hid ⟨K7.out, Nat.lt_trans HLT7.out.1 HSZ.out, Nat.lt_trans HLT7.out.2 HSZ.out⟩, HWC7, N71⟩
      case round =>
        obtain ⟨k, a, b, S, T, da, dn, dc, d, rfl, hk, HB, HTJ, HK, HC, HR0⟩ := hrel
        clear HBX HWC7 N71 K7
        by_cases hlt : k < m
        · have hlt2 : (k : Int) < (m : Int) := by omega
          obtain ⟨c, hc⟩ : ∃ c, H[k]? = some c := ⟨_, List.getElem?_eq_getElem (by rw [← HHS.out, HM.out]; exact hlt)⟩
          obtain ⟨x, hx⟩ : ∃ x, P[1 + k]? = some x := ⟨_, List.getElem?_eq_getElem (by rw [HPL.out, HNM.out]; omega)⟩
          obtain rfl := HAT.out (by have := HNM.out; omega)
          have hxc : xh[k]'(by rw [HM.out]; exact hlt) = c := by
            have h1 := Lib.data_getElem? xh k (by rw [HM.out]; exact hlt)
            rw [HXD.out.1, hc] at h1
            exact (Option.some.inj h1).symm
          have q1 := run_idx xh k (by rw [HM.out]; exact hlt) c hxc (k : Int) rfl
          have d1 : wr.cell? ⟨gw, 1 + k, none⟩ = some (.string x) := HC.out _ _ hx
          have hxs : x.size ≤ 20000 := by
            have h1 : x.data.toList ∈ P.map (·.data.toList) := List.mem_map_of_mem (List.mem_of_getElem? hx)
            rw [HP.out] at h1
            have h2 := join_mem_le _ _ h1
            rw [wordsK_join, ← Lib.size_eq, ← Lib.size_eq] at h2
            have := HS.out
            omega
          have HTC := Lib.hid (take_is w6.heap.size c.toNat (HH.out.2 c (List.mem_of_getElem? hc)) x hxs r a b S T da dn dc d wr (HV.out.below HK.out.1) HB.out)
          have HXC := Lib.hid (And.intro hc hx)
          clear hc hx hxc hxs
          go_wp2_with fail
          refine HTC.out.mono ?_
          rintro e w9 ⟨rfl, a9, b9, S9, T9, da9, dn9, dc9, d9, hbx, htk, hgr⟩
          have HB9 := Lib.hid hbx
          have HT9 : Hid (TakenJ s.data.toList r (H.take (k + 1)) a9 b9 S9.data.toList T9.data.toList d9) := Lib.hid (by
            rw [List.take_add_one, HXC.out.1]
            refine taken_step HTJ.out c (HH.out.2 c (List.mem_of_getElem? HXC.out.1)) x.data.toList (fun a' b' S' T' d' hsd => ?_) htk
            obtain ⟨_, h1⟩ := HSO.out r a' b' S' T' d' hsd
            rw [HNH.out.2] at h1
            have h2 := congrArg (fun l => l[1 + k]?) h1
            simp only [List.getElem?_map, HXC.out.2] at h2
            rw [show 1 + k = k + 1 by omega, List.getElem?_cons_succ, List.getElem?_map, HXC.out.1] at h2
            exact Option.some.inj h2)
          have HK9 : Hid (Below w.heap.size w w9 ∧ gw < w9.heap.size ∧ w.heap.size < w9.heap.size) := Lib.hid ⟨HK.out.1.grown hgr HK.out.1.size (fun j hj => by obtain rfl := Option.some.inj hj; exact Nat.le_of_lt HLT7.out.2), Nat.lt_of_lt_of_le HK.out.2.1 hgr.size, Nat.lt_of_lt_of_le HK.out.2.2 hgr.size⟩
          have HC9 : Hid (∀ (i : Nat) (x : ByteArray), P[i]? = some x → w9.cell? ⟨gw, i, none⟩ = some (.string x)) := Lib.hid (fun i y hy => (cells_set hgr (Nat.ne_of_lt HLT7.out.1) HK.out.2.1 i).trans (HC.out i y hy))
          have HR9 : Hid (w9.heap[w.heap.size]? = some (.cells #[.int .i64 0, .int .i64 0, .int .i64 0, .string ⟨#[]⟩, .string ⟨#[]⟩, .slice none 0 0] 27 (0, 0))) := Lib.hid ((hgr.block w.heap.size HK.out.2.2 (fun e => (Nat.ne_of_lt HLT7.out.2) (Option.some.inj e))).trans HR0.out)
          clear hbx htk hgr HB HTJ HK HC HR0 HTC q1 d1
          go_wp2
          go_roundw
          case rel => exact ⟨k + 1, a9, b9, S9, T9, da9, dn9, dc9, d9, by go_num, by omega, HB9, HT9, HK9, HC9, HR9⟩
          case measure => simp [intOf]; omega
        · obtain rfl : k = m := by omega
          have hge : ¬ (k : Int) < (k : Int) := by omega
          have htk : H.take k = H := List.take_of_length_le (by rw [← HHS.out, HM.out]; exact Nat.le_refl _)
          rw [htk] at HTJ
          have n8 := HB.out.box
          unfold callC at n8
          have c0 := cell_atB n8 0
          have c1 := cell_atB n8 1
          have c2 := cell_atB n8 2
          have c3 := cell_atB n8 3
          have c4 := cell_atB n8 4
          have c5 := cell_atB n8 5
          have HTX := Lib.hid (text_is r a b S T da dn dc d wr (HV.out.below HK.out.1) HRI.out.2 HB.out.ha HB.out.hb HB.out.hS HB.out.hT HB.out.hd HB.out.hdc HB.out.hdl)
          obtain ⟨xt, hxt⟩ : ∃ x, strB (textL r a b S.data.toList T.data.toList d) = .string x := ⟨_, rfl⟩
          have hxd : xt.data.toList = textL r a b S.data.toList T.data.toList d := by unfold strB at hxt; injection hxt with hxt; rw [← hxt]
          have HXT := Lib.hid hxt
          clear n8 hxt htk
          by_cases ht : textL r a b S.data.toList T.data.toList d = s.data.toList
          · have hb9 : (xt.toList == s.toList) = true := by rw [toList_is hxd, toList_is (rfl : s.data.toList = _), ht]; simp
            have hb8 : (xt.toList != s.toList) = false := by rw [bne, hb9]; rfl
            have HSD : Hid (Said s.data.toList r a b S.data.toList T.data.toList d ∧ PlainB (shapeN r).2 a b S.data.toList T.data.toList d) := Lib.hid (by
              have hr29 : 1 ≤ r ∧ r ≤ 29 := by
                by_cases hr : 0 ≤ r ∧ r < 30
                · have : r ≠ 0 := by
                    rintro rfl
                    exact hnil (by rw [← HNH.out.1]; rfl)
                  omega
                · exact absurd (by rw [← HNH.out.1, shapeN_no hr]) hnil
              exact ⟨⟨hr29.1, hr29.2, HB.out.ha, HB.out.hb, ht⟩, by rw [HNH.out.2]; exact HTJ.out.pl⟩)
            clear ht hxd
            go_wp2_with fail
            refine HTX.out.mono ?_
            rintro e w9 ⟨rfl, b9⟩
            rw [HXT.out]
            have HBB := Lib.hid (HB.out.below b9)
            have n9 := HBB.out.box
            unfold callC at n9
            have e0 := cell_atB n9 0
            have e1 := cell_atB n9 1
            have e2 := cell_atB n9 2
            have e3 := cell_atB n9 3
            have e4 := cell_atB n9 4
            have e5 := cell_atB n9 5
            have b0 := (b9.block w.heap.size HK.out.2.2).trans HR0.out
            have cz0 := cell_atB b0 0
            have cz1 := cell_atB b0 1
            have cz2 := cell_atB b0 2
            have cz3 := cell_atB b0 3
            have cz4 := cell_atB b0 4
            have cz5 := cell_atB b0 5
            have fz0 := Joins.unfrozen_of_block b0 0
            have fz1 := Joins.unfrozen_of_block b0 1
            have fz2 := Joins.unfrozen_of_block b0 2
            have fz3 := Joins.unfrozen_of_block b0 3
            have fz4 := Joins.unfrozen_of_block b0 4
            have fz5 := Joins.unfrozen_of_block b0 5
            have HB0 := Lib.hid b0
            have K9 := Lib.hid (below_next HK.out.1 b9)
            have HZ := Lib.hid (set_sixB (.int .i64 r) (.int .i64 a) (.int .i64 b) (.string S) (.string T) (.slice da dn dc) b0)
            clear n9 b0 b9 HTX HB
            go_wp2
            (try simp only [Exit.inBlock, Exit.then])
            refine bodyPost_ret (results_call_tmp rfl _ _ w.heap.size (cs := [.int .i64 r, .int .i64 a, .int .i64 b, .string S, .string T, .slice da dn dc]) rfl rfl HZ.out.1) rfl ?_
            exact ⟨K9.out.grown HZ.out.2 K9.out.size (fun j hj => by obtain rfl := Option.some.inj hj; exact Nat.le_refl _), .inl ⟨r, a, b, S, T, da, dn, dc, d, rfl, HSD.out.1, HSD.out.2, HBB.out.hS, HBB.out.hT, reads_kept (op := 0) (a := 0) (b := 0) (S := ⟨#[]⟩) (T := ⟨#[]⟩) (da := none) (dn := 0) (dc := 0) HB0.out HBB.out.hd HZ.out.2, HBB.out.hdc, HBB.out.hdl⟩⟩
          · have hb9 : (xt.toList == s.toList) = false := by rw [toList_is hxd, toList_is (rfl : s.data.toList = _)]; simpa using ht
            have hb8 : (xt.toList != s.toList) = true := by rw [bne, hb9]; rfl
            have HNS : Hid (∀ op a b S T d, ¬ Said s.data.toList op a b S T d) := Lib.hid (fun op a1 b1 S1 T1 d1 hsd => by
              obtain ⟨rfl, _⟩ := HSO.out op a1 b1 S1 T1 d1 hsd
              exact ht (taken_all (by rw [HNH.out.2]; exact HTJ.out) hsd))
            clear ht hxd
            go_wp2_with fail
            refine HTX.out.mono ?_
            rintro e w9 ⟨rfl, b9⟩
            rw [HXT.out]
            have HBB := Lib.hid (HB.out.below b9)
            have n9 := HBB.out.box
            unfold callC at n9
            have e0 := cell_atB n9 0
            have e1 := cell_atB n9 1
            have e2 := cell_atB n9 2
            have e3 := cell_atB n9 3
            have e4 := cell_atB n9 4
            have e5 := cell_atB n9 5
            have b0 := (b9.block w.heap.size HK.out.2.2).trans HR0.out
            have cz0 := cell_atB b0 0
            have cz1 := cell_atB b0 1
            have cz2 := cell_atB b0 2
            have cz3 := cell_atB b0 3
            have cz4 := cell_atB b0 4
            have cz5 := cell_atB b0 5
            have fz0 := Joins.unfrozen_of_block b0 0
            have fz1 := Joins.unfrozen_of_block b0 1
            have fz2 := Joins.unfrozen_of_block b0 2
            have fz3 := Joins.unfrozen_of_block b0 3
            have fz4 := Joins.unfrozen_of_block b0 4
            have fz5 := Joins.unfrozen_of_block b0 5
            have HB0 := Lib.hid b0
            have K9 := Lib.hid (below_next HK.out.1 b9)
            have HZ := Lib.hid (set_sixB (.int .i64 0) (.int .i64 0) (.int .i64 0) (.string ⟨#[]⟩) (.string ⟨#[]⟩) (.slice none 0 0) b0)
            clear n9 b0 b9 HTX HB
            go_wp2
            (try simp only [Exit.inBlock, Exit.then])
            refine bodyPost_ret (results_call_tmp rfl _ _ w.heap.size (cs := [.int .i64 0, .int .i64 0, .int .i64 0, .string ⟨#[]⟩, .string ⟨#[]⟩, .slice none 0 0]) rfl rfl HZ.out.1) rfl ?_
            exact ⟨K9.out.grown HZ.out.2 K9.out.size (fun j hj => by obtain rfl := Option.some.inj hj; exact Nat.le_refl _), .inr ⟨rfl, HNS.out⟩⟩
    · have HNS : Hid (∀ op a b S T d, ¬ Said s.data.toList op a b S T d) := Lib.hid (fun op a b S T d hsd => by
        obtain ⟨rfl, h1⟩ := HSO.out op a b S T d hsd
        have h2 := congrArg List.length h1
        rw [List.length_map, List.length_cons, List.length_map, HNH.out.2, HPL.out, ← HHS.out] at h2
        omega)
      have hw9 : IntKind.i64.wrap (1 + (xh.size : Int)) = 1 + (xh.size : Int) := IntWalk.i64_in _ (by omega)
      have hne : ((n : Int) == 1 + (xh.size : Int)) = false := by simp; omega
      have hne2 : ((n : Int) != 1 + (xh.size : Int)) = true := by rw [bne, hne]; rfl
      clear hlen
      go_wp2
      (try simp only [Exit.inBlock, Exit.then])
      refine bodyPost_ret (results_call_tmp rfl _ _ w.heap.size (cs := [.int .i64 0, .int .i64 0, .int .i64 0, .string ⟨#[]⟩, .string ⟨#[]⟩, .slice none 0 0]) rfl rfl HZ.out.1) rfl ?_
      exact ⟨K6.out.grown HZ.out.2 K6.out.size (fun j hj => by obtain rfl := Option.some.inj hj; exact Nat.le_refl _), .inr ⟨rfl, HNS.out⟩⟩
end Go.Proofs.YtebgejoemlgggaaDoor
