/- Words read back: numbers; a word taken into a call. -/
import Derived.Test.YtebgejoemlgggaaDoorIdx23
namespace Go.Proofs.YtebgejoemlgggaaDoor
open Go.RowKit Go.Sort
set_option linter.unusedVariables false
set_option linter.unusedSimpArgs false
set_option maxRecDepth 100000

theorem patoi_is (s : ByteArray) (w : World) (hv : VarsAt w) (hs : s.size ≤ 20000) : Calls Tryd.prog 67 #[.string s] w fun e w' => ∃ v ev, e = .returned (.tuple #[.int .i64 v, ev]) ∧ I64 v ∧ (∀ n, I64 n → s.data.toList = Lib.itoa n → v = n) ∧ Below w.heap.size w w' := by
  cases h : Lib.atoiAll s.data.toList with
  | ok v =>
    refine (Tryd.strconv_Atoi_ok s (by omega) v h w).mono ?_
    rintro e w' ⟨rfl, hw⟩
    refine ⟨v, _, rfl, Lib.atoiAll_bounds h, fun n hn e => ?_, ?_⟩
    · rw [e, atoi_itoa n hn] at h
      injection h with h
      exact h.symm
    · rcases hw with rfl | ⟨t, rfl⟩
      · exact Below.refl _ _
      · exact below_bytesB _ _ _
  | range =>
    obtain ⟨te, pe, hve⟩ := hv.rng
    refine (Tryd.strconv_Atoi_range s (by omega) h (.iface te pe) w (by have h0 := World.var?_cell gRng hve 0; simpa using h0) (.inr ⟨te, pe, rfl⟩)).mono ?_
    rintro e w' ⟨N, rfl, _, _, hb⟩
    refine ⟨_, _, rfl, Lib.atoiSat_bounds _, fun n hn e => ?_, hb⟩
    rw [e, atoi_itoa n hn] at h
    cases h
  | _ =>
    obtain ⟨te, pe, hve⟩ := hv.syn
    refine (Tryd.strconv_Atoi_syntax s (by omega) h (.iface te pe) w (by have h0 := World.var?_cell gSyn hve 0; simpa using h0) (.inr ⟨te, pe, rfl⟩)).mono ?_
    rintro e w' ⟨N, rfl, _, _, hb⟩
    refine ⟨0, _, rfl, by unfold I64; omega, fun n hn e => ?_, hb⟩
    rw [e, atoi_itoa n hn] at h
    cases h
def callC (op a b : Int) (S T : ByteArray) (da : Option Addr) (dn dc : Nat) : Array Value := #[.int .i64 op, .int .i64 a, .int .i64 b, .string S, .string T, .slice da dn dc]
/-- A call in a box of its own, with its bytes. -/
structure BoxC (w : World) (g : Nat) (op a b : Int) (S T : ByteArray) (da : Option Addr) (dn dc : Nat) (d : Bx) : Prop where
  box : w.heap[g]? = some (.cells (callC op a b S T da dn dc) 27 (0, 0))
  ha : I64 a
  hb : I64 b
  hS : S.size ≤ 20000
  hT : T.size ≤ 20000
  hd : Reads w da dn (nb d)
  hdc : dn ≤ dc
  hdl : d.length ≤ 20000
theorem BoxC.below {w w' : World} {g : Nat} {op a b : Int} {S T : ByteArray} {da : Option Addr} {dn dc : Nat} {d : Bx} (h : BoxC w g op a b S T da dn dc d) (k : Below w.heap.size w w') : BoxC w' g op a b S T da dn dc d :=
  ⟨(k.block g (Array.getElem?_eq_some_iff.1 h.box).1).trans h.box, h.ha, h.hb, h.hS, h.hT, h.hd.below k, h.hdc, h.hdl⟩
/-- Bytes don't lie in such a box. -/
theorem reads_set {w : World} {g : Nat} {op a b : Int} {S T : ByteArray} {da : Option Addr} {dn dc : Nat} (hb : w.heap[g]? = some (.cells (callC op a b S T da dn dc) 27 (0, 0))) {x : Option Addr} {n : Nat} {l : List Nat} (hr : Reads w x n l) (i : Nat) (v : Value) : Reads (w.setCell ⟨g, i, none⟩ v) x n l := by
  obtain ⟨h1, h2, h3 | ⟨b9, off, rfl, h4, h5⟩⟩ := hr
  · exact ⟨h1, h2, .inl h3⟩
  · by_cases hn : n = 0
    · refine ⟨h1, h2, .inl ?_⟩
      rw [hn] at h1
      exact List.length_eq_zero_iff.1 h1
    · have hne : b9 ≠ g := by
        rintro rfl
        have h6 := h5 0 (by omega)
        rw [cell_atB hb, Nat.add_zero] at h6
        unfold callC at h6
        have hlt : off < 6 := by
          have := (Array.getElem?_eq_some_iff.1 h6).1
          simpa using this
        have : off = 0 ∨ off = 1 ∨ off = 2 ∨ off = 3 ∨ off = 4 ∨ off = 5 := by omega
        rcases this with rfl | rfl | rfl | rfl | rfl | rfl <;> simp at h6
      have hgr := grown_setB w ⟨g, i, none⟩ v
      refine ⟨h1, h2, .inr ⟨b9, off, rfl, Nat.lt_of_lt_of_le h4 hgr.size, fun j hj => ?_⟩⟩
      exact (cell_same (hgr.block b9 h4 (fun e => hne (Option.some.inj e))) (off + j)).trans (h5 j hj)
theorem BoxC.setA {w : World} {g : Nat} {op a b : Int} {S T : ByteArray} {da : Option Addr} {dn dc : Nat} {d : Bx} (h : BoxC w g op a b S T da dn dc d) (v : Int) (hv : I64 v) : BoxC (w.setCell ⟨g, 1, none⟩ (.int .i64 v)) g op v b S T da dn dc d ∧ w.grownBy (w.setCell ⟨g, 1, none⟩ (.int .i64 v)) (some g) :=
  ⟨⟨set_cellB 1 _ h.box, hv, h.hb, h.hS, h.hT, reads_set h.box h.hd _ _, h.hdc, h.hdl⟩, grown_setB w ⟨g, 1, none⟩ _⟩
theorem BoxC.setB {w : World} {g : Nat} {op a b : Int} {S T : ByteArray} {da : Option Addr} {dn dc : Nat} {d : Bx} (h : BoxC w g op a b S T da dn dc d) (v : Int) (hv : I64 v) : BoxC (w.setCell ⟨g, 2, none⟩ (.int .i64 v)) g op a v S T da dn dc d ∧ w.grownBy (w.setCell ⟨g, 2, none⟩ (.int .i64 v)) (some g) :=
  ⟨⟨set_cellB 2 _ h.box, h.ha, hv, h.hS, h.hT, reads_set h.box h.hd _ _, h.hdc, h.hdl⟩, grown_setB w ⟨g, 2, none⟩ _⟩
theorem BoxC.setS {w : World} {g : Nat} {op a b : Int} {S T : ByteArray} {da : Option Addr} {dn dc : Nat} {d : Bx} (h : BoxC w g op a b S T da dn dc d) (v : ByteArray) (hv : v.size ≤ 20000) : BoxC (w.setCell ⟨g, 3, none⟩ (.string v)) g op a b v T da dn dc d ∧ w.grownBy (w.setCell ⟨g, 3, none⟩ (.string v)) (some g) :=
  ⟨⟨set_cellB 3 _ h.box, h.ha, h.hb, hv, h.hT, reads_set h.box h.hd _ _, h.hdc, h.hdl⟩, grown_setB w ⟨g, 3, none⟩ _⟩
theorem BoxC.setT {w : World} {g : Nat} {op a b : Int} {S T : ByteArray} {da : Option Addr} {dn dc : Nat} {d : Bx} (h : BoxC w g op a b S T da dn dc d) (v : ByteArray) (hv : v.size ≤ 20000) : BoxC (w.setCell ⟨g, 4, none⟩ (.string v)) g op a b S v da dn dc d ∧ w.grownBy (w.setCell ⟨g, 4, none⟩ (.string v)) (some g) :=
  ⟨⟨set_cellB 4 _ h.box, h.ha, h.hb, h.hS, hv, reads_set h.box h.hd _ _, h.hdc, h.hdl⟩, grown_setB w ⟨g, 4, none⟩ _⟩
theorem BoxC.setD {w : World} {g : Nat} {op a b : Int} {S T : ByteArray} {da : Option Addr} {dn dc : Nat} {d : Bx} (h : BoxC w g op a b S T da dn dc d) (x : Option Addr) (n c : Nat) (l : Bx) (hr : Reads w x n (nb l)) (hc : n ≤ c) (hl : l.length ≤ 20000) : BoxC (w.setCell ⟨g, 5, none⟩ (.slice x n c)) g op a b S T x n c l ∧ w.grownBy (w.setCell ⟨g, 5, none⟩ (.slice x n c)) (some g) :=
  ⟨⟨set_cellB 5 _ h.box, h.ha, h.hb, h.hS, h.hT, reads_set h.box hr _ _, hc, hl⟩, grown_setB w ⟨g, 5, none⟩ _⟩
/-- What becomes of a call with a word taken. -/
structure Took (l : Nat) (s : Bx) (a b : Int) (S T d : Bx) (a' b' : Int) (S' T' d' : Bx) : Prop where
  isA : l = 65 → b' = b ∧ S' = S ∧ T' = T ∧ d' = d ∧ ∀ n, I64 n → s = Lib.itoa n → a' = n
  isB : l = 66 → a' = a ∧ S' = S ∧ T' = T ∧ d' = d ∧ ∀ n, I64 n → s = Lib.itoa n → b' = n
  isS : l = 83 → a' = a ∧ b' = b ∧ T' = T ∧ d' = d ∧ S' = (unE s).getD []
  isT : l = 84 → a' = a ∧ b' = b ∧ S' = S ∧ d' = d ∧ T' = (unE s).getD []
  isD : l = 68 → a' = a ∧ b' = b ∧ S' = S ∧ T' = T ∧ d' = (unE s).getD []
def TakePost (w : World) (g : Nat) (l : Nat) (s : Bx) (op a b : Int) (S T : ByteArray) (d : Bx) (e : Ending) (w' : World) : Prop :=
  e = .returned (.tuple #[]) ∧ ∃ a' b' S' T' da' dn' dc' d', BoxC w' g op a' b' S' T' da' dn' dc' d' ∧ Took l s a b S.data.toList T.data.toList d a' b' S'.data.toList T'.data.toList d' ∧ w.grownBy w' (some g)
theorem unE_len {s : Bx} : ((unE s).getD []).length ≤ s.length := by
  cases h : unE s with
  | none => simp
  | some b =>
    have h1 := unE_iff.1 h
    show b.length ≤ s.length
    rw [← h1]
    unfold escL
    split
    · rename_i hb; rw [hb]; simp
    · exact (escF_length b).1
theorem grown_belowB {w w1 w' : World} {row : Option Nat} (b : Below w.heap.size w w1) (h : w1.grownBy w' row) : w.grownBy w' row :=
  ⟨h.os.trans b.os, h.tape.trans b.tape, h.output.trans b.output, Nat.le_trans b.size h.size, fun j hj hne => (h.block j (Nat.lt_of_lt_of_le hj b.size) hne).trans (b.block j hj)⟩
set_option maxHeartbeats 1600000 in
theorem take_is (g l : Nat) (hl : l ∈ [65, 66, 83, 84, 68]) (s : ByteArray) (hs : s.size ≤ 20000) (op a b : Int) (S T : ByteArray) (da : Option Addr) (dn dc : Nat) (d : Bx) (w : World) (hv : VarsAt w) (hB : BoxC w g op a b S T da dn dc d) :
    Calls Tryd.prog 53 #[.pointer (some ⟨g, 0, none⟩), .int .u8 (l : Int), .string s] w (TakePost w g l s.data.toList op a b S T d) := by
  have HU := Lib.hid (pune_is s s.data.toList rfl w (by rw [← Lib.size_eq]; exact hs))
  have HA := Lib.hid (fun (W : World) (hW : Below w.heap.size w W) => patoi_is s W (hv.below hW) hs)
  have HB := Lib.hid hB
  have HS := Lib.hid hs
  clear hv hB hs
  go_enter Tryd.func53, Tryd.ntmps53
  go_wp2_with fail
  refine HU.out.mono ?_
  rintro e w1 ⟨v1, rfl, o1, b1⟩
  obtain ⟨a1, c1, rfl, r1, hc1, _⟩ := o1.reads
  rw [nb_length] at r1 hc1 ⊢
  have hu := unE_len (s := s.data.toList)
  rw [← Lib.size_eq] at hu
  have HB1 := Lib.hid (HB.out.below b1)
  have K1 := Lib.hid b1
  obtain ⟨ok, hok⟩ : ∃ x, (unE s.data.toList).isSome = x := ⟨_, rfl⟩
  rw [hok]
  obtain ⟨U, hU⟩ : ∃ x, (unE s.data.toList).getD [] = x := ⟨_, rfl⟩
  rw [hU] at r1 hc1 hu ⊢
  obtain ⟨un, hun⟩ : ∃ x, U.length = x := ⟨_, rfl⟩
  rw [hun] at r1 hc1 hu ⊢
  have HUL := Lib.hid (And.intro hU hun)
  have R1 := Lib.hid r1
  have HC1 := Lib.hid hc1
  have HUN := Lib.hid hu
  have n0 := HB1.out.box
  unfold callC at n0
  have cA := cell_atB n0 1
  have cB := cell_atB n0 2
  have cS := cell_atB n0 3
  have cT := cell_atB n0 4
  have cD := cell_atB n0 5
  clear o1 b1 hU hun r1 hc1 hu hok n0
  simp only [List.mem_cons, List.not_mem_nil, or_false] at hl
  rcases hl with rfl | rfl | rfl | rfl | rfl
  · go_wp2_with fail
    refine (HA.out _ K1.out).mono ?_
    rintro e w2 ⟨v, ev, rfl, hvi, hvn, b2⟩
    have HB2 := Lib.hid (HB1.out.below b2)
    have n0 := HB2.out.box
    unfold callC at n0
    have cA := cell_atB n0 1
    have fz := Joins.unfrozen_of_block n0 1
    have HST := Lib.hid (HB2.out.setA v hvi)
    have HK := Lib.hid (below_next K1.out b2)
    have HTK : Hid (Took 65 s.data.toList a b S.data.toList T.data.toList d v b S.data.toList T.data.toList d) := Lib.hid ⟨fun _ => ⟨rfl, rfl, rfl, rfl, hvn⟩, fun h => absurd h (by decide), fun h => absurd h (by decide), fun h => absurd h (by decide), fun h => absurd h (by decide)⟩
    clear n0 b2 cB cS cT cD hvi hvn
    go_wp2
    (try simp only [Exit.inBlock, Exit.then])
    first | (refine bodyPost_end (results_none rfl _ _ _) rfl ?_) | (refine bodyPost_ret (results_none rfl _ _ _) rfl ?_)
    exact ⟨rfl, v, b, S, T, da, dn, dc, d, HST.out.1, HTK.out, grown_belowB HK.out HST.out.2⟩
  · go_wp2_with fail
    refine (HA.out _ K1.out).mono ?_
    rintro e w2 ⟨v, ev, rfl, hvi, hvn, b2⟩
    have HB2 := Lib.hid (HB1.out.below b2)
    have n0 := HB2.out.box
    unfold callC at n0
    have cB := cell_atB n0 2
    have fz := Joins.unfrozen_of_block n0 2
    have HST := Lib.hid (HB2.out.setB v hvi)
    have HK := Lib.hid (below_next K1.out b2)
    have HTK : Hid (Took 66 s.data.toList a b S.data.toList T.data.toList d a v S.data.toList T.data.toList d) := Lib.hid ⟨fun h => absurd h (by decide), fun _ => ⟨rfl, rfl, rfl, rfl, hvn⟩, fun h => absurd h (by decide), fun h => absurd h (by decide), fun h => absurd h (by decide)⟩
    clear n0 b2 cA cS cT cD hvi hvn
    go_wp2
    (try simp only [Exit.inBlock, Exit.then])
    first | (refine bodyPost_end (results_none rfl _ _ _) rfl ?_) | (refine bodyPost_ret (results_none rfl _ _ _) rfl ?_)
    exact ⟨rfl, a, v, S, T, da, dn, dc, d, HST.out.1, HTK.out, grown_belowB HK.out HST.out.2⟩
  · have hcv := run_strB c1 R1.out
    obtain ⟨x, hx⟩ : ∃ x, strB U = .string x := ⟨_, rfl⟩
    have hx2 : x.data.toList = (unE s.data.toList).getD [] := by unfold strB at hx; injection hx with hx; rw [← hx, HUL.out.1]
    have hxs : x.size ≤ 20000 := by rw [Lib.size_eq, hx2, HUL.out.1, HUL.out.2]; have := HUN.out; have := HS.out; omega
    rw [hx] at hcv
    have n0 := HB1.out.box
    unfold callC at n0
    have fz := Joins.unfrozen_of_block n0 3
    have HST := Lib.hid (HB1.out.setS x hxs)
    have HTK : Hid (Took 83 s.data.toList a b S.data.toList T.data.toList d a b x.data.toList T.data.toList d) := Lib.hid ⟨fun h => absurd h (by decide), fun h => absurd h (by decide), fun _ => ⟨rfl, rfl, rfl, rfl, hx2⟩, fun h => absurd h (by decide), fun h => absurd h (by decide)⟩
    clear n0 hx hx2 hxs
    go_wp2
    (try simp only [Exit.inBlock, Exit.then])
    first | (refine bodyPost_end (results_none rfl _ _ _) rfl ?_) | (refine bodyPost_ret (results_none rfl _ _ _) rfl ?_)
    exact ⟨rfl, a, b, x, T, da, dn, dc, d, HST.out.1, HTK.out, grown_belowB K1.out HST.out.2⟩
  · have hcv := run_strB c1 R1.out
    obtain ⟨x, hx⟩ : ∃ x, strB U = .string x := ⟨_, rfl⟩
    have hx2 : x.data.toList = (unE s.data.toList).getD [] := by unfold strB at hx; injection hx with hx; rw [← hx, HUL.out.1]
    have hxs : x.size ≤ 20000 := by rw [Lib.size_eq, hx2, HUL.out.1, HUL.out.2]; have := HUN.out; have := HS.out; omega
    rw [hx] at hcv
    have n0 := HB1.out.box
    unfold callC at n0
    have fz := Joins.unfrozen_of_block n0 4
    have HST := Lib.hid (HB1.out.setT x hxs)
    have HTK : Hid (Took 84 s.data.toList a b S.data.toList T.data.toList d a b S.data.toList x.data.toList d) := Lib.hid ⟨fun h => absurd h (by decide), fun h => absurd h (by decide), fun h => absurd h (by decide), fun _ => ⟨rfl, rfl, rfl, rfl, hx2⟩, fun h => absurd h (by decide)⟩
    clear n0 hx hx2 hxs
    go_wp2
    (try simp only [Exit.inBlock, Exit.then])
    first | (refine bodyPost_end (results_none rfl _ _ _) rfl ?_) | (refine bodyPost_ret (results_none rfl _ _ _) rfl ?_)
    exact ⟨rfl, a, b, S, x, da, dn, dc, d, HST.out.1, HTK.out, grown_belowB K1.out HST.out.2⟩
  · have n0 := HB1.out.box
    unfold callC at n0
    have fz := Joins.unfrozen_of_block n0 5
    have HST := Lib.hid (HB1.out.setD a1 un c1 U R1.out HC1.out (by rw [HUL.out.2]; have := HUN.out; have := HS.out; omega))
    have HTK : Hid (Took 68 s.data.toList a b S.data.toList T.data.toList d a b S.data.toList T.data.toList U) := Lib.hid ⟨fun h => absurd h (by decide), fun h => absurd h (by decide), fun h => absurd h (by decide), fun h => absurd h (by decide), fun _ => ⟨rfl, rfl, rfl, rfl, HUL.out.1.symm⟩⟩
    clear n0
    go_wp2
    (try simp only [Exit.inBlock, Exit.then])
    first | (refine bodyPost_end (results_none rfl _ _ _) rfl ?_) | (refine bodyPost_ret (results_none rfl _ _ _) rfl ?_)
    exact ⟨rfl, a, b, S, T, a1, un, c1, U, HST.out.1, HTK.out, grown_belowB K1.out HST.out.2⟩
end Go.Proofs.YtebgejoemlgggaaDoor
