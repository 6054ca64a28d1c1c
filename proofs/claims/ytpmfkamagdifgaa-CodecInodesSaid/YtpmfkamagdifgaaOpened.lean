/- The document's Opened: the numbers of a sealed sector, of these widths again and again. -/
import Derived.Test.YtpmfkamagdifgaaItems
import Derived.Test.YtpmfkamagdifgaaROpen
import Derived.Test.YtpmfkamagdifgaaOpenI
namespace Go.Proofs.Ytpmfkamagdifgaa
open Go.RowKit Go.Sort
set_option linter.unusedVariables false
set_option linter.unusedSimpArgs false
set_option maxRecDepth 100000

def numsV (l : List Int) : List Value := l.map fun z => .int .i64 z
theorem numsV_one (l : List Int) : OneCells (numsV l) := by
  intro u hu
  obtain ⟨x, _, rfl⟩ := List.mem_map.1 hu
  rfl
theorem numsV_append (l m : List Int) : numsV (l ++ m) = numsV l ++ numsV m := by unfold numsV; rw [List.map_append]
theorem numsV_length (l : List Int) : (numsV l).length = l.length := by unfold numsV; rw [List.length_map]
theorem numsV_get {l : List Int} {i : Nat} {x : Int} (h : l[i]? = some x) : (numsV l)[i]? = some (.int .i64 x) := by unfold numsV; rw [List.getElem?_map, h]; rfl
def zsOf (l : List FldD) : List Int := l.map (·.z)
theorem zsOf_append (l m : List FldD) : zsOf (l ++ m) = zsOf l ++ zsOf m := by unfold zsOf; rw [List.map_append]
theorem zsOf_length (l : List FldD) : (zsOf l).length = l.length := by unfold zsOf; rw [List.length_map]
theorem stO_at : ∀ (l : List FldD) (b : List Nat) (i : Nat) (x : FldD), l[i]? = some x → widths (l.take i) + x.width ≤ b.length → (stO (.rd b) l)[i]? = some ⟨x.kind, x.width, ((le ((b.drop (widths (l.take i))).take x.width) : Nat) : Int)⟩
  | [], b, i, x, h, _ => by simp at h
  | y :: l, b, 0, x, h, hl => by
    simp only [List.getElem?_cons_zero, Option.some.injEq] at h
    subst h
    have hl' : 0 + y.width ≤ b.length := hl
    rw [stO_rd_cons (by omega)]
    show some _ = some _
    have e : widths ((y :: l).take 0) = 0 := rfl
    rw [e, List.drop_zero]
  | y :: l, b, i + 1, x, h, hl => by
    have hl' : y.width + widths (l.take i) + x.width ≤ b.length := hl
    rw [stO_rd_cons (by omega), List.getElem?_cons_succ, stO_at l (b.drop y.width) i x (by simpa using h) (by simp; omega), List.drop_drop]
    rfl
theorem runS_whole (z : List FldD) (hw : ∀ x ∈ z, x.width ≤ 8) {b : List Nat} (hb : Bytes b) : ∀ m, m * widths z ≤ b.length → runS z [] (.rd b) m = .rd (b.drop (m * widths z))
  | 0, _ => by show PS.rd b = _; rw [Nat.zero_mul, List.drop_zero]
  | m + 1, h => by
    rw [Nat.succ_mul] at h
    show stS (runS z [] (.rd b) m) (itemAt z [] m) = _
    rw [runS_whole z hw hb m (by omega), itemAt_nil, (rd_whole z (b.drop (m * widths z)) (hb.drop _) hw (by simp; omega)).1, List.drop_drop, Nat.succ_mul]
/-- What the document reads: numbers, if there are just so many whole rounds of them. -/
def openedOk (k : Nat) (z : List FldD) (s : List Nat) : Bool := openB s && decide (kindL s = k) && decide ((bodyL s).length % widths z = 0)
def openedL (k : Nat) (z : List FldD) (s : List Nat) : List Int := if openedOk k z s = true then zsOf (itemsR z (bodyL s)).flatten else []
theorem stO_pos {z : List FldD} (hw : ∀ x ∈ z, x.width ≤ 4) {b : List Nat} (hb : Bytes b) : ∀ x ∈ stO (.rd b) z, 0 ≤ x.z ∧ x.z < 4294967296 := by
  intro x hx
  obtain ⟨m, hm, rfl⟩ := List.mem_iff_getElem.1 hx
  have hm' : m < z.length := by rw [stO_length] at hm; exact hm
  obtain ⟨v, h1, h2⟩ := stO_rd z b hb hw m z[m] (List.getElem?_eq_getElem hm')
  rw [List.getElem?_eq_getElem hm] at h1
  rw [Option.some.inj h1]
  exact h2
theorem info_i64 : (Try.prog.info? 2).map (fun i => (i.zero, i.size, i.bytes)) = some (some (.int .i64 0), 1, 8) := by kernel_rfl
theorem widths_take_snoc {z : List FldD} {i : Nat} {x : FldD} (h : z[i]? = some x) : widths (z.take (i + 1)) = widths (z.take i) + x.width := by
  rw [List.take_add_one, h, widths_append]
  rfl
def OpenedPost (w : World) (k : Nat) (z : List FldD) (s : List Nat) (e : Ending) (w' : World) : Prop := Below w.heap.size w w' ∧ ∃ v, e = .returned (.tuple #[v, .bool (openedOk k z s)]) ∧ OwnsV w.heap.size w' 2 v (numsV (openedL k z s))
set_option maxHeartbeats 4000000 in
theorem ropened_is (k : Nat) (hk : k < 256) (s : List Nat) (hs : s.length = 128) (hb : Bytes s) (z : List FldD) (hz : ∃ x l, z = x :: l ∧ 1 ≤ x.width) (hw1 : ∀ x ∈ z, 1 ≤ x.width) (hw4 : ∀ x ∈ z, x.width ≤ 4) (hzl : z.length ≤ 20) (aw : Option Addr) (cw : Nat) (w : World) (hr : ReadsI w aw z.length (z.map fun x => (x.width : Int))) :
    Calls Try.prog 88 #[.int .u8 k, .agg (cells s), .slice aw z.length cw] w (OpenedPost w k z s) := by
  have b1 := below_box w (.cells (cells s) 30)
  have n1 := heap_alloc_new w (.cells (cells s) 30)
  obtain ⟨w1, hw1'⟩ : ∃ w1, w.alloc (.cells (cells s) 30) = w1 := ⟨_, rfl⟩
  rw [hw1'] at b1 n1
  have HC := Lib.hid (block_cells hs n1)
  have HB1 := Lib.hid b1
  have hW : 1 ≤ widths z := by
    obtain ⟨x, l, rfl, hx⟩ := hz
    show 1 ≤ x.width + widths l
    omega
  have HZ := Lib.hid hz
  have HW1 := Lib.hid hw1
  have HW4 := Lib.hid hw4
  have HRW := Lib.hid hr
  obtain ⟨nz, hnz⟩ : ∃ n, z.length = n := ⟨_, rfl⟩
  have HNZ := Lib.hid hnz
  obtain ⟨W, hWe⟩ : ∃ W, widths z = W := ⟨_, rfl⟩
  have HWE := Lib.hid hWe
  rw [hnz] at hzl HRW ⊢
  rw [hWe] at hW
  clear b1 n1 hz hw1 hw4 hr hnz hWe
  go_enter Try.func88, Try.ntmps88
  go_wp2_with (refine wpList_load_full rfl (.tmp 4) rfl w.heap.size 0 s rfl hs HC.out ?_)
  refine (ropen_any s hs hb w1).mono ?_
  rintro e w3 ⟨b3, h3⟩
  have HB3 : Hid (Below w.heap.size w w3) := HB1.out.trans (b3.mono HB1.out.size)
  clear b3 HC HB1 hw1'
  rcases h3 with ⟨ho, a, cap, rfl, hrd, hc, hcm⟩ | ⟨ho, rfl⟩
  · have hbb := bodyL_byt hb
    obtain ⟨kd, hkd⟩ : ∃ kd, kindL s = kd := ⟨_, rfl⟩
    obtain ⟨b, hbe⟩ : ∃ b, bodyL s = b := ⟨_, rfl⟩
    have hOK : openedOk k z s = (decide (kd = k) && decide (b.length % W = 0)) := by unfold openedOk; rw [ho, hkd, hbe, HWE.out, Bool.true_and]
    have hOL : openedL k z s = if openedOk k z s = true then zsOf (itemsR z b).flatten else [] := by unfold openedL; rw [hbe]
    have HOK := Lib.hid hOK
    have HOL := Lib.hid hOL
    rw [hkd, hbe]
    rw [hbe] at hrd hc hbb
    have hbl : b.length ≤ 128 := by rw [← hbe]; unfold bodyL; exact bodyOf_length _ _ _
    unfold maxLen at hcm
    have HRD := Lib.hid hrd
    have HBB := Lib.hid hbb
    obtain ⟨len, hlen⟩ : ∃ len, b.length = len := ⟨_, rfl⟩
    have HLEN := Lib.hid hlen
    rw [hlen] at hbl hc HRD HOK ⊢
    clear hrd hbb hOK hOL hkd hbe hlen ho
    by_cases h1 : kd = k
    · subst h1
      have HOK2 : Hid (openedOk kd z s = decide (len % W = 0)) := by show _ = _; rw [HOK.out]; simp
      go_wp2_with fail
      go_loopw [11, 12] (fun v i wr => ∃ m p : Nat, p = m * W ∧ p ≤ len ∧ i = .int .i64 p ∧ Hid (OwnsV w3.heap.size wr 2 v (numsV (zsOf (runD z [] (.rd b) m).flatten))) ∧ Hid (Below w.heap.size w wr) ∧ Hid (Below w3.heap.size w3 wr)) (fun _ i _ => len - (intOf i).toNat)
      case atStart => exact ⟨0, 0, by simp, Nat.zero_le _, rfl, Lib.hid (OwnsV.nil _ _ _), HB3, Lib.hid (Below.refl _ _)⟩
      case round =>
        obtain ⟨m, p, hp, hpl, rfl, HO, HB, HB33⟩ := hrel
        have HP := Lib.hid hp
        clear hp
        by_cases hlt : p < len
        · have hltI : (p : Int) < (len : Int) := by omega
          go_wp2_with fail
          have hPW : widths (z.take 0) = 0 := by simp [widths]
          generalize wr = wa at *
          go_loopw [11, 12, 13] (fun v pa i wr => ∃ (j q : Nat), j ≤ nz ∧ Hid (q = p + widths (z.take j)) ∧ q ≤ len ∧ pa = .int .i64 q ∧ i = .int .i64 j ∧ Hid (OwnsV w3.heap.size wr 2 v (numsV (zsOf (runD z [] (.rd b) m).flatten ++ (zsOf (stO (.rd (b.drop p)) z)).take j))) ∧ Hid (Below w.heap.size w wr) ∧ Hid (Below w3.heap.size w3 wr)) (fun _ _ i _ => nz - (intOf i).toNat)
          case atStart => exact ⟨0, p, Nat.zero_le _, Lib.hid (by rw [hPW]; rfl), hpl, rfl, rfl, Lib.hid (by rw [List.take_zero, List.append_nil]; exact HO.out), HB, HB33⟩
          case round =>
            clear hPW
            obtain ⟨j, q, hj, HQ, hql, rfl, rfl, HO2, HB2, HB32⟩ := hrel
            by_cases hjn : j < nz
            · obtain ⟨x, hx⟩ : ∃ x, z[j]? = some x := ⟨_, List.getElem?_eq_getElem (by rw [HNZ.out]; exact hjn)⟩
              have hxm := List.mem_of_getElem? hx
              have hd1 := HW1.out x hxm
              have hd4 := HW4.out x hxm
              have HX := Lib.hid hx
              have HTK := Lib.hid (widths_take_snoc hx)
              obtain ⟨bw, offw, rfl, hbw, hcw⟩ : ∃ bw offw, aw = some ⟨bw, offw, none⟩ ∧ bw < w.heap.size ∧ w.cell? ⟨bw, offw + j, none⟩ = some (.int .i64 ((x.width : Nat) : Int)) := by
                obtain ⟨h1, h2 | ⟨bw, offw, e, hb, hc⟩⟩ := HRW.out
                · rw [h2] at h1; simp at h1; omega
                · refine ⟨bw, offw, e, hb, ?_⟩
                  rw [hc j hjn, List.getElem?_map, hx]
                  rfl
              have cw0 : wr.cell? ⟨bw, offw + j, none⟩ = some (.int .i64 ((x.width : Nat) : Int)) := (HB2.out.cell (p := ⟨bw, offw + j, none⟩) hbw).trans hcw
              obtain ⟨d, hd⟩ : ∃ d, x.width = d := ⟨_, rfl⟩
              have HD := Lib.hid hd
              rw [hd] at cw0 hd1 hd4 hcw
              have HCW := Lib.hid (And.intro hbw hcw)
              have hj0 : (0 : Int) ≤ (j : Int) := by omega
              have hjI : (j : Int) < (nz : Int) := by omega
              have hsum : IntKind.i64.wrap ((q : Int) + (d : Int)) = (q : Int) + (d : Int) := IntWalk.i64_in _ (by omega)
              clear hx hxm hcw hbw hd
              by_cases hfit : q + d ≤ len
              · have hgt : ¬ ((len : Int) < (q : Int) + (d : Int)) := by omega
                have hrdw := HRD.out.below HB32.out
                obtain ⟨bb, off, rfl⟩ := HRD.out.some_of (by omega)
                have hpart := hrdw.part q d hfit
                have hle := le_lt _ hpart.2.1
                rw [hpart.1] at hle
                obtain ⟨nn, hnn⟩ : ∃ nn, le ((b.drop q).take d) = nn := ⟨_, rfl⟩
                rw [hnn] at hle
                have hnn32 : nn < 4294967296 := Nat.lt_of_lt_of_le hle (Nat.le_trans (Nat.pow_le_pow_right (by omega) hd4) (by decide))
                have HNN := Lib.hid hnn
                have hnum := num_any (some ⟨bb, off + q, none⟩) d (cap - q) _ wr hpart (by omega)
                rw [hnn] at hnum
                have HNUM := Lib.hid hnum
                have hcq : ¬ cap = q := by omega
                have hcI : (q : Int) + (d : Int) ≤ (cap : Int) := by omega
                have hwn : IntKind.i64.wrap (nn : Int) = nn := IntWalk.i64_in _ (by omega)
                have hq0 : (0 : Int) ≤ (q : Int) := by omega
                clear hrdw hpart hle hnn hnum
                go_wp2_with fail
                refine HNUM.out.mono ?_
                rintro e w5 ⟨rfl, rfl⟩
                have HOA := Lib.hid (HO2.out.alloc (.cells #[.int .i64 (nn : Int)] 2))
                have HBA := Lib.hid (HB2.out.alloc HB2.out.size (.cells #[.int .i64 (nn : Int)] 2))
                have HBA3 := Lib.hid (HB32.out.alloc HB32.out.size (.cells #[.int .i64 (nn : Int)] 2))
                have HW3 : Hid (w3.heap.size ≤ wr.heap.size) := HB32.out.size
                have HLL : Hid ((numsV (zsOf (runD z [] (.rd b) m).flatten ++ (zsOf (stO (.rd (b.drop p)) z)).take j)).length ≤ 5000) := by
                  show _ ≤ _
                  rw [numsV_length, List.length_append, List.length_take, zsOf_length, zsOf_length, stO_length, HNZ.out]
                  have hf : (runD z [] (.rd b) m).flatten.length ≤ m * 20 := by
                    have : ∀ i, (runD z [] (.rd b) i).flatten.length = i * nz := by
                      intro i
                      induction i with
                      | zero => simp [runD]
                      | succ i ih =>
                        show (runD z [] (.rd b) i ++ [stO (runS z [] (.rd b) i) (itemAt z [] i)]).flatten.length = _
                        rw [flat_snoc, List.length_append, ih, itemAt_nil, stO_length, HNZ.out, Nat.succ_mul]
                    rw [this m]
                    exact Nat.mul_le_mul_left _ hzl
                  have hm : m ≤ 128 := by
                    have h1 := HP.out
                    have h2 : m * 1 ≤ m * W := Nat.mul_le_mul_left _ hW
                    omega
                  omega
                go_wp2_with (at_builtin; refine wpList_append_vals rfl _ _ _ rfl w3.heap.size 2 (.int .i64 0) 8 Try.underlying186 info_i64 rfl _ _ rfl HOA.out _ 1 1 rfl [.int .i64 (nn : Int)] (ReadsV.lit wr #[.int .i64 (nn : Int)] 2) (numsV_one [(nn : Int)]) (by have := HLL.out; omega) (by have := HLL.out; unfold maxLen; omega) HBA3.out.size ?_; intro v4 w4 o4 g4; have B43 := Lib.hid (HOA.out.grown HBA3.out HBA3.out.size g4); have B4 : Hid (Below w.heap.size w w4) := Lib.hid (below_next HB3.out B43.out); have O4 := Lib.hid o4; clear o4 g4; have cw4 : w4.cell? ⟨bw, offw + j, none⟩ = some (.int .i64 ((d : Nat) : Int)) := (B4.out.cell (p := ⟨bw, offw + j, none⟩) HCW.out.1).trans HCW.out.2)
                go_roundw
                case rel =>
                  refine ⟨j + 1, q + d, by omega, Lib.hid ?_, hfit, by go_num, by go_num, Lib.hid ?_, B4, B43⟩
                  · rw [HTK.out, HD.out, HQ.out]; omega
                  · have hget : (zsOf (stO (.rd (b.drop p)) z))[j]? = some (nn : Int) := by
                      unfold zsOf
                      have hq := HQ.out
                      rw [List.getElem?_map, stO_at z (b.drop p) j x HX.out (by rw [HD.out, List.length_drop, HLEN.out]; omega)]
                      rw [List.drop_drop, HD.out, ← hq, HNN.out]
                      rfl
                    rw [List.take_add_one, hget]
                    show OwnsV _ _ _ _ (numsV (_ ++ (_ ++ [(nn : Int)])))
                    rw [← List.append_assoc, numsV_append]
                    exact O4.out
                case measure => simp [intOf]; omega
              · have hgt : ((len : Int) < (q : Int) + (d : Int)) := by omega
                have HOK3 : Hid (openedOk kd z s = false) := by
                  show _ = _
                  rw [HOK2.out]
                  refine decide_eq_false fun hmod => ?_
                  obtain ⟨c, hc⟩ := Nat.dvd_of_mod_eq_zero hmod
                  have h1 := widths_take z j x HX.out
                  rw [HWE.out, HD.out] at h1
                  have h2 := HQ.out
                  have h3 := HP.out
                  have h4 : m < c := by
                    refine Nat.lt_of_mul_lt_mul_left (a := W) ?_
                    rw [← hc, Nat.mul_comm, ← h3]
                    exact hlt
                  have h5 : c < m + 1 := by
                    refine Nat.lt_of_mul_lt_mul_left (a := W) ?_
                    rw [← hc, Nat.mul_comm, Nat.succ_mul, ← h3]
                    omega
                  omega
                have HOL2 : Hid (openedL kd z s = []) := by show _ = _; rw [HOL.out, if_neg (by rw [HOK3.out]; decide)]
                go_wp2
                go_ret2
                exact ⟨HB2.out, _, by rw [HOK3.out]; rfl, by rw [HOL2.out]; exact OwnsV.nil _ _ _⟩
            · obtain rfl : j = nz := by omega
              have hq := HQ.out
              rw [List.take_of_length_le (by rw [HNZ.out]; exact Nat.le_refl _), HWE.out] at hq
              have HQ2 := Lib.hid hq
              have e : (runD z [] (.rd b) (m + 1)).flatten = (runD z [] (.rd b) m).flatten ++ stO (.rd (b.drop p)) z := by
                show (runD z [] (.rd b) m ++ [stO (runS z [] (.rd b) m) (itemAt z [] m)]).flatten = _
                have hp := HP.out
                rw [flat_snoc, itemAt_nil, runS_whole z (fun x hx => by have := HW4.out x hx; omega) HBB.out m (by rw [HWE.out, ← hp, HLEN.out]; exact hpl), HWE.out, ← hp]
              have h := HO2.out
              rw [List.take_of_length_le (by rw [zsOf_length, stO_length, HNZ.out]; exact Nat.le_refl _), ← zsOf_append, ← e] at h
              have HO3 := Lib.hid h
              clear h e
              clear hq
              go_wp2
              go_roundw
              case rel => exact ⟨m + 1, q, by rw [HQ2.out, HP.out, Nat.succ_mul], hql, rfl, HO3, HB2, HB32⟩
              case measure => have := HQ2.out; simp [intOf]; omega
        · obtain rfl : p = len := by omega
          have hmod : p % W = 0 := by rw [HP.out, Nat.mul_mod_left]
          have HOK3 : Hid (openedOk kd z s = true) := by show _ = _; rw [HOK2.out, decide_eq_true hmod]
          have hit := items_whole HZ.out (fun x hx => by have := HW4.out x hx; omega) HBB.out m (by rw [HWE.out, HLEN.out, HP.out])
          have HIT : Hid (openedL kd z s = zsOf (runD z [] (.rd b) m).flatten) := by
            show _ = _
            rw [HOL.out, if_pos HOK3.out]
            unfold itemsR
            rw [hit.1]
          have hO := HO.out
          obtain ⟨a4, c4, rfl, _, _, _⟩ := hO.reads
          obtain ⟨n4, hn4⟩ : ∃ n, (numsV (zsOf (runD z [] (.rd b) m).flatten)).length = n := ⟨_, rfl⟩
          rw [hn4] at HO ⊢
          clear hmod hit hO hn4
          go_wp2
          go_ret2
          exact ⟨HB.out, _, by rw [HOK3.out]; rfl, by rw [HIT.out]; exact HO.out.less HB3.out.size⟩
    · have HOK2 : Hid (openedOk k z s = false) := by show _ = _; rw [HOK.out, decide_eq_false h1, Bool.false_and]
      have hne : ((kd : Int) != (k : Int)) = true := by simp; omega
      have HOL2 : Hid (openedL k z s = []) := by show _ = _; rw [HOL.out, if_neg (by rw [HOK2.out]; decide)]
      clear h1
      go_wp2
      go_ret2
      exact ⟨HB3.out, _, by rw [HOK2.out]; rfl, by rw [HOL2.out]; exact OwnsV.nil _ _ _⟩
  · have HOK2 : Hid (openedOk k z s = false) := by show _ = _; unfold openedOk; rw [ho, Bool.false_and, Bool.false_and]
    have HOL2 : Hid (openedL k z s = []) := by show _ = _; unfold openedL; rw [if_neg (by rw [HOK2.out]; decide)]
    clear ho
    go_wp2
    go_ret2
    exact ⟨HB3.out, _, by rw [HOK2.out]; rfl, by rw [HOL2.out]; exact OwnsV.nil _ _ _⟩
end Go.Proofs.Ytpmfkamagdifgaa
