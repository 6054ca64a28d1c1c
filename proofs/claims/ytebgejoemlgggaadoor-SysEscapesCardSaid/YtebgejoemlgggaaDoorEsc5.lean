/- The program's Unescape. -/
import Derived.Test.YtebgejoemlgggaaDoorEsc4
import Derived.BigQuiet
namespace Go.Proofs.YtebgejoemlgggaaDoor
open Go.RowKit Go.Sort
set_option linter.unusedVariables false
set_option linter.unusedSimpArgs false
set_option maxRecDepth 100000

theorem run_idx (s : ByteArray) (i : Nat) (h : i < s.size) (c : UInt8) (hc : s[i]'h = c) (z : Int) (hz : z = (i : Int)) (W : World) : (Instr.index 9 (.string s) (.int .i64 z)).run Tryd.prog W = .ok (.int .u8 (c.toNat : Int)) W := by
  subst hz
  have h1 : (i : Int) < (s.size : Int) := by omega
  go_simp
theorem shl_4 : ∀ a : Nat, a < 256 → IntKind.u8.wrap ((a : Int) * 16) = (((a * 16) % 256 : Nat) : Int) := by decide
def vals17 : List Nat := [0, 1, 2, 3, 4, 5, 6, 7, 8, 9, 10, 11, 12, 13, 14, 15, 255]
theorem val_in : ∀ n, n < 256 → valN n ∈ vals17 := by decide
theorem or_17 : ∀ a ∈ vals17, ∀ b ∈ vals17, bits .or .u8 ((a : Int) * 16 % 256) (b : Int) = (((a * 16) % 256 ||| b : Nat) : Int) ∧ ((a * 16) % 256 ||| b) < 256 := by decide
theorem hexN_is (d e : UInt8) : bits .or .u8 ((valN d.toNat : Int) * 16 % 256) (valN e.toNat : Int) = ((UInt8.ofNat (hexN d.toNat e.toNat)).toNat : Int) := by
  obtain ⟨h1, h2⟩ := or_17 _ (val_in _ d.toNat_lt) _ (val_in _ e.toNat_lt)
  rw [h1, UInt8.toNat_ofNat', Nat.mod_eq_of_lt (show hexN d.toNat e.toNat < 256 from h2)]
  rfl
theorem valN_lt (n : Nat) : valN n < 256 := by unfold valN; (repeat' split) <;> omega
theorem drop_cons {l : Bx} {k : Nat} {c : UInt8} (h : l[k]? = some c) : l.drop k = c :: l.drop (k + 1) := by
  obtain ⟨h1, h2⟩ := List.getElem?_eq_some_iff.1 h
  rw [List.drop_eq_getElem_cons h1, h2]
theorem nb_snoc (a : Bx) (c : UInt8) : nb (a ++ [c]) = nb a ++ [c.toNat] := by rw [nb_append]; rfl
set_option maxHeartbeats 1600000 in
theorem pune_is (s : ByteArray) (l : Bx) (hl : s.data.toList = l) (w : World) (hs : l.length ≤ 20000) :
    Calls Tryd.prog 28 #[.string s] w fun e w' => ∃ v, e = .returned (.tuple #[v, .bool (unE l).isSome]) ∧ Owns w.heap.size w' v (nb ((unE l).getD [])) ∧ Below w.heap.size w w' := by
  have hsz : s.size = l.length := by rw [Lib.size_eq, hl]
  have HSZ := Lib.hid hsz
  have hget : ∀ i (h : i < s.size), l[i]? = some (s[i]'h) := fun i h => by rw [← hl]; exact Lib.data_getElem? s i h
  have HG := Lib.hid hget
  have hs2 : (s.size : Int) ≤ 20000 := by omega
  have HL := Lib.hid hl
  clear hl hsz hget hs
  go_enter Tryd.func28, Tryd.ntmps28
  go_wp2
  go_loopw [4, 5] (fun v i wr => ∃ (k : Nat) (out : Bx), i = .int .i64 (k : Int) ∧ k ≤ s.size ∧ Hid (Owns w.heap.size wr v (nb out)) ∧ Hid (Below w.heap.size w wr) ∧ Hid (out.length ≤ k ∧ out ++ unP (l.drop k) = unP l)) (fun _ i _ => s.size - (intOf i).toNat)
  case atStart => exact ⟨0, [], rfl, Nat.zero_le _, Lib.hid (owns_nil _ _), Lib.hid (Below.refl _ _), Lib.hid ⟨Nat.le_refl _, rfl⟩⟩
  case round =>
    obtain ⟨k, out, rfl, hk, HO, HB, HU⟩ := hrel
    by_cases hlt : k < s.size
    · obtain ⟨c, hc⟩ : ∃ c : UInt8, s[k]'hlt = c := ⟨_, rfl⟩
      have hgc := HG.out k hlt
      rw [hc] at hgc
      have HGC := Lib.hid hgc
      have hcl := c.toNat_lt
      have hlo : (nb out).length ≤ 20000 := by rw [nb_length]; have := HU.out.1; omega
      have HLE := Lib.hid hlo
      clear hgc hlo
      by_cases h37 : c = 37
      · by_cases h2 : k + 2 < s.size
        · obtain ⟨d, hd⟩ : ∃ c : UInt8, s[k + 1]'(by omega) = c := ⟨_, rfl⟩
          obtain ⟨e, he⟩ : ∃ c : UInt8, s[k + 2]'h2 = c := ⟨_, rfl⟩
          have HV1 := Lib.hid (fun W => pvalue_is d.toNat d.toNat_lt W)
          have HV2 := Lib.hid (fun W => pvalue_is e.toNat e.toNat_lt W)
          have h22 : (k : Int) + 2 < (s.size : Int) := by omega
          subst h37
          have hk1 : IntKind.i64.wrap ((k : Int) + 1) = (k : Int) + 1 := IntWalk.i64_in _ (by omega)
          have hk2 : IntKind.i64.wrap ((k : Int) + 2) = (k : Int) + 2 := IntWalk.i64_in _ (by omega)
          have q1 := run_idx s (k + 1) (by omega) d hd ((k : Int) + 1) (by omega)
          have q2 := run_idx s (k + 2) h2 e he ((k : Int) + 2) (by omega)
          go_wp2
          go_quiet ((first | (go_at_call 59; exact Calls.quiet_of_same (HV1.out _)) | (go_at_call 59; exact Calls.quiet_of_same (HV2.out _)) | fail))
          have hq := hexN_is d e
          obtain ⟨x, hx⟩ : ∃ x, UInt8.ofNat (hexN d.toNat e.toNat) = x := ⟨_, rfl⟩
          rw [hx] at hq
          have HST : Hid ((out ++ [x]).length ≤ k + 3 ∧ (out ++ [x]) ++ unP (l.drop (k + 3)) = unP l) := Lib.hid (by
            rw [List.length_append, List.length_singleton]
            refine ⟨by have := HU.out.1; omega, ?_⟩
            have g1 := HG.out (k + 1) (by omega)
            have g2 := HG.out (k + 2) h2
            rw [hd] at g1
            rw [he] at g2
            rw [← HU.out.2, drop_cons HGC.out, drop_cons g1, drop_cons g2, unP_hex, hx, List.append_assoc]
            rfl)
          have HOq := Lib.hid (HO.out.below (below_drewN wr nq))
          have HBq := Lib.hid (below_next HB.out (below_drewN wr nq))
          generalize wr.drewN nq = wk at *
          clear HO HB q1 q2 hk1 hk2 HV1 HV2 hd he hx hc
          have HO := HOq
          have HB := HBq
          clear HOq HBq
          rw [hq]
          have kx := below_box wk (.cells #[.int .u8 (x.toNat : Int)] 5)
          have HRD := Lib.hid (reads_one wk x.toNat x.toNat_lt)
          have HO2 := Lib.hid (HO.out.below kx)
          have HB2 := Lib.hid (below_next HB.out kx)
          clear kx HB HO
          go_wp2_with (at_builtin; refine wpList_append_bytes rfl _ _ rfl w.heap.size _ (nb out) rfl HO2.out (some ⟨wk.heap.size, 0, none⟩) 1 1 rfl [x.toNat] HRD.out (by have := HLE.out; omega) HB2.out.size ?_; intro v9 w9 o9 g9)
          have HB9 := Lib.hid (HB2.out.grown g9 HB2.out.size (fun j hj => HO2.out.lt j hj))
          have HO9 := Lib.hid o9
          clear o9 g9 HO2 HB2
          go_wp2
          go_roundw
          case rel => exact ⟨k + 3, out ++ [x], by go_num, by omega, by rw [nb_snoc]; exact HO9, HB9, HST⟩
          case measure => simp [intOf]; omega
        · have h22 : ¬ (k : Int) + 2 < (s.size : Int) := by omega
          have HST : Hid ((out ++ [c]).length ≤ k + 1 ∧ (out ++ [c]) ++ unP (l.drop (k + 1)) = unP l) := Lib.hid (by
            rw [List.length_append, List.length_singleton]
            refine ⟨by have := HU.out.1; omega, ?_⟩
            rw [← HU.out.2, drop_cons HGC.out, unP_short (by rw [List.length_drop]; have := HSZ.out; omega), List.append_assoc]
            rfl)
          have h37b : ((c.toNat : Int) == 37) = true := by rw [h37]; rfl
          clear h37
          have kx := below_box wr (.cells #[.int .u8 (c.toNat : Int)] 5)
          have HRD := Lib.hid (reads_one wr c.toNat c.toNat_lt)
          have HO2 := Lib.hid (HO.out.below kx)
          have HB2 := Lib.hid (below_next HB.out kx)
          clear kx HB HO
          go_wp2_with (at_builtin; refine wpList_append_bytes rfl _ _ rfl w.heap.size _ (nb out) rfl HO2.out (some ⟨wr.heap.size, 0, none⟩) 1 1 rfl [c.toNat] HRD.out (by have := HLE.out; omega) HB2.out.size ?_; intro v9 w9 o9 g9)
          have HB9 := Lib.hid (HB2.out.grown g9 HB2.out.size (fun j hj => HO2.out.lt j hj))
          have HO9 := Lib.hid o9
          clear o9 g9 HO2 HB2
          go_wp2
          go_roundw
          case rel => exact ⟨k + 1, out ++ [c], by go_num, by omega, by rw [nb_snoc]; exact HO9, HB9, HST⟩
          case measure => simp [intOf]; omega
      · have h37b : ((c.toNat : Int) == 37) = false := by
          have : c.toNat ≠ 37 := fun e => h37 (UInt8.toNat_inj.1 e)
          simp; omega
        have HST : Hid ((out ++ [c]).length ≤ k + 1 ∧ (out ++ [c]) ++ unP (l.drop (k + 1)) = unP l) := Lib.hid (by
          rw [List.length_append, List.length_singleton]
          refine ⟨by have := HU.out.1; omega, ?_⟩
          rw [← HU.out.2, drop_cons HGC.out, unP_self h37, List.append_assoc]
          rfl)
        clear h37
        have kx := below_box wr (.cells #[.int .u8 (c.toNat : Int)] 5)
        have HRD := Lib.hid (reads_one wr c.toNat hcl)
        have HO2 := Lib.hid (HO.out.below kx)
        have HB2 := Lib.hid (below_next HB.out kx)
        clear kx HB HO
        go_wp2_with (at_builtin; refine wpList_append_bytes rfl _ _ rfl w.heap.size _ (nb out) rfl HO2.out (some ⟨wr.heap.size, 0, none⟩) 1 1 rfl [c.toNat] HRD.out (by have := HLE.out; omega) HB2.out.size ?_; intro v9 w9 o9 g9)
        have HB9 := Lib.hid (HB2.out.grown g9 HB2.out.size (fun j hj => HO2.out.lt j hj))
        have HO9 := Lib.hid o9
        clear o9 g9 HO2 HB2
        go_wp2
        go_roundw
        case rel => exact ⟨k + 1, out ++ [c], by go_num, by omega, by rw [nb_snoc]; exact HO9, HB9, HST⟩
        case measure => simp [intOf]; omega
    · obtain rfl : k = s.size := by omega
      have hun : out = unP l := by
        have h := HU.out.2
        rw [List.drop_of_length_le (by rw [← HSZ.out]; exact Nat.le_refl _)] at h
        simpa [unP] using h
      have hul : (unP l).length ≤ 20000 := by rw [← hun]; have := HU.out.1; omega
      rw [hun] at HO
      clear hun HU
      generalize u4 = v4 at *
      have hs3 : s = ⟨l.toArray⟩ := by rw [← HL.out]
      by_cases hp : l = [37]
      · have HE : Hid (unE l = some []) := Lib.hid (by unfold unE; rw [if_pos hp])
        have hb : (l == [37]) = true := by rw [hp]; rfl
        clear hp
        go_wp2
        go_ret2
        exact ⟨_, by rw [HE.out]; rfl, by rw [HE.out]; exact owns_nil _ _, HB.out⟩
      · have hb : (l == [37]) = false := by simpa using hp
        obtain ⟨a4, c4, rfl, hr4, hc4, _⟩ := HO.out.reads
        rw [nb_length] at hr4 hc4 HO ⊢
        have HC := Lib.hid (pesc_is a4 (unP l).length c4 (unP l) wr hr4 hc4 hul)
        obtain ⟨E, hE⟩ : ∃ x, escL (unP l) = x := ⟨_, rfl⟩
        rw [hE] at HC
        by_cases he : E = l
        · have HE : Hid (unE l = some (unP l)) := Lib.hid (by unfold unE; rw [if_neg hp, if_pos (hE.trans he)])
          subst he
          clear hp hE hr4 hc4
          go_wp2_with fail
          refine HC.out.mono ?_
          rintro e w1 ⟨rfl, b1⟩
          have HO1 := Lib.hid (HO.out.below b1)
          have HB1 := Lib.hid (below_next HB.out b1)
          clear b1 HO HB
          unfold strB
          go_wp2
          go_ret2
          exact ⟨_, by rw [HE.out]; rfl, by rw [HE.out]; exact HO1.out, HB1.out⟩
        · have HE : Hid (unE l = none) := Lib.hid (by unfold unE; rw [if_neg hp, if_neg (fun e => he (hE.symm.trans e))])
          have he2 : (E == l) = false := by simpa using he
          clear hp hE hr4 hc4 he
          go_wp2_with fail
          refine HC.out.mono ?_
          rintro e w1 ⟨rfl, b1⟩
          have HB1 := Lib.hid (below_next HB.out b1)
          clear b1 HO HB
          unfold strB
          go_wp2
          go_ret2
          exact ⟨_, by rw [HE.out]; rfl, by rw [HE.out]; exact owns_nil _ _, HB1.out⟩
end Go.Proofs.YtebgejoemlgggaaDoor
