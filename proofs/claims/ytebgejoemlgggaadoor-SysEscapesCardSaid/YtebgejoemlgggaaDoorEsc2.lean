/- Bytes as a text; the program's Escape. -/
import Derived.Test.YtebgejoemlgggaaDoorEsc1
import Derived.Test.YtebgejoemlgggaaDoorMem
import Derived.Test.YtebgejoemlgggaaDoorStep
import Derived.Test.YtebgejoemlgggaaDoorRowsOf
import Derived.Laws.BytesArg
import Derived.Lib.BufferRead
import Derived.Lib.SlBytesConst
import Derived.Lib.ConvBytes
namespace Go.Proofs.YtebgejoemlgggaaDoor
open Go.RowKit Go.Sort
set_option linter.unusedVariables false
set_option linter.unusedSimpArgs false
set_option maxRecDepth 100000

def strB (l : Bx) : Value := .string ⟨l.toArray⟩
theorem strOfNums_nb (l : Bx) : strOfNums ((nb l).map fun (n : Nat) => (n : Int)) = ⟨l.toArray⟩ := by
  unfold strOfNums nb
  congr 1
  congr 1
  rw [List.map_map, List.map_map]
  conv => rhs; rw [← List.map_id l]
  refine List.map_congr_left fun c _ => ?_
  show UInt8.ofNat ((c.toNat : Int)).toNat = c
  rw [Int.toNat_natCast, UInt8.ofNat_toNat]
theorem run_strB {w : World} {a : Option Addr} {len : Nat} (cap : Nat) {l : Bx} (h : Reads w a len (nb l)) : (convert 22 9 (.slice a len cap)).run Tryd.prog w = .ok (strB l) w := by
  unfold strB
  rw [← strOfNums_nb]
  obtain ⟨h1, h2, h3 | ⟨b, off, rfl, hb, hc⟩⟩ := h
  · rw [h3]
    rw [h3] at h1
    subst h1
    cases a with
    | none => exact Lib.run_convert_nil_bytes w _ _ 5 cap Tryd.underlying22 Tryd.underlying5 Tryd.underlying9
    | some x =>
      obtain ⟨b, off, sp⟩ := x
      rw [run_convert_bytes_string w 22 9 5 _ _ _ Tryd.underlying22 Tryd.underlying5 Tryd.underlying9]
      have h9 := run_bytesToString (P := Tryd.prog) w ⟨b, off, sp⟩ 0 cap [] (by rfl)
      exact h9
  · refine run_convert_bytes_arg w 22 5 Tryd.underlying22 Tryd.underlying5 b off len cap ((nb l).map fun (n : Nat) => (n : Int)) (by rw [List.length_map, h1]) (fun i hi => ?_) 9 Tryd.underlying9
    rw [hc i hi]
    rw [List.getD_eq_getElem?_getD, List.getD_eq_getElem?_getD, List.getElem?_map, List.getElem?_eq_getElem (by rw [h1]; exact hi)]
    rfl
theorem reads_three (w : World) (a b c : Nat) (ha : a < 256) (hb : b < 256) (hc : c < 256) : Reads (w.alloc (.cells #[.int .u8 (a : Int), .int .u8 (b : Int), .int .u8 (c : Int)] 5)) (some ⟨w.heap.size, 0, none⟩) 3 [a, b, c] := by
  have hnx := heap_alloc_new w (.cells #[.int .u8 (a : Int), .int .u8 (b : Int), .int .u8 (c : Int)] 5)
  refine ⟨rfl, by intro z hz; simp at hz; omega, .inr ⟨_, _, rfl, (Array.getElem?_eq_some_iff.1 hnx).1, fun i hi => ?_⟩⟩
  have : i = 0 ∨ i = 1 ∨ i = 2 := by omega
  unfold World.cell?
  rw [hnx]
  rcases this with rfl | rfl | rfl <;> rfl
theorem reads_get {w : World} {a : Option Addr} {n : Nat} {l : Bx} {k : Nat} {c : UInt8} (h : Reads w a n (nb l)) (hc : l[k]? = some c) : ∃ b off, a = some ⟨b, off, none⟩ ∧ b < w.heap.size ∧ w.cell? ⟨b, off + k, none⟩ = some (.int .u8 (c.toNat : Int)) := by
  obtain ⟨h1, _, h3 | ⟨b, off, rfl, hb, h4⟩⟩ := h
  · exfalso
    have : l = [] := by unfold nb at h3; exact List.map_eq_nil_iff.1 h3
    rw [this] at hc
    cases hc
  · have hk : k < n := by rw [← h1, nb_length]; exact (List.getElem?_eq_some_iff.1 hc).1
    refine ⟨b, off, rfl, hb, ?_⟩
    rw [h4 k hk, List.getD_eq_getElem?_getD]
    unfold nb
    rw [List.getElem?_map, hc]
    rfl
theorem nb_get {l : Bx} {k : Nat} {c : UInt8} (h : l[k]? = some c) : (nb l)[k]? = some c.toNat := by unfold nb; rw [List.getElem?_map, h]; rfl
theorem escF_snoc {l : Bx} {k : Nat} {c : UInt8} (h : l[k]? = some c) : escF (l.take (k + 1)) = escF (l.take k) ++ esc1 c := by
  rw [List.take_add_one, h]
  show escF (l.take k ++ [c]) = _
  rw [escF_append]
  unfold escF
  simp
theorem nb_esc_yes {c : UInt8} (h : selfN c.toNat = true) : nb (esc1 c) = [c.toNat] := by unfold esc1; rw [if_pos h]; rfl
theorem nb_esc_no {c : UInt8} (h : selfN c.toNat = false) : nb (esc1 c) = [37, digN (c.toNat / 16), digN (c.toNat % 16)] := by
  unfold esc1
  rw [if_neg (by rw [h]; decide)]
  have h1 := c.toNat_lt
  have h2 := dig_lt (c.toNat / 16) (by omega)
  have h3 := dig_lt (c.toNat % 16) (by omega)
  unfold nb
  simp [UInt8.toNat_ofNat', Nat.mod_eq_of_lt h2, Nat.mod_eq_of_lt h3]
theorem dig_at : ∀ n, n < 16 → (⟨#[48, 49, 50, 51, 52, 53, 54, 55, 56, 57, 65, 66, 67, 68, 69, 70]⟩ : ByteArray).data[n]?.map (·.toNat) = some (digN n) := by decide
theorem and_15 : ∀ n : Nat, n < 256 → bits .and .u8 (n : Int) 15 = ((n % 16 : Nat) : Int) := by decide
def hexSigns : ByteArray := ⟨#[48, 49, 50, 51, 52, 53, 54, 55, 56, 57, 65, 66, 67, 68, 69, 70]⟩
theorem run_sign (n : Nat) (hn : n < 16) (W : World) : (Instr.index 9 (.string ⟨#[48, 49, 50, 51, 52, 53, 54, 55, 56, 57, 65, 66, 67, 68, 69, 70]⟩) (.int .u8 (n : Int))).run Tryd.prog W = .ok (.int .u8 ((digN n : Nat) : Int)) W :=
  match n, hn with
  | 0, _ => by kernel_rfl
  | 1, _ => by kernel_rfl
  | 2, _ => by kernel_rfl
  | 3, _ => by kernel_rfl
  | 4, _ => by kernel_rfl
  | 5, _ => by kernel_rfl
  | 6, _ => by kernel_rfl
  | 7, _ => by kernel_rfl
  | 8, _ => by kernel_rfl
  | 9, _ => by kernel_rfl
  | 10, _ => by kernel_rfl
  | 11, _ => by kernel_rfl
  | 12, _ => by kernel_rfl
  | 13, _ => by kernel_rfl
  | 14, _ => by kernel_rfl
  | 15, _ => by kernel_rfl
  | n + 16, h => absurd h (by omega)
set_option maxHeartbeats 1600000 in
theorem pesc_is (a : Option Addr) (n cap : Nat) (l : Bx) (w : World) (hr : Reads w a n (nb l)) (hcap : n ≤ cap) (hl : l.length ≤ 20000) :
    Calls Tryd.prog 27 #[.slice a n cap] w fun e w' => e = .returned (strB (escL l)) ∧ Below w.heap.size w w' := by
  have hn : n = l.length := by rw [← hr.1, nb_length]
  have HR := Lib.hid hr
  have HN := Lib.hid hn
  have hn20 : (n : Int) ≤ 20000 := by omega
  clear hr hn hl
  go_enter Tryd.func27, Tryd.ntmps27
  by_cases h0 : n = 0
  · have hL : Hid (l = []) := Lib.hid (List.length_eq_zero_iff.1 (by rw [← HN.out, h0]))
    have h00 : ((n : Int) == 0) = true := by rw [h0]; rfl
    clear h0
    go_wp2
    go_ret
    exact ⟨by rw [hL.out]; rfl, Below.refl _ _⟩
  · have h00 : ((n : Int) == 0) = false := by simpa using h0
    have HNE : Hid (l ≠ []) := Lib.hid (fun e => h0 (by rw [HN.out, e]; rfl))
    clear h0
    go_wp2
    go_loopw [3, 11] (fun v i wr => ∃ k : Nat, i = .int .i64 (k : Int) ∧ k ≤ n ∧ Hid (Owns w.heap.size wr v (nb (escF (l.take k)))) ∧ Hid (Below w.heap.size w wr)) (fun _ i _ => n - (intOf i).toNat)
    case atStart => exact ⟨0, rfl, Nat.zero_le _, Lib.hid (owns_nil _ _), Lib.hid (Below.refl _ _)⟩
    case round =>
      obtain ⟨k, rfl, hk, HO, HB⟩ := hrel
      by_cases hlt : k < n
      · have hlt2 : (k : Int) < (n : Int) := by omega
        obtain ⟨c, hc⟩ : ∃ c, l[k]? = some c := ⟨_, List.getElem?_eq_getElem (by rw [← HN.out]; exact hlt)⟩
        obtain ⟨b, off, rfl, hb, d0⟩ := reads_get HR.out hc
        have d1 := (HB.out.cell (p := ⟨b, off + k, none⟩) hb).trans d0
        have hcl := c.toNat_lt
        have HP := Lib.hid (pplain_is c.toNat hcl wr)
        have hlen : (nb (escF (l.take k))).length ≤ 60000 := by
          rw [nb_length]
          have := (escF_length (l.take k)).2
          rw [List.length_take] at this
          have := HN.out
          omega
        have hsn := escF_snoc hc
        have HLE := Lib.hid hlen
        clear hc hb d0 hlen
        cases hs : selfN c.toNat
        · rw [hs] at HP
          have HST : Hid (nb (escF (l.take k)) ++ [37, digN (c.toNat / 16), digN (c.toNat % 16)] = nb (escF (l.take (k + 1)))) := Lib.hid (by rw [hsn, nb_append, nb_esc_no hs])
          have h4 : (c.toNat / 16) < 16 := by omega
          have h5 : (c.toNat % 16) < 16 := by omega
          clear hs hsn
          go_wp2_with fail
          refine HP.out.mono ?_
          rintro e w1 ⟨rfl, rfl⟩
          go_wp2
          have q1 := and_15 c.toNat hcl
          obtain ⟨lo, hlo⟩ : ∃ x, c.toNat % 16 = x := ⟨_, rfl⟩
          rw [hlo] at q1 h5 HST
          obtain ⟨hi, hhi⟩ : ∃ x, c.toNat / 16 = x := ⟨_, rfl⟩
          rw [hhi] at h4 HST
          have q2 : (c.toNat : Int) / 16 = (hi : Int) := by omega
          have q3 := run_sign lo h5
          have q4 := run_sign hi h4
          have d1 := dig_lt hi h4
          have d2 := dig_lt lo h5
          obtain ⟨D1, hD1⟩ : ∃ x, digN hi = x := ⟨_, rfl⟩
          obtain ⟨D2, hD2⟩ : ∃ x, digN lo = x := ⟨_, rfl⟩
          rw [hD1] at q4 d1 HST
          rw [hD2] at q3 d2 HST
          clear hlo hhi hD1 hD2 hcl
          have kx := below_next (below_drew w1) (below_box w1.drew (.cells #[.int .u8 37, .int .u8 (D1 : Int), .int .u8 (D2 : Int)] 5))
          have HRD : Hid (Reads (w1.drew.alloc (.cells #[.int .u8 37, .int .u8 (D1 : Int), .int .u8 (D2 : Int)] 5)) (some ⟨w1.heap.size, 0, none⟩) 3 [37, D1, D2]) := Lib.hid (reads_three w1.drew 37 D1 D2 (by decide) d1 d2)
          have HO2 := Lib.hid (HO.out.below kx)
          have HB2 := Lib.hid (below_next HB.out kx)
          have HLB : Hid ((nb (escF (l.take k))).length + 3 ≤ 100000) := Lib.hid (by have := HLE.out; omega)
          clear kx HO HB HP HR
          go_region_held3 (fun _ => True) (trivial) ((refine step_append_bytes (by rfl) _ _ (by rfl) w.heap.size u3 (nb (escF (l.take k))) (by rfl) HO2.out w1.heap.size 0 3 3 (by rfl) [37, D1, D2] HRD.out (by decide) HLB.out HB2.out.size ?_; intro v9 w9 o9 g9))
          all_goals
            have HB9 := Lib.hid (HB2.out.grown g9 HB2.out.size (fun j hj => HO2.out.lt j hj))
            have HO9 := Lib.hid o9
            clear o9 g9 HO2 HB2
            try go_wp2
            first
            | (go_roundw
               case rel => exact ⟨k + 1, by go_num, by omega, by rw [← HST.out]; exact HO9, HB9⟩
               case measure => simp [intOf]; omega)
            | exact ⟨⟨k + 1, by go_num, by omega, by rw [← HST.out]; exact HO9, HB9⟩, by simp [intOf]; omega⟩
        · rw [hs] at HP
          have HST : Hid (nb (escF (l.take k)) ++ [c.toNat] = nb (escF (l.take (k + 1)))) := Lib.hid (by rw [hsn, nb_append, nb_esc_yes hs])
          clear hs hsn
          go_wp2_with fail
          refine HP.out.mono ?_
          rintro e w1 ⟨rfl, rfl⟩
          have kx := below_box w1 (.cells #[.int .u8 (c.toNat : Int)] 5)
          have HRD := Lib.hid (reads_one w1 c.toNat hcl)
          have HO2 := Lib.hid (HO.out.below kx)
          have HB2 := Lib.hid (below_next HB.out kx)
          clear kx HP HB HO
          go_wp2_with (at_builtin; refine wpList_append_bytes rfl _ _ rfl w.heap.size _ (nb (escF (l.take k))) rfl HO2.out (some ⟨w1.heap.size, 0, none⟩) 1 1 rfl [c.toNat] HRD.out (by have := HLE.out; omega) HB2.out.size ?_; intro v9 w9 o9 g9)
          have HB9 := Lib.hid (HB2.out.grown g9 HB2.out.size (fun j hj => HO2.out.lt j hj))
          have HO9 := Lib.hid o9
          clear o9 g9 HO2 HB2
          go_wp2
          go_roundw
          case rel => exact ⟨k + 1, by go_num, by omega, by rw [← HST.out]; exact HO9, HB9⟩
          case measure => simp [intOf]; omega
      · have hge : ¬ (k : Int) < (n : Int) := by omega
        obtain rfl : k = n := by omega
        have htk : l.take k = l := List.take_of_length_le (by rw [← HN.out]; exact Nat.le_refl _)
        rw [htk] at HO
        generalize u3 = v3 at *
        obtain ⟨a3, c3, rfl, hr3, _, _⟩ := HO.out.reads
        have HE : Hid (escL l = escF l) := Lib.hid (by unfold escL; rw [if_neg HNE.out])
        have e1 := run_strB c3 hr3
        clear hr3 htk
        go_wp2
        go_ret
        exact ⟨by rw [HE.out]; rfl, HB.out⟩
end Go.Proofs.YtebgejoemlgggaaDoor
