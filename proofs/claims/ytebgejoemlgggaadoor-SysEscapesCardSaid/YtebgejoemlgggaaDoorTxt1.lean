/- Numbers as texts, by the document: digits, Text. -/
import Derived.Test.YtebgejoemlgggaaDoorEsc6
import Derived.Lib.ItoaLen
namespace Go.Proofs.YtebgejoemlgggaaDoor
open Go.RowKit Go.Sort
set_option linter.unusedVariables false
set_option linter.unusedSimpArgs false
set_option maxRecDepth 100000

theorem conv_one (y : Nat) (hy : y < 256) (W : World) (b : Nat) (hb : b < W.heap.size) (h : W.cell? ⟨b, 0, none⟩ = some (.int .u8 (y : Int))) :
    (convert 22 9 (.slice (some ⟨b, 0, none⟩) 1 1)).run Tryd.prog W = .ok (strB [UInt8.ofNat y]) W := by
  have e : nb [UInt8.ofNat y] = [y] := by
    show [(UInt8.ofNat y).toNat] = [y]
    rw [UInt8.toNat_ofNat', Nat.mod_eq_of_lt hy]
  refine run_strB 1 (l := [UInt8.ofNat y]) ?_
  rw [e]
  refine ⟨rfl, by intro z hz; rw [List.mem_singleton.1 hz]; exact hy, .inr ⟨b, 0, rfl, hb, fun i hi => ?_⟩⟩
  obtain rfl : i = 0 := by omega
  rw [h]; rfl
theorem cell_box (w : World) (v : Value) : (w.alloc (.cells #[v] 5)).cell? ⟨w.heap.size, 0, none⟩ = some v := by unfold World.cell?; rw [heap_alloc_new]; rfl
theorem bytes_append (a b : Bx) : (⟨a.toArray⟩ : ByteArray) ++ ⟨b.toArray⟩ = ⟨(a ++ b).toArray⟩ := by
  apply ByteArray.ext
  simp
theorem run_addB (a b : Bx) (W : World) (hb : a.length + b.length ≤ 1000000000) : (binOp .add 9 (strB a) (strB b)).run Tryd.prog W = .ok (strB (a ++ b)) W := by
  unfold strB
  rw [← bytes_append]
  have h9 : a.length + b.length ≤ 9223372036854775807 := by omega
  go_simp
theorem conv_late (y : Nat) (hy : y < 256) (w w1 : World) (b1 : Below (w.alloc (.cells #[.int .u8 (y : Int)] 5)).drew.heap.size (w.alloc (.cells #[.int .u8 (y : Int)] 5)).drew w1) :
    (convert 22 9 (.slice (some ⟨w.heap.size, 0, none⟩) 1 1)).run Tryd.prog w1 = .ok (strB [UInt8.ofNat y]) w1 := by
  have hlt : w.heap.size < (w.alloc (.cells #[.int .u8 (y : Int)] 5)).drew.heap.size := by show w.heap.size < (w.alloc (.cells #[.int .u8 (y : Int)] 5)).heap.size; simp
  exact conv_one y hy w1 w.heap.size (Nat.lt_of_lt_of_le hlt b1.size) ((b1.cell (p := ⟨w.heap.size, 0, none⟩) hlt).trans (cell_box w (.int .u8 (y : Int))))
set_option maxHeartbeats 400000 in
theorem rdigits_is : ∀ (m n : Nat), n < m → n < 18446744073709551616 → ∀ w, Calls Tryd.prog 82 #[.int .u64 (n : Int)] w fun e w' => e = .returned (strB (Lib.decDigits n)) ∧ Below w.heap.size w w' := by
  intro m
  induction m with
  | zero => intro n h; omega
  | succ m ih =>
    intro n hm hn w
    by_cases h10 : n < 10
    · have g1 : (n : Int) < 10 := by omega
      have g2 : (0 : Int) ≤ (n : Int) := by omega
      have HD := Lib.hid (Lib.decDigits_one h10)
      have hw : IntKind.u8.wrap (48 + (n : Int)) = ((48 + n : Nat) : Int) := by have := u8_small (48 + n) (by omega); rw [← this]; congr 1
      have kx := below_box w (.cells #[.int .u8 ((48 + n : Nat) : Int)] 5)
      have e1 := conv_one (48 + n) (by omega) (w.alloc (.cells #[.int .u8 ((48 + n : Nat) : Int)] 5)) w.heap.size (by simp) (by unfold World.cell?; rw [heap_alloc_new]; rfl)
      have hc : (48 : Int) + (n : Int) = ((48 + n : Nat) : Int) := by omega
      obtain ⟨y, hy⟩ : ∃ y, 48 + n = y := ⟨_, rfl⟩
      rw [hy] at hw kx e1 hc HD
      have HK := Lib.hid kx
      clear kx h10 ih hm hn hy
      go_enter Tryd.func82, Tryd.ntmps82
      go_wp2
      go_ret
      exact ⟨by rw [HD.out]; rfl, HK.out⟩
    · have g1 : ¬ (n : Int) < 10 := by omega
      have g2 : (0 : Int) ≤ (n : Int) := by omega
      have HD : Hid (Lib.decDigits n = Lib.decDigits (n / 10) ++ [UInt8.ofNat (48 + n % 10)]) := Lib.hid (by conv => lhs; rw [Lib.decDigits, dif_neg h10])
      have HIH := Lib.hid (fun w => ih (n / 10) (by omega) (by omega) w)
      have q1 : (n : Int) / 10 = ((n / 10 : Nat) : Int) := by omega
      have q2 : (n : Int).tmod 10 = ((n % 10 : Nat) : Int) := by rw [Int.tmod_eq_emod_of_nonneg (by omega)]; omega
      have q0 : (n : Int).tdiv 10 = ((n / 10 : Nat) : Int) := by rw [Int.tdiv_eq_ediv_of_nonneg (by omega)]; omega
      have hw : IntKind.u8.wrap (48 + ((n % 10 : Nat) : Int)) = ((48 + n % 10 : Nat) : Int) := by have := u8_small (48 + n % 10) (by omega); rw [← this]; congr 1
      have hc : (48 : Int) + ((n % 10 : Nat) : Int) = ((48 + n % 10 : Nat) : Int) := by omega
      have hy256 : 48 + n % 10 < 256 := by omega
      have hq64 : n / 10 < 18446744073709551616 := by omega
      obtain ⟨q, hq⟩ : ∃ y, n / 10 = y := ⟨_, rfl⟩
      obtain ⟨r, hr⟩ : ∃ y, n % 10 = y := ⟨_, rfl⟩
      obtain ⟨y, hy⟩ : ∃ y, 48 + n % 10 = y := ⟨_, rfl⟩
      rw [hq] at q1 q0 HD HIH hq64
      rw [hy] at hw hc HD hy256
      rw [hr] at q2 hw hc
      clear ih hm hn h10 hq hr hy
      have hcv := conv_one y hy256
      have w1 : IntKind.u64.wrap (q : Int) = (q : Int) := IntWalk.u64_in _ (by omega)
      have w2 : IntKind.u64.wrap (y : Int) = (y : Int) := IntWalk.u64_in _ (by omega)
      have w3 : IntKind.u8.wrap (y : Int) = (y : Int) := u8_small y hy256
      have hll : (Lib.decDigits q).length ≤ 20 := by rw [Lib.decDigits_length]; exact Lib.nDigits_le20 q hq64
      obtain ⟨L, hL⟩ : ∃ L, Lib.decDigits q = L := ⟨_, rfl⟩
      have hadd := fun W => run_addB (Lib.decDigits q) [UInt8.ofNat y] W (by rw [List.length_singleton]; omega)
      rw [hL] at hadd
      rw [hL] at HD HIH
      clear hL
      go_enter Tryd.func82, Tryd.ntmps82
      go_wp2
      have e0 := conv_late y hy256 w (w.alloc (.cells #[.int .u8 (y : Int)] 5)).drew (Below.refl _ _)
      go_region_with ((first | (go_at_call 82; with_reducible refine (HIH.out _).mono ?_; rintro e w1 ⟨rfl, b1⟩; have B1 := b1; try (have e9 := conv_late y hy256 w w1 b1)) | fail))
      all_goals
        have B2 : Below w.heap.size w w1 := by first | exact below_next (below_drew _) B1 | exact below_next (below_next (below_box _ _) (below_drew _)) B1
        try go_wp2
        go_ret
        exact ⟨by rw [HD.out]; rfl, by first | exact B2 | exact below_next B2 (below_box _ _)⟩
end Go.Proofs.YtebgejoemlgggaaDoor
