/- The document's own Make, by its walks. -/
import Derived.Test.YtpnafikmbbnecaaLaw2
namespace Go.Proofs.Ytpnafikmbbnecaa
open Go.RowKit
set_option linter.unusedVariables false
set_option maxRecDepth 100000

theorem first_block_full {w w' : World} {l : List Nat} (h : Below (w.heap.size + 1) (w.alloc (.cells (cells l) 24)) w') : Below w.heap.size w w' ∧ w'.heap[w.heap.size]? = some (.cells (cells l) 24 (0, 0)) :=
  ⟨((Below.refl _ _).alloc (Nat.le_refl _) _).trans (h.mono (by omega)), by rw [h.block _ (by omega)]; exact heap_alloc_new _ _⟩

theorem owns_four (B : Nat) (w : World) (x y : Nat) (hB : B ≤ w.heap.size) (hx : x < 256) (hy : y < 256) : Owns B (w.alloc (.cells #[.int .u8 215, .int .u8 76, .int .u8 x, .int .u8 y] 5)) (.slice (some ⟨w.heap.size, 0, none⟩) 4 4) [215, 76, x, y] := by
  refine ⟨by intro z hz; simp at hz; omega, by rfl, .inr ⟨w.heap.size, 4, _, rfl, hB, heap_alloc_new w _, Nat.le_refl _, by decide, rfl, rfl⟩⟩

set_option maxHeartbeats 1600000 in
set_option maxRecDepth 100000 in
theorem rmake_no (kind : Nat) (body : List Nat) (a : Option Addr) (len cap : Nat) (w : World) (hl : len ≤ maxLen) (hno : kind = 0 ∨ 120 < len) :
    Calls Try.prog 101 #[.int .u8 kind, .slice a len cap] w fun e w' => e = .returned (.tuple #[.agg (cells noughts), .bool false]) ∧ Below w.heap.size w w' := by
  have hm : len ≤ 9223372036854775807 := by unfold maxLen at hl; omega
  have hz := zero_full
  have hbld := build_full
  have HR := Lib.hid (heap_alloc_new w (.cells (cells noughts) 24))
  have HB : Hid (Below w.heap.size w (w.alloc (.cells (cells noughts) 24))) := (Below.refl _ _).alloc (Nat.le_refl _) _
  by_cases hk0 : kind = 0
  · have hk0' : ((kind : Int) == 0) = true := by simp [hk0]
    clear hk0 hno
    go_enter Try.func101, Try.ntmps101
    go_wp2_with (refine wpList_store_full rfl (.tmp 4) (.tmp 14) rfl w.heap.size noughts rfl rfl rfl _ _ HR.out rfl ?_)
    all_goals exact bodyPost_ret (results_full_tmp rfl _ _ w.heap.size noughts _ _ rfl (setRow_heap _ _ _ _ _ _ HR.out) rfl) rfl ⟨rfl, below_setRow HB.out (Nat.le_refl _) _⟩
  · have hk0' : ((kind : Int) == 0) = false := by simp; omega
    have hl' : 120 < len := by omega
    clear hk0 hno
    go_enter Try.func101, Try.ntmps101
    go_wp2_with (refine wpList_store_full rfl (.tmp 4) (.tmp 14) rfl w.heap.size noughts rfl rfl rfl _ _ HR.out rfl ?_)
    all_goals exact bodyPost_ret (results_full_tmp rfl _ _ w.heap.size noughts _ _ rfl (setRow_heap _ _ _ _ _ _ HR.out) rfl) rfl ⟨rfl, below_setRow HB.out (Nat.le_refl _) _⟩

theorem fullL_whole {l : List Nat} (h : l.length = 128) : fullL l = l := by
  unfold fullL pad
  rw [List.take_of_length_le (by omega), h]
  simp

/-- The length that a slice says. -/
def lenOfV : Value → Nat
  | .slice _ n _ => n
  | _ => 0

set_option maxHeartbeats 1600000 in
set_option maxRecDepth 100000 in
theorem rmake_ok (kind : Nat) (body : List Nat) (a : Option Addr) (len cap : Nat) (w : World) (hr : Reads w a len body) (hl : len ≤ 120) (hk : kind < 256) (hk0 : kind ≠ 0) :
    Calls Try.prog 101 #[.int .u8 kind, .slice a len cap] w fun e w' => e = .returned (.tuple #[.agg (cells (sealL kind body)), .bool true]) ∧ Below w.heap.size w w' := by
  obtain rfl : len = body.length := hr.1.symm
  have hz := zero_full
  have hk0' : ((kind : Int) == 0) = false := by simp; omega
  have hnl : (body.length : Int) % 256 = body.length := by omega
  have B0 := Below.refl (w.heap.size + 1) (w.alloc (.cells (cells noughts) 24))
  have hs0 : (w.alloc (.cells (cells noughts) 24)).heap.size = w.heap.size + 1 := by simp
  have hr0 := hr.alloc (.cells (cells noughts) 24)
  have ho4 := owns_four (w.heap.size + 1) (w.alloc (.cells (cells noughts) 24)) kind body.length (by omega) hk (by omega)
  rw [hs0] at ho4
  have hr4 := hr0.alloc (.cells #[.int .u8 215, .int .u8 76, .int .u8 kind, .int .u8 body.length] 5)
  have B1 := B0.alloc (by omega) (.cells #[.int .u8 215, .int .u8 76, .int .u8 kind, .int .u8 body.length] 5)
  have hs1 := B1.size
  have hP : ([215, 76, kind, body.length] ++ body : List Nat).length = 4 + body.length := by simp; omega
  have hH : headL kind body = [215, 76, kind, body.length] ++ body ++ List.replicate (120 - body.length) 0 := rfl
  have HH := Lib.hid hH
  clear hr hk0 hr0 hH
  go_enter Try.func101, Try.ntmps101
  go_wp2_with (at_builtin; refine wpList_append_bytes rfl _ _ rfl (w.heap.size + 1) _ _ rfl ho4 _ _ _ rfl body hr4 (by simp; omega) (by omega) ?_; intro v1 w1 h1 g1)
  have B2 := B1.grown g1 (by omega) (fun j hj => ho4.lt j hj)
  clear ho4 hr4 g1 B1 hs1
  generalize ([215, 76, kind, body.length] ++ body : List Nat) = P at *
  go_loopw [6] (fun v wr => ∃ m : Nat, P.length + m ≤ 124 ∧ Owns (w.heap.size + 1) wr v (P ++ List.replicate m 0) ∧ Below (w.heap.size + 1) (w.alloc (.cells (cells noughts) 24)) wr) (fun v _ => 124 - lenOfV v)
  case atStart => exact ⟨0, by omega, by simpa using h1, B2⟩
  case round =>
    obtain ⟨m, hm, ho, hb⟩ := hrel
    have hlen : (P ++ List.replicate m 0).length = P.length + m := by simp
    have HN : Hid (P ++ List.replicate m 0 ++ [0] = P ++ List.replicate (m + 1) 0) := by show _ = _; rw [List.replicate_succ', List.append_assoc]
    have HE : Hid (m = 120 - body.length → P ++ List.replicate m 0 = headL kind body) := fun h => by rw [HH.out, h]
    obtain ⟨L, hL⟩ : ∃ L, P ++ List.replicate m 0 = L := ⟨_, rfl⟩
    rw [hL] at ho hlen HN HE
    clear hL HH
    have hbs := hb.size
    by_cases hlt : L.length < 124
    · have ho' := ho.alloc (.cells #[byteV 0] 5)
      have hr1 := reads_one wr 0 (by decide)
      obtain ⟨ao, co, rfl, hrd, hlc, hcm⟩ := ho.reads
      clear hrd ho
      unfold maxLen at hcm
      go_wp2_with (at_builtin; refine wpList_append_bytes rfl _ _ rfl (w.heap.size + 1) (.slice ao L.length co) _ rfl ho' _ _ _ rfl _ hr1 (by omega) (by simp; omega) ?_; intro v' w' h1 h2)
      have hb' := (hb.alloc (by omega) _).grown h2 (by simp; omega) (fun j hj => ho'.lt j hj)
      clear h2 ho' hr1
      have hsz : (L ++ [0]).length = L.length + 1 := by simp
      obtain ⟨a', c', rfl, _⟩ := h1.reads
      go_roundw
      case rel => exact ⟨m + 1, by omega, by rw [← HN.out]; exact h1, hb'⟩
      case measure => simp [lenOfV]; omega
    · have HL : Hid (L = headL kind body) := HE.out (by omega)
      have h4 : L.length = 124 := by omega
      clear HN HE
      obtain ⟨ao, co, rfl, hrd, hlc, hcm⟩ := ho.reads
      rw [h4] at hrd ho ⊢
      have H4 := Lib.hid h4
      clear hlen hP h4 hlt hlc hcm hm
      go_wp2_with fail
      refine (rcrc_any ao _ co L wr hrd (by decide)).mono ?_
      rintro e w2 ⟨rfl, rfl⟩
      have hcl := crc_lt L
      obtain ⟨sum, hsum⟩ : ∃ sum, crc L = sum := ⟨_, rfl⟩
      rw [hsum] at hcl ⊢
      have HS := Lib.hid hsum
      clear hsum
      have hsm : (sum : Int) % 18446744073709551616 = sum := by omega
      go_wp2_with fail
      refine (low_any sum 4 _ (by decide) (by omega)).mono ?_
      rintro e w3 ⟨v3, rfl, ho3, hb3⟩
      obtain ⟨a3, c3, rfl, hrd3, _, _⟩ := ho3.reads
      clear ho3
      rw [low_length] at hrd3 ⊢
      have ho3' := ho.below (hb3.mono (Nat.le_refl _))
      have hb4 := hb.trans (hb3.mono (hs0 ▸ hbs))
      have hbs4 := hb4.size
      clear ho hb hbs hb3 hrd hsm hcl
      have hsl := sealL_length (kind := kind) (body := body) hl
      have hseal : L ++ low sum 4 = sealL kind body := by unfold sealL; rw [← HL.out, HS.out]
      obtain ⟨S, hSS⟩ : ∃ S, sealL kind body = S := ⟨_, rfl⟩
      rw [hSS] at hsl hseal
      have HSS := Lib.hid hSS
      clear hSS
      go_wp2_with (at_builtin; refine wpList_append_bytes rfl _ _ rfl (w.heap.size + 1) (.slice ao 124 co) L rfl ho3' _ _ _ rfl (low sum 4) hrd3 (by rw [H4.out]; decide) (by omega) ?_; intro v5 w5 h5 g5; rw [hseal] at h5; have hb5 := hb4.grown g5 (by omega) (fun j hj => ho3'.lt j hj); obtain ⟨a5, c5, rfl, hrd5, _, _⟩ := h5.reads; rw [hsl] at hrd5 ⊢; clear h5 g5 ho3' hrd3 hseal hb4 hbs4)
      have HSL := Lib.hid hsl
      clear hsl
      refine (full_any a5 128 c5 S w5 hrd5 (by decide)).mono ?_
      rintro e w6 ⟨rfl, b6⟩
      rw [fullL_whole HSL.out]
      have hs5 := hb5.size
      have b7 := hb5.trans (b6.mono (by omega))
      obtain ⟨bfin, hres⟩ := first_block_full b7
      have HR := Lib.hid hres
      clear hres b6 b7 hb5 hrd5
      go_wp2_with (refine wpList_store_full rfl (.tmp 4) (.tmp 34) rfl w.heap.size S rfl rfl HSL.out _ _ HR.out rfl ?_)
      exact bodyPost_ret (results_full_tmp rfl _ _ w.heap.size S _ _ rfl (setRow_heap _ _ _ _ _ _ HR.out) HSL.out) rfl ⟨by rw [HSS.out]; rfl, below_setRow bfin (Nat.le_refl _) _⟩
end Go.Proofs.Ytpnafikmbbnecaa
