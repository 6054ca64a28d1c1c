/- The document's own Open, by its walk. -/
import Derived.Test.YtplkglepbedhoaaGddmfnfkp
namespace Go.Proofs.Ytplkglepbedhoaa
open Go.RowKit
set_option linter.unusedVariables false
set_option maxRecDepth 100000

theorem openB_three {s : List Nat} (h : openB s = true) : s.getD 3 0 ≤ 120 := by
  unfold openB at h
  obtain ⟨_, h2, h3⟩ := of_decide_eq_true h
  rw [← h3, sealL_three]
  exact h2
theorem bodyL_take {s : List Nat} (h : s.getD 3 0 ≤ 120) : bodyL s = (s.drop 4).take (s.getD 3 0) := by
  unfold bodyL bodyOf
  rw [if_pos (by omega)]
theorem drop4_step (s : List Nat) (hs : s.length = 128) (k : Nat) (hk : k < 120) : (s.drop 4).take k ++ [s.getD (4 + k) 0] = (s.drop 4).take (k + 1) := by
  rw [take_snoc_getD (s.drop 4) k (by simp; omega)]
  simp [List.getD]

def ROpenPost (s : List Nat) (w : World) (e : Ending) (w' : World) : Prop :=
  Below w.heap.size w w' ∧ ((openB s = true ∧ ∃ a cap, e = .returned (.tuple #[.int .u8 (kindL s : Nat), .slice a (bodyL s).length cap, .bool true]) ∧ Reads w' a (bodyL s).length (bodyL s) ∧ (bodyL s).length ≤ cap ∧ cap ≤ maxLen) ∨
    (openB s = false ∧ e = .returned (.tuple #[.int .u8 0, .slice none 0 0, .bool false])))

set_option maxHeartbeats 1600000 in
set_option maxRecDepth 100000 in
theorem ropen_any (s : List Nat) (hs : s.length = 128) (hb : Bytes s) (w : World) :
    Calls Try.prog 87 #[.agg (cells s)] w fun e w' => ROpenPost s w e w' := by
  have hz := zero_full
  have hg0 := heap_alloc_new w (.cells (cells s) 41)
  have B0 := Below.refl (w.heap.size + 1) (w.alloc (.cells (cells s) 41))
  have hlt0 : w.heap.size < (w.alloc (.cells (cells s) 41)).heap.size := by simp
  have hcc : ∀ W, Below (w.heap.size + 1) (w.alloc (.cells (cells s) 41)) W → ∀ j, j < 128 → W.cell? ⟨w.heap.size, j, none⟩ = some (.int .u8 (s.getD j 0 : Nat)) := fun W h j hj => by
    have := block_cells hs (first_block_full h).2 j hj
    rw [Nat.zero_add] at this
    exact this
  have HC := Lib.hid hcc
  obtain ⟨n, hn⟩ : ∃ n, s.getD 3 0 = n := ⟨_, rfl⟩
  obtain ⟨kd, hkd⟩ : ∃ kd, s.getD 2 0 = kd := ⟨_, rfl⟩
  have hn8 : n < 256 := by rw [← hn]; exact hb.getD _
  have hk8 : kd < 256 := by rw [← hkd]; exact hb.getD _
  have HN := Lib.hid hn
  have HK : Hid (kindL s = kd) := hkd
  have HS := Lib.hid hs
  have hc3 := HC.out _ B0 3 (by decide)
  rw [hn] at hc3
  have HKD := Lib.hid hkd
  clear hn hkd hs hg0 hcc
  by_cases hbig : 120 < n
  · have hf : openB s = false := by
      cases h : openB s with
      | false => rfl
      | true =>
        have := openB_three h
        rw [HN.out] at this
        omega
    have bfin := (first_block_full B0).1
    go_enter Try.func87, Try.ntmps87
    go_wp2
    go_ret3
    exact ⟨bfin, .inr ⟨hf, rfl⟩⟩
  · have hbl : Hid (bodyL s = (s.drop 4).take n) := by
      show _ = _
      rw [bodyL_take (by rw [HN.out]; omega), HN.out]
    go_enter Try.func87, Try.ntmps87
    go_wp2
    go_loopw [5, 6] (fun v i wr => ∃ k : Nat, k ≤ n ∧ i = .int .i64 k ∧ Owns (w.heap.size + 1) wr v ((s.drop 4).take k) ∧ Below (w.heap.size + 1) (w.alloc (.cells (cells s) 41)) wr) (fun _ i _ => n - (intOf i).toNat)
    case atStart => exact ⟨0, by omega, rfl, owns_nil _ _, B0⟩
    case round =>
      obtain ⟨k, hk, rfl, ho, hbw⟩ := hrel
      have c3 := HC.out _ hbw 3 (by decide)
      rw [HN.out] at c3
      have hbs := hbw.size
      by_cases hlt : k < n
      · have ck := HC.out _ hbw (4 + k) (by omega)
        have HT := Lib.hid (drop4_step s HS.out k (by omega))
        obtain ⟨x, hx⟩ : ∃ x, s.getD (4 + k) 0 = x := ⟨_, rfl⟩
        have hx8 : x < 256 := by rw [← hx]; exact hb.getD _
        rw [hx] at ck HT
        clear hx
        have ho' := ho.alloc (.cells #[byteV x] 5)
        have hr1 := reads_one wr x hx8
        have hlen : ((s.drop 4).take k).length ≤ 120 := by simp; omega
        have hk4 : ((4 : Int) + k).toNat = 4 + k := by omega
        generalize (s.drop 4).take k = L at *
        go_wp2_with (at_builtin; refine wpList_append_bytes rfl _ _ rfl (w.heap.size + 1) _ _ rfl ho' _ _ _ rfl _ hr1 (by omega) (by simp; omega) ?_; intro v' w' h1 h2)
        have hb' := (hbw.alloc (by omega) _).grown h2 (by simp; omega) (fun j hj => ho'.lt j hj)
        rw [HT.out] at h1
        clear h2 ho' hr1 HT
        go_roundw
        case rel => exact ⟨k + 1, by omega, by go_num, h1, hb'⟩
        case measure => simp [intOf]; omega
      · have e : k = n := by omega
        subst e
        rw [← hbl.out] at ho
        have hbd : (bodyL s).length ≤ 120 := by rw [hbl.out]; simp; omega
        obtain ⟨a5, c5, rfl, hrd, hc5, hm5⟩ := ho.reads
        have c2 := HC.out _ hbw 2 (by decide)
        rw [HKD.out] at c2
        clear ho hbl
        by_cases hmk : kd = 0 ∨ 120 < (bodyL s).length
        · have hf : openB s = false := openB_no_make (by rw [HK.out]; exact hmk)
          go_wp2_with fail
          refine (rmake_no kd (bodyL s) _ _ _ _ (by unfold maxLen; omega) hmk).mono ?_
          rintro e w6 ⟨rfl, b6⟩
          have bw6 := (first_block_full (hbw.trans (b6.mono (by simpa using hbs)))).1
          have bfin := bw6.alloc bw6.size (.cells (cells noughts) 41)
          clear hmk hbw b6 bw6 c2 c3 hrd
          go_wp2_with (refine wpList_store_full rfl (.tmp 7) (.tmp 31) rfl w6.heap.size noughts rfl rfl rfl _ _ (heap_alloc_new w6 _) rfl ?_; rw [World.setRow_alloc_new])
          go_ret3
          exact ⟨bfin, .inr ⟨hf, rfl⟩⟩
        · have hmk : kd ≠ 0 := fun h => hmk (.inl h)
          have hok := openB_make (s := s) (by rw [HK.out]; omega)
          rw [HK.out] at hok
          go_wp2_with fail
          refine (rmake_ok kd (bodyL s) _ _ _ _ hrd hbd hk8 hmk).mono ?_
          rintro e w6 ⟨rfl, b6⟩
          have hlen := sealL_length (kind := kd) (body := bodyL s) hbd
          have hrd6 := (hrd.below b6).alloc (.cells (cells (sealL kd (bodyL s))) 41)
          have hneq := run_neq_full (sealL kd (bodyL s)) s hlen HS.out
          have bw6 := hbw.trans (b6.mono (by simpa using hbs))
          have bw7 := bw6.alloc (by have := bw6.size; simpa using this) (.cells (cells (sealL kd (bodyL s))) 41)
          have H1 := Lib.hid (block_cells HS.out (first_block_full bw7).2)
          have H2 := Lib.hid (block_cells hlen (heap_alloc_new w6 (.cells (cells (sealL kd (bodyL s))) 41)))
          have bfin := (first_block_full bw7).1
          have d2 := HC.out _ bw7 2 (by decide)
          rw [HKD.out] at d2
          have HL := Lib.hid hlen
          clear hmk hbw b6 bw6 bw7 c2 c3 hrd hlen
          by_cases hE : sealL kd (bodyL s) = s
          · have hfin : openB s = true := by rw [hok]; exact decide_eq_true hE
            have hD : decide (sealL kd (bodyL s) = s) = true := decide_eq_true hE
            simp only [hD, Bool.not_true] at hneq
            clear hok hE hD
            go_wp2_with (first | (refine wpList_store_full rfl (.tmp 7) (.tmp 31) rfl w6.heap.size _ rfl rfl HL.out _ _ (heap_alloc_new w6 _) rfl ?_; rw [World.setRow_alloc_new]) | (refine wpList_load_full_want rfl (.tmp 7) rfl w6.heap.size 0 (sealL kd (bodyL s)) rfl HL.out H2.out ?_) | (refine wpList_load_full_want rfl (.tmp 1) rfl w.heap.size 0 s rfl HS.out H1.out ?_))
            go_ret3
            exact ⟨bfin, .inl ⟨hfin, _, _, by rw [HK.out]; rfl, hrd6, hc5, hm5⟩⟩
          · have hfin : openB s = false := by rw [hok]; exact decide_eq_false hE
            have hD : decide (sealL kd (bodyL s) = s) = false := decide_eq_false hE
            simp only [hD, Bool.not_false] at hneq
            clear hok hE hD
            go_wp2_with (first | (refine wpList_store_full rfl (.tmp 7) (.tmp 31) rfl w6.heap.size _ rfl rfl HL.out _ _ (heap_alloc_new w6 _) rfl ?_; rw [World.setRow_alloc_new]) | (refine wpList_load_full_want rfl (.tmp 7) rfl w6.heap.size 0 (sealL kd (bodyL s)) rfl HL.out H2.out ?_) | (refine wpList_load_full_want rfl (.tmp 1) rfl w.heap.size 0 s rfl HS.out H1.out ?_))
            go_ret3
            exact ⟨bfin, .inr ⟨hfin, rfl⟩⟩
end Go.Proofs.Ytplkglepbedhoaa
