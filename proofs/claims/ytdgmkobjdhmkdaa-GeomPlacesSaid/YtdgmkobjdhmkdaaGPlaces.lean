/- What each sector is, against the program's places; and the document's own places. -/
import Derived.Test.YtdgmkobjdhmkdaaGParts
import Derived.Test.YtdgmkobjdhmkdaaWhere
namespace Go.Proofs.Ytdgmkobjdhmkdaa
open Go.RowKit Go.Sort
set_option linter.unusedVariables false
set_option maxRecDepth 100000

theorem rfirst_is {s g i : Int} (w : World) (h : bnd s g i) : Calls Try.prog 91 #[.agg #[.int .i64 s, .int .i64 g, .int .i64 i]] w fun e w' => e = .returned (.int .i64 (logI s i)) ∧ Below w.heap.size w w' := by
  have hb := below_box w (.cells #[.int .i64 s, .int .i64 g, .int .i64 i] 66)
  obtain ⟨hg, c0, c1, c2⟩ := box3_new w (.int .i64 s) (.int .i64 g) (.int .i64 i) 66
  have H := Lib.hid h
  have hc := chunks_bd h
  have ht := tables_bd h
  have he : 3 + 2 * chunksI i + 2 * tablesI s = logI s i := by unfold logI regI; omega
  have hw1 : IntKind.i64.wrap (2 * chunksI i) = 2 * chunksI i := IntWalk.i64_in _ (by omega)
  have hw2 : IntKind.i64.wrap (3 + 2 * chunksI i) = 3 + 2 * chunksI i := IntWalk.i64_in _ (by omega)
  have hw3 : IntKind.i64.wrap (2 * tablesI s) = 2 * tablesI s := IntWalk.i64_in _ (by omega)
  have hw4 : IntKind.i64.wrap (3 + 2 * chunksI i + 2 * tablesI s) = logI s i := by rw [← he]; exact IntWalk.i64_in _ (by omega)
  clear he
  go_enter Try.func91, Try.ntmps91
  go_wp2_with fail
  generalize w.alloc (.cells #[.int .i64 s, .int .i64 g, .int .i64 i] 66) = W at *
  have k0 := cell_regrown c0
  have k1 := cell_regrown c1
  have k2 := cell_regrown c2
  refine wp_region_quiet_below (by kernel_rfl) (by kernel_rfl) ?_
  repeat (go_big_quiet_step (first
    | (go_at_call 38; exact Calls.regrown_of (rchunks_is _ H.out))
    | (go_at_call 40; exact Calls.regrown_of (rtables_is _ H.out))))
  refine wpQuiet_nil (regrown_name fun w2 b3 => ?_)
  go_wp2
  go_ret
  exact ⟨rfl, below_next hb b3⟩

theorem rblock_is {s g i : Int} (a b c : Int) (w : World) (h : bnd s g i) (k : inI s g a b) (hc : 0 ≤ c ∧ c ≤ 7) : Calls Try.prog 52 #[.agg #[.int .i64 s, .int .i64 g, .int .i64 i], .int .i64 a, .int .i64 b, .int .i64 c] w fun e w' => e = .returned (.int .i64 (groupI s g i a b + 1 + c)) ∧ Below w.heap.size w w' := by
  have hb := below_box w (.cells #[.int .i64 s, .int .i64 g, .int .i64 i] 66)
  obtain ⟨hg, c0, c1, c2⟩ := box3_new w (.int .i64 s) (.int .i64 g) (.int .i64 i) 66
  have H := Lib.hid h
  have hl := log_bd h
  have hp := place_bd h k
  obtain ⟨k1, k2, k3, k4⟩ := k
  have he : logI s i + 9 * (a * g + b) = groupI s g i a b := by unfold groupI; omega
  have hw1 : IntKind.i64.wrap (a * g) = a * g := IntWalk.i64_in _ (by omega)
  have hw2 : IntKind.i64.wrap (a * g + b) = a * g + b := IntWalk.i64_in _ (by omega)
  have hw3 : IntKind.i64.wrap (9 * (a * g + b)) = 9 * (a * g + b) := IntWalk.i64_in _ (by omega)
  have hw4 : IntKind.i64.wrap (logI s i + 9 * (a * g + b)) = groupI s g i a b := by rw [← he]; exact IntWalk.i64_in _ (by omega)
  have hw5 : IntKind.i64.wrap (groupI s g i a b + 1) = groupI s g i a b + 1 := by rw [← he]; exact IntWalk.i64_in _ (by omega)
  have hw6 : IntKind.i64.wrap (groupI s g i a b + 1 + c) = groupI s g i a b + 1 + c := by rw [← he]; exact IntWalk.i64_in _ (by omega)
  clear he
  go_enter Try.func52, Try.ntmps52
  go_wp2_with fail
  generalize w.alloc (.cells #[.int .i64 s, .int .i64 g, .int .i64 i] 66) = W at *
  have k0 := cell_regrown c0
  have k1' := cell_regrown c1
  have k2' := cell_regrown c2
  refine wp_region_quiet_below (by kernel_rfl) (by kernel_rfl) ?_
  repeat (go_big_quiet_step (first
    | (go_at_call 91; exact Calls.regrown_of (rfirst_is _ H.out))))
  refine wpQuiet_nil (regrown_name fun w2 b3 => ?_)
  go_wp2
  go_ret
  exact ⟨rfl, below_next hb b3⟩

/-- What the law is told of sector k. -/
def PlaceOk (s g i : Int) (k : Nat) (p : P6) : Prop :=
  (p.k = 0 ∧ ¬ whereP s g i k ∧ p.n = 0 ∧ p.i = 0 ∧ p.s = 0 ∧ p.g = 0 ∧ p.t = 0) ∨
  (p.k = 1 ∧ ¬ whereP s g i k ∧ regionI s i p.n = (k : Int) - p.i ∧ p.i ≤ k ∧ p.s = 0) ∨
  (p.k = 2 ∧ ¬ whereP s g i k ∧ inI s g p.s p.g ∧ groupI s g i p.s p.g = k) ∨
  (p.k = 3 ∧ whereP s g i k ∧ inI s g p.s p.g ∧ p.t ≤ 7 ∧ ((k : Int) - logI s i) / 9 / g = p.s ∧ ((k : Int) - logI s i) / 9 % g = p.g ∧ ((k : Int) - logI s i) % 9 - 1 = p.t ∧ groupI s g i p.s p.g + 1 + p.t = k)

theorem place_ok {s g i R k : Nat} (h : bnd s g i) (hR : (R : Int) = regI s i) (hk : (k : Int) < sectorsI s g i) : PlaceOk s g i k (partAt R g k) := by
  have hrb := reg_bd h
  have hlog : logI s i = 1 + 2 * (R : Int) := by unfold logI; rw [hR]
  have hg0 : 0 < g := by unfold bnd at h; omega
  have hsec : sectorsI s g i = 1 + 2 * (R : Int) + ((s * g : Nat) : Int) * 9 := by unfold sectorsI; rw [hlog, Int.natCast_mul]
  rw [hsec] at hk
  unfold PlaceOk partAt
  by_cases h0 : k = 0
  · subst h0
    rw [if_pos rfl]
    exact .inl ⟨rfl, fun hw => by have := hw.1; omega, rfl, rfl, rfl, rfl, rfl⟩
  by_cases h1 : k < 1 + 2 * R
  · rw [if_neg h0, if_pos h1]
    have hd := Nat.div_add_mod (k - 1) R
    have hm := Nat.mod_lt (k - 1) (show 0 < R by omega)
    have hq : (k - 1) / R < 2 := Nat.div_lt_of_lt_mul (by omega)
    refine .inr (.inl ⟨rfl, fun hw => by have := hw.1; omega, ?_, by show (k - 1) % R ≤ k; omega, rfl⟩)
    show regionI s i (((k - 1) / R : Nat) : Int) = (k : Int) - (((k - 1) % R : Nat) : Int)
    generalize (k - 1) / R = q at *
    generalize (k - 1) % R = r at *
    unfold regionI
    rw [if_pos (by omega), ← hR]
    have : q = 0 ∨ q = 1 := by omega
    rcases this with rfl | rfl
    · simp at hd ⊢; omega
    · simp at hd ⊢; omega
  · rw [if_neg h0, if_neg h1]
    obtain ⟨m, rfl⟩ : ∃ m, k = 1 + 2 * R + m := ⟨k - 1 - 2 * R, by omega⟩
    have em : 1 + 2 * R + m - 1 - 2 * R = m := by omega
    rw [em]
    have hd := Nat.div_add_mod (m / 9) g
    have hml := Nat.mod_lt (m / 9) hg0
    have hq : m / 9 / g < s := Nat.div_lt_of_lt_mul (by rw [Nat.mul_comm g]; omega)
    have hin : inI s g ((m / 9 / g : Nat) : Int) ((m / 9 % g : Nat) : Int) := ⟨Int.natCast_nonneg _, by exact_mod_cast hq, Int.natCast_nonneg _, by exact_mod_cast hml⟩
    have hgr : groupI s g i ((m / 9 / g : Nat) : Int) ((m / 9 % g : Nat) : Int) = 1 + 2 * (R : Int) + ((m / 9 : Nat) : Int) * 9 := by
      unfold groupI
      rw [hlog]
      have : ((m / 9 / g : Nat) : Int) * (g : Int) + ((m / 9 % g : Nat) : Int) = ((m / 9 : Nat) : Int) := by
        rw [← Int.natCast_mul, ← Int.natCast_add, Nat.mul_comm]; rw [hd]
      rw [this]
    have hsub : ((1 + 2 * R + m : Nat) : Int) - logI s i = (m : Int) := by rw [hlog]; omega
    by_cases h9 : m % 9 = 0
    · rw [if_pos h9]
      refine .inr (.inr (.inl ⟨rfl, fun hw => ?_, hin, ?_⟩))
      · have := hw.2.2; rw [hsub] at this; omega
      · show groupI s g i _ _ = _; rw [hgr]; omega
    · rw [if_neg h9]
      refine .inr (.inr (.inr ⟨rfl, ⟨by rw [hlog]; omega, by rw [hsec]; omega, by rw [hsub]; omega⟩, hin, by show m % 9 - 1 ≤ 7; omega, ?_, ?_, ?_, ?_⟩))
      · rw [hsub]; show _ = ((m / 9 / g : Nat) : Int); simp
      · rw [hsub]; show _ = ((m / 9 % g : Nat) : Int); simp
      · rw [hsub]; show _ = ((m % 9 - 1 : Nat) : Int); omega
      · show groupI s g i _ _ + 1 + ((m % 9 - 1 : Nat) : Int) = _; rw [hgr]; omega

/-- The list's elements, wherever they lie. -/
def ReadsQ (w : World) (a : Option Addr) (l : List P6) : Prop := ∃ b off, a = some ⟨b, off, none⟩ ∧ b < w.heap.size ∧ ∀ k p, l[k]? = some p → ∀ j u, p.vals[j]? = some u → w.cell? ⟨b, off + k * 6 + j, none⟩ = some u
theorem OwnsQ.reads {B : Nat} {w : World} {v : Value} {l : List P6} (h : OwnsQ B w v l) (h0 : 0 < l.length) : ∃ a cap, v = .slice a l.length cap ∧ ReadsQ w a l ∧ l.length ≤ cap ∧ cap ≤ maxLen := by
  obtain ⟨hlen, h⟩ := h
  rcases h with ⟨rfl, hn⟩ | ⟨g, cap, cur, rfl, hb, hg, hc, hm, hs, ht⟩
  · omega
  · refine ⟨_, cap, rfl, ⟨g, 0, rfl, (Array.getElem?_eq_some_iff.1 hg).1, fun k p hp j u hu => ?_⟩, hc, hm⟩
    have hk : k < l.length := (List.getElem?_eq_some_iff.1 hp).1
    have hj : j < 6 := by have := (List.getElem?_eq_some_iff.1 hu).1; simpa [P6.vals] using this
    have hv : (valsQ l)[k * 6 + j]? = some u := by
      unfold valsQ
      rw [← hu]
      clear hlen ht hs hc hm hg h0 hk
      induction l generalizing k with
      | nil => simp at hp
      | cons q l ih =>
        cases k with
        | zero =>
          simp at hp
          subst hp
          simp only [List.flatMap_cons, Nat.zero_mul, Nat.zero_add]
          rw [List.getElem?_append_left (by simpa [P6.vals] using hj)]
        | succ k =>
          simp at hp
          simp only [List.flatMap_cons]
          rw [List.getElem?_append_right (by simp [P6.vals]; omega)]
          rw [show (k + 1) * 6 + j - q.vals.length = k * 6 + j by simp [P6.vals]; omega]
          exact ih k hp
    rw [← ht, List.getElem?_take, if_pos (by omega)] at hv
    simpa [World.cell?, hg] using hv
theorem ReadsQ.below {w w' : World} {a : Option Addr} {l : List P6} (h : ReadsQ w a l) (hb : Below w.heap.size w w') : ReadsQ w' a l := by
  obtain ⟨b, off, rfl, hl, hc⟩ := h
  exact ⟨b, off, rfl, Nat.lt_of_lt_of_le hl hb.size, fun k p hp j u hu => (hb.cell (p := ⟨b, off + k * 6 + j, none⟩) hl).trans (hc k p hp j u hu)⟩
end Go.Proofs.Ytdgmkobjdhmkdaa
