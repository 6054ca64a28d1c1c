/- A table of processes: each method's contract by the plain functions. -/
import Derived.Test.YtebkkbmplndcpaaGnpglpmlj
namespace Go.Proofs.Ytebkkbmplndcpaa
open Go.RowKit Go.Sort
set_option linter.unusedVariables false
set_option linter.unusedSimpArgs false
set_option maxRecDepth 100000

theorem pfork_is {B : Nat} {w : World} {g gs cap : Nat} {T : TabD} (h : IsTable B w g gs cap T) (n : Int) (hlast : T.last < 1000000) :
    Calls Try.prog 9 #[.pointer (some ⟨g, 0, none⟩), .int .i64 n] w (TPost B w g gs (forkF T n).1 (.tuple #[.int .i64 (forkF T n).2.1, .int .i64 (forkF T n).2.2])) := by
  unfold forkF
  rcases gone_cases T n with ⟨e, hg⟩ | ⟨e, i, s, hf, hs, hp⟩
  · rw [if_pos e]; exact tfork_no h hg
  · rw [if_neg (by rw [e]; decide)]
    by_cases hfull : T.most ≤ (T.list.length : Int)
    · rw [if_pos hfull]; exact tfork_full h hf hs hfull
    · rw [if_neg hfull]; exact tfork_yes h hf hs (by omega) hlast
theorem pkill_is {B : Nat} {w : World} {g gs cap : Nat} {T : TabD} (h : IsTable B w g gs cap T) (hnd : (pidsL T.list).Nodup) (n : Int) :
    Calls Try.prog 38 #[.pointer (some ⟨g, 0, none⟩), .int .i64 n] w (TPost B w g gs (killF T n).1 (.int .i64 (killF T n).2)) := by
  unfold killF
  rcases gone_cases T n with ⟨e, hg⟩ | ⟨e, i, s, hf, hs, hp⟩
  · rw [if_pos e]; exact tkill_no h hg
  · rw [if_neg (by rw [e]; decide)]
    by_cases hn : n = 1
    · rw [if_pos hn]; subst hn; exact tkill_one h hf hs
    · rw [if_neg hn, ← hitL_set hnd hf.2 hp]; exact tkill_yes h hf hs hn
theorem psleep_is {B : Nat} {w : World} {g gs cap : Nat} {T : TabD} (h : IsTable B w g gs cap T) (hnd : (pidsL T.list).Nodup) (n k : Int) :
    Calls Try.prog 40 #[.pointer (some ⟨g, 0, none⟩), .int .i64 n, .int .i64 k] w (TPost B w g gs (sleepF T n k).1 (.int .i64 (sleepF T n k).2)) := by
  unfold sleepF
  rcases gone_cases T n with ⟨e, hg⟩ | ⟨e, i, s, hf, hs, hp⟩
  · rw [if_pos e]; exact tsleep_no h hg k
  · rw [if_neg (by rw [e]; decide), found_state hf hp]
    by_cases h2 : s.state = 2
    · rw [if_pos h2]; exact tsleep_busy h hf h2 k
    · rw [if_neg h2]
      by_cases hk : k ≤ 0
      · rw [if_pos hk]; exact tsleep_none h hf hs h2 k hk
      · rw [if_neg hk, ← hitL_set hnd hf.2 hp]; exact tsleep_yes h hf hs h2 k (by omega)
theorem endL_len1 {T : TabD} (h : TrInv T) (n c : Int) (hn : n ≠ 1) (hex : ∀ s ∈ T.list, s.pid = n → s.state ≠ 3) : 1 ≤ (endL n c T.list).length := (tr_end h n c hn hex).len
theorem pexit_is {B : Nat} {w : World} {g gs cap : Nat} {T : TabD} (h : IsTable B w g gs cap T) (hI : TrInv T) (n c : Int) :
    Calls Try.prog 14 #[.pointer (some ⟨g, 0, none⟩), .int .i64 n, .int .i64 c] w (TPost B w g gs (exitF T n c).1 (.int .i64 (exitF T n c).2)) := by
  unfold exitF
  rcases gone_cases T n with ⟨e, hg⟩ | ⟨e, i, s, hf, hs, hp⟩
  · rw [if_pos e]; exact texit_no h hg c
  · rw [if_neg (by rw [e]; decide)]
    by_cases hn : n = 1
    · rw [if_pos hn]; subst hn; exact texit_one h hf hs c
    · rw [if_neg hn]
      have he : exitL T.list n i s (bits .and .i64 c 255) = endL n (bits .and .i64 c 255) T.list := by
        unfold exitL endL
        rw [← hitL_set hI.nodup hf.2 hp]
        rfl
      have hx := texit_yes h hf hs hn c (by rw [he]; exact endL_len1 hI n _ hn (alive_of hI hf hs hp))
      rw [he] at hx
      exact hx
theorem pwait_is {B : Nat} {w : World} {g gs cap : Nat} {T : TabD} (h : IsTable B w g gs cap T) (hI : TrInv T) (n : Int) :
    Calls Try.prog 34 #[.pointer (some ⟨g, 0, none⟩), .int .i64 n] w (TPost B w g gs (waitF T n).1 (.tuple #[.int .i64 (waitF T n).2.1, .int .i64 (waitF T n).2.2.1, .int .i64 (waitF T n).2.2.2])) := by
  unfold waitF
  rcases gone_cases T n with ⟨e, hg⟩ | ⟨e, i, s, hf, hs, hp⟩
  · rw [if_pos e]; exact twait_no h hg
  · rw [if_neg (by rw [e]; decide)]
    by_cases hch : thoseL (parentB n) T.list = []
    · rw [if_pos hch]; exact twait_none h hf hs hch
    · rw [if_neg hch]
      rcases firstT_or (zombieB n) T.list with ⟨hz, _⟩ | ⟨k, c, hz, hk, hc, _⟩
      · rw [if_pos hz]; exact twait_busy h hf hs hch hz
      · rw [if_neg (by rw [hz]; omega), hz]
        have h2 : 2 ≤ T.list.length := by
          have h1 := (List.getElem?_eq_some_iff.1 hk).1
          obtain ⟨c1, _⟩ := zombieB_is.1 hc
          have h3 := (List.getElem?_eq_some_iff.1 hf.2).1
          by_cases e1 : k = i
          · subst e1; rw [hf.2] at hk; cases hk; exact absurd c1 hs
          · omega
        have hy := twait_yes h hf hs hch hz hk h2
        rw [show ((k : Int)).toNat = k from rfl, hk]
        exact hy
end Go.Proofs.Ytebkkbmplndcpaa
