/- A Summary written to bytes (part.Write). -/
import Derived.Test.YtplkglepbedhoaaGjljlacfl
import Derived.Test.YtplkglepbedhoaaGnblkokme
namespace Go.Proofs.Ytplkglepbedhoaa
open Go.RowKit Go.Sort
set_option linter.unusedVariables false
set_option linter.unusedSimpArgs false
set_option maxRecDepth 100000

/-- A summary's numbers ahead of its entries, as they are laid. -/
def sumF (seq first : Nat) (commit : Bool) (n : Nat) (next : Int) (time : Nat) : List FldD :=
  [⟨.u64, 8, (seq : Int)⟩, ⟨.u64, 8, (first : Int)⟩, ⟨.i64, 1, flagN commit⟩, ⟨.i64, 1, (n : Int)⟩, ⟨.i64, 2, next⟩, ⟨.u32, 4, (time : Int)⟩]
theorem sumS_is (S : PS) {seq first time : Nat} (commit : Bool) (n : Nat) (next : Int) (k0 : seq < 18446744073709551616) (k1 : first < 18446744073709551616) (k4 : time < 4294967296) :
    sumS S seq first commit n next time = stS S (sumF seq first commit n next time) := by
  unfold sumS
  show _ = (((((S.next 8 (u64of (seq : Int))).next 8 (u64of (first : Int))).next 1 (u64of (flagN commit))).next 1 (u64of (n : Int))).next 2 (u64of next)).next 4 (u64of (time : Int))
  rw [u64of_nat k0, u64of_nat k1, u64of_nat (z := time) (by omega)]
theorem sumF_widths (seq first : Nat) (commit : Bool) (n : Nat) (next : Int) (time : Nat) : widths (sumF seq first commit n next time) = 24 := rfl
theorem sum_fits {hd : List FldD} (hw : widths hd = 24) {L : List (List FldD)} (hL : ∀ x ∈ L, IsFEntry x) (hl : L.length ≤ 200) (i : Nat) (hi : i < L.length) : (runS zeroEntry L (stS (.wr [] false) hd) i).fits 9 := by
  rw [runS_wr zeroEntry L _ i (by omega), ← stS_append, stS_is]
  show (wrB _).length + 9 ≤ 2000
  have h1 : widths (L.take i).flatten = (L.take i).length * 9 := widths_flat (W := 9) (fun x hx => isFEntry_widths (hL x (List.mem_of_mem_take hx)))
  have h2 : (L.take i).length ≤ i := by simp; omega
  rw [wrB_length, widths_append, hw, h1]
  omega

set_option maxHeartbeats 1600000 in
theorem pwriteSum_is {w : World} {seq first time cap : Nat} {commit : Bool} {next : Int} {L : List (List FldD)} {a : Option Addr}
    (k0 : seq < 18446744073709551616) (k1 : first < 18446744073709551616) (k3 : I64 next) (k4 : time < 4294967296) (hL : ∀ x ∈ L, IsFEntry x) (hLl : L.length ≤ 200) (hr : ReadsR w a 4 (L.map rowV)) :
    Calls Try.prog 156 #[.agg #[.int .u64 seq, .int .u64 first, .bool commit, .int .i64 next, .int .u32 time, .slice a L.length cap], .func (.func 82) #[] #[]] w fun e w' => Below w.heap.size w w' ∧
      ((wrF (sumF seq first commit L.length next time ++ L.flatten) = true ∧ e = .returned (.tuple #[.slice none 0 0, .int .i64 1])) ∨ (wrF (sumF seq first commit L.length next time ++ L.flatten) = false ∧ ∃ v, e = .returned (.tuple #[v, .int .i64 0]) ∧ Owns w.heap.size w' v (wrB (sumF seq first commit L.length next time ++ L.flatten)))) := by
  have b1 := below_box w (.cells #[.int .u64 seq, .int .u64 first, .bool commit, .int .i64 next, .int .u32 time, .slice a L.length cap] 48)
  have n1 := heap_alloc_new w (.cells #[.int .u64 seq, .int .u64 first, .bool commit, .int .i64 next, .int .u32 time, .slice a L.length cap] 48)
  obtain ⟨w1, hw1⟩ : ∃ w1, w.alloc (.cells #[.int .u64 seq, .int .u64 first, .bool commit, .int .i64 next, .int .u32 time, .slice a L.length cap] 48) = w1 := ⟨_, rfl⟩
  have hs1 : w1.heap.size = w.heap.size + 1 := by rw [← hw1]; simp
  rw [hw1] at b1 n1
  have b2 := below_box w1 (.cells #[.slice none 0 0, .bool false] 320)
  have hp := isPort_new w1
  have ha := fun k (hk : k < w1.heap.size) => away_new w1 hk
  obtain ⟨w2, hw2⟩ : ∃ w2, w1.alloc (.cells #[.slice none 0 0, .bool false] 320) = w2 := ⟨_, rfl⟩
  have hs2 : w2.heap.size = w.heap.size + 2 := by rw [← hw2]; simp [hs1]
  rw [hw2] at b2 hp ha
  have n2 := (b2.block w.heap.size (by omega)).trans n1
  have hr2 := (hr.below b1).below b2
  have hab : L ≠ [] → ∀ b off, a = some ⟨b, off, none⟩ → b < w2.heap.size ∧ Apart w2 (.iface 321 (.pointer (some ⟨w1.heap.size, 0, none⟩))) (.wr [] false) b ∧ b ≠ w.heap.size := fun hne b off e => by
    obtain ⟨_, h | ⟨b', off', e', hb', _⟩⟩ := hr
    · exact absurd (List.map_eq_nil_iff.1 h) hne
    · rw [e] at e'
      cases e'
      exact ⟨by omega, (ha b (by omega)).apart, by omega⟩
  have hwr : ∃ l f, (((PS.wr [] false).next 8 seq).next 8 first).next 1 (u64of (flagN commit)) = .wr l f := by
    obtain ⟨l, f, e⟩ := stS_wr [⟨.u64, 8, (seq : Int)⟩, ⟨.u64, 8, (first : Int)⟩, ⟨.i64, 1, flagN commit⟩] [] false
    refine ⟨l, f, ?_⟩
    rw [← e]
    show _ = (((PS.wr [] false).next 8 (u64of (seq : Int))).next 8 (u64of (first : Int))).next 1 (u64of (flagN commit))
    rw [u64of_nat k0, u64of_nat k1]
  have hKn : ((((PS.wr [] false).next 8 seq).next 8 first).next 1 (u64of (flagN commit))).numI 1 (L.length : Int) = (L.length : Nat) := by
    obtain ⟨l, f, e⟩ := hwr
    rw [e]
    rfl
  have hS := sumS_is (.wr [] false) commit L.length next k0 k1 k4
  have hfit : ∀ i, i < L.length → (runS zeroEntry L (sumS (.wr [] false) seq first commit L.length next time) i).fits 9 := fun i hi => by
    rw [hS]
    exact sum_fits (sumF_widths _ _ _ _ _ _) hL hLl i hi
  have HST := Lib.hid (laySummary_is hp n2 (ha _ (by omega)) k0 k1 k3 k4 hL (by omega) hr2 hab (by show 0 + 24 ≤ 2000; omega) hKn (by omega) hfit)
  unfold SumPost at HST
  rw [hS, runS_wr zeroEntry L _ L.length (Nat.le_refl _), List.take_length, ← stS_append] at HST
  have HA := Lib.hid ha
  have HB2 := Lib.hid (below_next b1 b2)
  obtain ⟨F, hF⟩ : ∃ F, sumF seq first commit L.length next time ++ L.flatten = F := ⟨_, rfl⟩
  rw [hF, stS_is F] at HST
  rw [hF]
  clear b1 n1 b2 hp ha n2 hr hr2 hab hwr hKn hS hfit hF
  go_enter Try.func156, Try.ntmps156
  go_wp2_with fail
  rw [hs1] at HST HA
  refine HST.out.mono ?_
  rintro e w3 ⟨rfl, v3, _, _, hp3⟩
  obtain ⟨g, v, he, hw3, ho3⟩ := hp3.port
  obtain rfl : g = w.heap.size + 1 := by cases he; rfl
  have hb3 : Below w.heap.size w w3 := by
    have hb : Below w.heap.size w2 w3 := by
      refine ⟨hp3.os, hp3.tape, hp3.output, hp3.size, fun k hk => ?_⟩
      exact hp3.block k (by omega) (HA.out k (by omega)).apart (by omega)
    exact HB2.out.trans hb
  have hon : Owns w.heap.size w3 v (wrB F) := by
    refine owns_raise ho3 fun k hk => ?_
    have h2 := hp3.away k (by omega) (HA.out k (by omega))
    exact ((away_wr ⟨hw3, ho3⟩).1 h2).2
  have c0 := cell_of_row hw3 0
  have c1 := cell_of_row hw3 1
  obtain ⟨av, lv, cpv, hv⟩ := owned_slice hon.2
  subst hv
  have HB3 := Lib.hid hb3
  have HO := Lib.hid hon
  clear hp3 hw3 ho3 hon hb3 he HST HA HB2 hw1 hw2
  cases hf : wrF F with
  | true =>
    rw [hf] at c1
    go_wp2
    go_ret2
    exact ⟨HB3.out, .inl ⟨hf, rfl⟩⟩
  | false =>
    rw [hf] at c1
    go_wp2
    go_ret2
    exact ⟨HB3.out, .inr ⟨hf, _, rfl, HO.out⟩⟩
end Go.Proofs.Ytplkglepbedhoaa
