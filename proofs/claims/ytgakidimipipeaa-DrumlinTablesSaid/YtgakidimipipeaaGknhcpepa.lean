/- Lists of Uses written to bytes and read of bytes (part.Write, part.Read). -/
import Derived.Test.YtgakidimipipeaaGibfpgcca
import Derived.Test.YtgakidimipipeaaGaefblgki
namespace Go.Proofs.Ytgakidimipipeaa
open Go.RowKit Go.Sort
set_option linter.unusedVariables false
set_option linter.unusedSimpArgs false
set_option maxRecDepth 100000

theorem zeroUse_cons : ∃ x l, zeroUse = x :: l ∧ 1 ≤ x.width := ⟨_, _, rfl, by decide⟩
theorem zeroUse_width : ∀ x ∈ zeroUse, x.width ≤ 4 := by decide
theorem zeroUse_widths : widths zeroUse = 7 := rfl
theorem outUse_is {b : List Nat} (hb : Bytes b) : IsFUse (stO (.rd b) zeroUse) := by
  have hlen : (stO (.rd b) zeroUse).length = 3 := by rw [stO_length]; rfl
  obtain ⟨z0, g0, p0, q0⟩ := stO_rd zeroUse b hb zeroUse_width 0 _ rfl
  obtain ⟨z1, g1, p1, q1⟩ := stO_rd zeroUse b hb zeroUse_width 1 _ rfl
  obtain ⟨z2, g2, p2, q2⟩ := stO_rd zeroUse b hb zeroUse_width 2 _ rfl
  match h : stO (.rd b) zeroUse, hlen with
  | [a0, a1, a2], _ =>
    rw [h] at g0 g1 g2
    obtain rfl : a0 = ⟨.i64, 2, z0⟩ := Option.some.inj g0
    obtain rfl : a1 = ⟨.i64, 1, z1⟩ := Option.some.inj g1
    obtain rfl : a2 = ⟨.u32, 4, z2⟩ := Option.some.inj g2
    exact ⟨z0, z1, z2, rfl, (by unfold I64; omega), (by unfold I64; omega), ⟨p2, q2⟩⟩
theorem itemsUse_is {b : List Nat} (hb : Bytes b) : ∀ x ∈ itemsR zeroUse b, IsFUse x := by
  intro x hx
  obtain ⟨b', rfl, k⟩ := runD_mem zeroUse b _ x hx
  exact outUse_is (k hb)
set_option maxHeartbeats 1600000 in
theorem pwriteUse_is {w : World} (L : List (List FldD)) (hL : ∀ x ∈ L, IsFUse x) (hLl : L.length ≤ 60) (a : Option Addr) (cap gb : Nat) (tb : TypeId) (nb : w.heap[gb]? = some (.cells #[.func (.func 72) #[] #[]] tb (0, 0))) (hr : ReadsR w a 3 (L.map rowV)) :
    Calls Try.prog 105 #[.slice a L.length cap, .func (.func 109) #[] #[.pointer (some ⟨gb, 0, none⟩)]] w fun e w' => Below w.heap.size w w' ∧
      ((wrF L.flatten = true ∧ e = .returned (.tuple #[.slice none 0 0, .int .i64 1])) ∨ (wrF L.flatten = false ∧ ∃ v, e = .returned (.tuple #[v, .int .i64 0]) ∧ Owns w.heap.size w' v (wrB L.flatten))) := by
  have b1 := below_box w (.cells #[.slice a L.length cap] 63)
  have n1 := heap_alloc_new w (.cells #[.slice a L.length cap] 63)
  obtain ⟨w1, hw1⟩ : ∃ w1, w.alloc (.cells #[.slice a L.length cap] 63) = w1 := ⟨_, rfl⟩
  have hs1 : w1.heap.size = w.heap.size + 1 := by rw [← hw1]; simp
  rw [hw1] at b1 n1
  have hgb : gb < w.heap.size := (Array.getElem?_eq_some_iff.1 nb).1
  have b2 := below_box w1 (.cells #[.slice none 0 0, .bool false] 204)
  have hp := isPort_new w1
  have ha := fun k (hk : k < w1.heap.size) => away_new w1 hk
  obtain ⟨w2, hw2⟩ : ∃ w2, w1.alloc (.cells #[.slice none 0 0, .bool false] 204) = w2 := ⟨_, rfl⟩
  have hs2 : w2.heap.size = w.heap.size + 2 := by rw [← hw2]; simp [hs1]
  rw [hw2] at b2 hp ha
  have n2 := (b2.block w.heap.size (by omega)).trans n1
  have nb2 := (b2.block gb (by omega)).trans ((b1.block gb hgb).trans nb)
  have hr2 := (hr.below b1).below b2
  have hab : L ≠ [] → ∀ b off, a = some ⟨b, off, none⟩ → b < w2.heap.size ∧ Apart w2 (.iface 205 (.pointer (some ⟨w1.heap.size, 0, none⟩))) (.wr [] false) b := fun hne b off e => by
    obtain ⟨_, h | ⟨b', off', e', hb', _⟩⟩ := hr
    · exact absurd (List.map_eq_nil_iff.1 h) hne
    · rw [e] at e'
      cases e'
      exact ⟨by omega, (ha b (by omega)).apart⟩
  have HST := Lib.hid (restUse_is hp L hL a cap w.heap.size gb _ tb (by decide) n2 (ha _ (by omega)) nb2 (ha _ (by omega)).apart (by omega) hr2 hab L.length (by omega) (by omega) (fits_run zeroUse L (fun x hx => isFUse_widths (hL x hx)) (by omega)) (left_wr zeroUse L))
  rw [runD_wr zeroUse L [] false L.length (Nat.le_refl _), runS_wr zeroUse L _ L.length (Nat.le_refl _), List.take_length, stS_is] at HST
  have HA := Lib.hid ha
  have HB2 := Lib.hid (below_next b1 b2)
  clear b1 n1 b2 hp ha n2 nb nb2 hr hr2 hab
  go_enter Try.func105, Try.ntmps105
  go_wp2_with fail
  rw [hs1] at HST HA
  refine HST.out.mono ?_
  rintro e w3 ⟨rfl, v3, _, _, hp3⟩
  obtain ⟨g, v, he, hw3, ho3⟩ := hp3.port
  obtain rfl : g = w.heap.size + 1 := by cases he; rfl
  have hb3 : Below w.heap.size w w3 := by
    have hb : Below w.heap.size w2 w3 := by
      refine ⟨hp3.os, hp3.tape, hp3.output, hp3.size, fun k hk => ?_⟩
      exact hp3.block k (by omega) (HA.out k (by omega)).apart (by omega)
    exact HB2.out.trans hb
  have hon : Owns w.heap.size w3 v (wrB L.flatten) := by
    refine owns_raise ho3 fun k hk => ?_
    have h2 := hp3.away k (by omega) (HA.out k (by omega))
    exact ((away_wr ⟨hw3, ho3⟩).1 h2).2
  have c0 := cell_of_row hw3 0
  have c1 := cell_of_row hw3 1
  obtain ⟨av, lv, cpv, hv⟩ := owned_slice hon.2
  subst hv
  have HB3 := Lib.hid hb3
  have HO := Lib.hid hon
  clear hp3 hw3 ho3 hon hb3 he HST HA HB2 hw1 hw2
  cases hf : wrF L.flatten with
  | true =>
    rw [hf] at c1
    go_wp2
    go_ret2
    exact ⟨HB3.out, .inl ⟨hf, rfl⟩⟩
  | false =>
    rw [hf] at c1
    go_wp2
    go_ret2
    exact ⟨HB3.out, .inr ⟨hf, _, rfl, HO.out⟩⟩
set_option maxHeartbeats 1600000 in
theorem preadUse_is {w : World} {b : List Nat} {a : Option Addr} {cap gb : Nat} (tb : TypeId) (nb : w.heap[gb]? = some (.cells #[.func (.func 72) #[] #[]] tb (0, 0))) (hr : Reads w a b.length b) (hc : b.length ≤ cap) (hm : cap ≤ maxLen) (hbl : b.length ≤ 1000) :
    Calls Try.prog 115 #[.slice a b.length cap, .func (.func 109) #[] #[.pointer (some ⟨gb, 0, none⟩)]] w (ReadListPost 123 3 w (itemsR zeroUse b)) := by
  have b1 := below_box w (.cells #[.slice none 0 0] 63)
  have n1 := heap_alloc_new w (.cells #[.slice none 0 0] 63)
  obtain ⟨w1, hw1⟩ : ∃ w1, w.alloc (.cells #[.slice none 0 0] 63) = w1 := ⟨_, rfl⟩
  have hs1 : w1.heap.size = w.heap.size + 1 := by rw [← hw1]; simp
  rw [hw1] at b1 n1
  have hgb : gb < w.heap.size := (Array.getElem?_eq_some_iff.1 nb).1
  have hr1 := hr.below b1
  have b2 := below_box w1 (.cells #[.slice a b.length cap] 220)
  have hp := isPort_rd hr1 hc hm
  have hab : b ≠ [] → ∀ x, a = some x → x.block < w.heap.size := by
    intro hb x hx
    obtain ⟨_, _, h | ⟨blk, off, rfl, hlt, _⟩⟩ := hr
    · exact absurd h hb
    · cases hx; exact hlt
  have ha := away_rd_new hr1 hc hm (k := w.heap.size) (by omega) (fun hb x hx => Nat.ne_of_lt (hab hb x hx))
  have hap : ∀ k, k < w1.heap.size → Apart (w1.alloc (.cells #[.slice a b.length cap] 220)) (.iface 218 (.pointer (some ⟨w1.heap.size, 0, none⟩))) (.rd b) k := fun k hk => by
    obtain ⟨g, a', cap', he, h⟩ := hp
    obtain rfl : g = w1.heap.size := by cases he; rfl
    exact (apart_rd h).2 (by omega)
  obtain ⟨w2, hw2⟩ : ∃ w2, w1.alloc (.cells #[.slice a b.length cap] 220) = w2 := ⟨_, rfl⟩
  have hs2 : w2.heap.size = w.heap.size + 2 := by rw [← hw2]; simp [hs1]
  rw [hw2] at b2 hp ha hap
  have n2 := (b2.block w.heap.size (by omega)).trans n1
  have nb2 := (b2.block gb (by omega)).trans ((b1.block gb hgb).trans nb)
  have hK : countR zeroUse b ≤ b.length := (rounds_spec zeroUse_cons b.length b (Nat.le_refl _)).1
  have HST := Lib.hid (restUse_is hp [] (by simp) none 0 w.heap.size gb _ tb (by decide) n2 ha nb2 (hap gb (by omega)) (by omega) (ReadsR.nil _ _ _) (fun h => absurd rfl h) (countR zeroUse b) (by omega) (by simp) (fun i _ => by obtain ⟨b', e, _⟩ := runS_rd zeroUse b i; rw [e]; trivial) (left_rd zeroUse_cons b))
  have HAP := Lib.hid hap
  have HB2 := Lib.hid (below_next b1 b2)
  clear b1 n1 b2 hp ha n2 nb nb2 hr hr1 hab hap hK
  go_enter Try.func115, Try.ntmps115
  go_wp2_with fail
  rw [hs1] at HST HAP
  refine HST.out.mono ?_
  rintro e w3 ⟨rfl, v3, hx3, ho3, hp3⟩
  have hb3 : Below w.heap.size w w3 := by
    have hb : Below w.heap.size w2 w3 := by
      refine ⟨hp3.os, hp3.tape, hp3.output, hp3.size, fun k hk => ?_⟩
      exact hp3.block k (by omega) (HAP.out k (by omega)) (by omega)
    exact HB2.out.trans hb
  obtain ⟨a3, c3, rfl, _, _, _⟩ := ho3.reads
  have c0 := cell_of_row hx3 0
  have HB3 := Lib.hid hb3
  have HO := Lib.hid (ho3.less (show w.heap.size ≤ w2.heap.size by omega))
  obtain ⟨n3, hn3⟩ : ∃ n, (List.map rowV (runD zeroUse [] (.rd b) (countR zeroUse b))).length = n := ⟨_, rfl⟩
  rw [hn3] at c0 HO
  clear hp3 hx3 ho3 hb3 HST HAP HB2 hw1 hw2 hn3
  go_wp2
  go_ret
  exact ⟨HB3.out, _, rfl, HO.out⟩
end Go.Proofs.Ytgakidimipipeaa
