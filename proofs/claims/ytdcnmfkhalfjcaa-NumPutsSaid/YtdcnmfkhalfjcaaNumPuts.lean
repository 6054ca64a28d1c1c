/- The law NumPuts is true for every input: a number stands in bytes just as the document's answer says, and nothing else of them changes. No condition. -/
import Derived.Test.YtdcnmfkhalfjcaaPutOwn
import Derived.Test.YtdcnmfkhalfjcaaOpen
namespace Go.Proofs.Ytdcnmfkhalfjcaa
open Go.ChangeShapes Go.WideShapes Go.ChangeAt Go.RowKit
set_option linter.unusedVariables false

theorem sameB_self (l : List Nat) : sameB l l = true := by simp [sameB]
theorem below_draws {B : Nat} {a w : World} (h : Below B a w) (n : Nat) : Below B a (w.drewN n) := h.trans ⟨rfl, rfl, rfl, Nat.le_refl _, fun _ _ => rfl⟩

/-- A box of two cells, later. -/
theorem box2 {w w1 : World} {x y : Value} {t : TypeId} (hb : Below (w.alloc (.cells #[x, y] t)).heap.size (w.alloc (.cells #[x, y] t)) w1) :
    w1.cell? ⟨w.heap.size, 0, none⟩ = some x ∧ w1.cell? ⟨w.heap.size, 1, none⟩ = some y ∧ Below w.heap.size w w1 := by
  have hs : (w.alloc (.cells #[x, y] t)).heap.size = w.heap.size + 1 := by simp
  refine ⟨?_, ?_, ((Below.refl _ _).alloc (Nat.le_refl _) _).trans (hb.mono (by omega))⟩
  · rw [hb.cell (p := ⟨w.heap.size, 0, none⟩) (by rw [hs]; exact Nat.lt_succ_self _)]
    unfold World.cell?; rw [heap_alloc_new]; rfl
  · rw [hb.cell (p := ⟨w.heap.size, 1, none⟩) (by rw [hs]; exact Nat.lt_succ_self _)]
    unfold World.cell?; rw [heap_alloc_new]; rfl

set_option maxHeartbeats 800000 in
theorem numPuts_no (a : Option Addr) (len cap : Nat) (l : List Nat) (p q : Int) (n : Nat) (w : World) (hr : Reads w a len l) (hl : len ≤ cap) (hc : cap ≤ 140737488351232) (hp : I64 p) (hq : I64 q) (hn : n < 18446744073709551616)
    (h : roomB len p q = false ∨ hasB q n = false) :
    Calls Try.prog 3 #[.slice a len cap, .agg #[.int .i64 p, .int .i64 q], .int .u64 n] w fun e w' => e = .returned (.bool true) ∧ Below w.heap.size w w' := by
  have hm : len ≤ maxLen := by unfold maxLen; omega
  have Hp := Lib.hid hp
  have Hq := Lib.hid hq
  have Hor := Lib.hid h
  obtain rfl : len = l.length := hr.1.symm
  have ht := sameB_self l
  clear hp hq h
  go_enter Try.func3, Try.ntmps3
  go_wp2_with fail
  refine (awake_true _).mono ?_
  rintro e w1 ⟨rfl, hb1⟩
  go_wp2_with fail
  obtain ⟨c0, c1, hb⟩ := box2 hb1
  clear hb1
  go_quiet (fail)
  go_wp2_with fail
  have hb := below_draws hb nq
  refine (copy_any _ _ _ l _ (hr.below hb) (by omega)).mono ?_
  rintro e w2 ⟨v, rfl, ho, hb2⟩
  have hb' := hb.trans (hb2.mono hb.size)
  obtain ⟨a2, cap2, rfl, hr2, hl2, hc2⟩ := ho.reads
  clear c0 c1 ho hb2 hb
  go_wp2_with fail
  refine (put_no _ _ _ _ _ _ _ hm Hp.out Hq.out hn Hor.out).mono ?_
  rintro e w3 ⟨rfl, rfl⟩
  go_wp2_with fail
  refine (rput_no _ _ _ _ _ _ _ hm Hp.out Hq.out hn Hor.out).mono ?_
  rintro e w3 ⟨rfl, rfl⟩
  go_wp2_with fail
  refine (equal_alike _ _ _ _ _ l l _ hr2 (hr.below hb') hm).mono ?_
  rintro e w4 ⟨rfl, nq', rfl⟩
  go_wp2
  go_ret
  exact ⟨rfl, below_draws hb' nq'⟩

set_option maxHeartbeats 800000 in
theorem numPuts_yes (a : Option Addr) (len cap : Nat) (l : List Nat) (p q : Nat) (n : Nat) (w : World) (hr : Reads w a len l) (hl : len ≤ cap) (hc : cap ≤ 140737488351232) (hq : 1 ≤ q) (hq8 : q ≤ 8) (hpq : p + q ≤ len) (hn : n < 256 ^ q) :
    Calls Try.prog 3 #[.slice a len cap, .agg #[.int .i64 p, .int .i64 q], .int .u64 n] w fun e w' => e = .returned (.bool true) ∧ Below w.heap.size w w' := by
  have hm : len ≤ maxLen := by unfold maxLen; omega
  have hn64 : n < 18446744073709551616 := Nat.lt_of_lt_of_le hn (pow256_le q hq8)
  obtain rfl : len = l.length := hr.1.symm
  have ht := sameB_self (putL l p q n)
  have hpl := putL_length l p q n hpq
  have HN := Lib.hid hn
  have HE : Hid (le (((putL l p q n).drop p).take q) = n) := by show _ = _; rw [putL_back l p q n hpq, le_low n q hn]
  clear hn
  go_enter Try.func3, Try.ntmps3
  go_wp2_with fail
  refine (awake_true _).mono ?_
  rintro e w1 ⟨rfl, hb1⟩
  go_wp2_with fail
  obtain ⟨c0, c1, hb⟩ := box2 hb1
  clear hb1
  go_quiet (fail)
  go_wp2_with fail
  have hb := below_draws hb nq
  refine (copy_any _ _ _ l _ (hr.below hb) (by omega)).mono ?_
  rintro e w2 ⟨v, rfl, ho, hb2⟩
  have hb' := hb.trans (hb2.mono hb.size)
  have ho' : Owns w.heap.size w2 v l := ⟨ho.1, ho.2.1, by
    rcases ho.2.2 with h | ⟨g, cap', cur, h1, h2, h3⟩
    · exact .inl h
    · exact .inr ⟨g, cap', cur, h1, Nat.le_trans hb.size h2, h3⟩⟩
  clear c0 c1 ho hb2 hb
  go_wp2_with fail
  refine (put_owned _ _ l p q n _ ho' hm hq hq8 hpq HN.out).mono ?_
  rintro e w3 ⟨rfl, ho3, hb3⟩
  have hb3' := hb'.trans hb3
  clear ho' hb3 hb'
  go_wp2_with fail
  refine (rput_yes _ _ _ l p q n _ (hr.below hb3') hl hc hq hq8 hpq HN.out).mono ?_
  rintro e w4 ⟨v4, rfl, ho4, hb4⟩
  have ho3' := ho3.below hb4
  have hb4' := hb3'.trans (hb4.mono hb3'.size)
  clear ho3 hb3' hb4
  obtain ⟨a3, cap3, rfl, hr3, hl3, hc3⟩ := ho3'.reads
  obtain ⟨a4, cap4, rfl, hr4, hl4, hc4⟩ := ho4.reads
  clear ho3' ho4
  rw [hpl] at hr3 hl3 hr4 hl4 ⊢
  go_wp2_with fail
  refine (equal_alike _ _ _ _ _ _ _ _ hr3 hr4 hm).mono ?_
  rintro e w5 ⟨rfl, nq', rfl⟩
  go_wp2_with fail
  refine (get_yes _ _ _ _ _ _ _ (show Reads (w4.drewN nq') _ _ _ from hr3) hm hq hq8 hpq).mono ?_
  rintro e w6 ⟨rfl, rfl⟩
  rw [HE.out]
  go_wp2
  go_ret
  exact ⟨rfl, below_draws hb4' nq'⟩

set_option maxRecDepth 100000 in
theorem numPuts_lifted (os : Os) (started : os.Started) (H : Type) (enc : TypeId × Value → H) :
    ReturnsInHanded {} Try.checked os 3 .any (Rows.numPutsSpec.pre6 enc Try.prog Try.f3 Rows.numPutsRow.domain false) (Rows.numPutsSpec.post enc Try.prog Try.f3 false true false false) :=
  law_lifted (s := Rows.numPutsSpec) started Try.func3 (by kernel_rfl) rfl (fun ds hd => by
        match ds, hd with
        | [_, _, _], _ => rfl) rfl
      (of_decide_eq_true (by kernel_rfl))
      (ChangeSpec.witness6 (enc := enc) (C := Try.checked) false ⟨#[], #[.slice none 0 0, .agg #[.int .i64 0, .int .i64 0], .int .u64 0], []⟩ 8 (by kernel_rfl) (by kernel_rfl) (by kernel_rfl) (by kernel_rfl))
      (fun W base args ds ps hval hA hsz => by
        rw [Try.params3] at hA hval hsz
        obtain ⟨v0, vs0, d0, ds0, p0, q0, hargs, rfl, rfl, h0, r0⟩ := trodAll_cons hA
        obtain ⟨v1, vs1, d1, ds1, p1, q1, rfl, rfl, rfl, h1, r1⟩ := trodAll_cons r0
        obtain ⟨v2, vs2, d2, ds2, p2, q2, rfl, rfl, rfl, h2, r2⟩ := trodAll_cons r1
        obtain ⟨rfl, rfl, rfl⟩ := trodAll_nil r2
        obtain rfl : args = #[v0, v1, v2] := by cases args; simp_all
        simp only [DataW.weightsEach, List.all_append, Bool.and_eq_true] at hsz
        obtain ⟨z0, z1, z2, _⟩ := hsz
        obtain ⟨a, len, cap, l, rfl, hr, hl, hc⟩ := open_bytes (hval 0 22 v0 rfl rfl) h0 z0
        obtain ⟨x, y, rfl, wx, wy⟩ := open_pair Try.underlying23 Try.underlying3 (by kernel_rfl) (by kernel_rfl) (hval 1 23 v1 rfl rfl) h1
        obtain ⟨n, rfl, rfl, rfl, wn⟩ := open_int Try.underlying24 (hval 2 24 v2 rfl rfl) h2
        obtain ⟨n0, n1⟩ := u64_of_wf wn
        obtain ⟨n, rfl⟩ := Int.eq_ofNat_of_zero_le n0
        have hn : n < 18446744073709551616 := by omega
        by_cases hok : roomB len x y = true ∧ hasB y n = true
        · obtain ⟨k1, k2, k3, k4⟩ := roomB_yes hok.1
          obtain ⟨x, rfl⟩ := Int.eq_ofNat_of_zero_le k3
          obtain ⟨y, rfl⟩ := Int.eq_ofNat_of_zero_le (show 0 ≤ y by omega)
          have h3 := of_decide_eq_true hok.2
          rw [Int.toNat_natCast] at h3
          exact numPuts_yes a len cap l x y n W hr hl hc (by omega) (by omega) (by omega) h3.2.2
        · refine numPuts_no a len cap l x y n W hr hl hc (i64_of_wf wx) (i64_of_wf wy) hn ?_
          by_cases hA2 : roomB len x y = true
          · exact .inr (by simpa [hA2] using hok)
          · exact .inl (by simpa using hA2))

theorem numPuts_holds : Rows.NumPutsSaid :=
  OpenClaim.holds_of_wide 3 Try.f3 rfl rfl rfl rfl rfl rfl rfl ⟨rfl, rfl, rfl, rfl, rfl⟩ rfl rfl rfl rfl rfl (by kernel_rfl) Try.func3 (by kernel_rfl)
    (of_decide_eq_true (by kernel_rfl)) (by unfold Func.isWrapper; first | (rw [if_pos (by decide +kernel)]; kernel_rfl) | (rw [if_neg (by decide +kernel)]; exact ⟨rfl, rfl⟩))
    (fun os started H enc _ => numPuts_lifted os started H enc)
#print axioms numPuts_holds
end Go.Proofs.Ytdcnmfkhalfjcaa
