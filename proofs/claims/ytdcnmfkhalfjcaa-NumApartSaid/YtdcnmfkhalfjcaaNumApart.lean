/- The law NumApart is true for every input: numbers that stand apart in bytes don't disturb one another. No condition. -/
import Derived.Test.YtdcnmfkhalfjcaaPutOwn
import Derived.Test.YtdcnmfkhalfjcaaOpen
import Derived.Deep.DeepCutAuto
namespace Go.Proofs.Ytdcnmfkhalfjcaa
open Go.ChangeShapes Go.WideShapes Go.ChangeAt Go.RowKit
set_option linter.unusedVariables false

theorem sameB_self' (l : List Nat) : sameB l l = true := by simp [sameB]
theorem below_draws' {B : Nat} {a w : World} (h : Below B a w) (n : Nat) : Below B a (w.drewN n) := h.trans ⟨rfl, rfl, rfl, Nat.le_refl _, fun _ _ => rfl⟩

/-- Do they stand apart? -/
def apartB (p q : Int) : Bool := decide (0 ≤ p ∧ 0 ≤ q ∧ (3 ≤ q - p ∨ 3 ≤ p - q))
/-- What Put answers of three bytes, and what it leaves. -/
def errOf (k : Bool) : Int := if k then 0 else 1
def put3L (k : Bool) (l : List Nat) (p : Int) (n : Nat) : List Nat := if k then putL l p.toNat 3 n else l

theorem put3_any (B : Nat) (v : Value) (l : List Nat) (p : Int) (n : Nat) (w : World) (ho : Owns B w v l) (hl : l.length ≤ maxLen) (hp : I64 p) (h : n < 16777216) :
    Calls Try.prog 15 #[v, .int .i64 p, .int .i64 3, .int .u64 n] w fun e w' => e = .returned (.int .i64 (errOf (roomB l.length p 3))) ∧ Owns B w' v (put3L (roomB l.length p 3) l p n) ∧ Below B w w' := by
  by_cases hk : roomB l.length p 3 = true
  · obtain ⟨k1, k2, k3, k4⟩ := roomB_yes hk
    obtain ⟨p, rfl⟩ := Int.eq_ofNat_of_zero_le k3
    refine (put_owned B v l p 3 n w ho hl (by omega) (by omega) (by omega) (by simpa using h)).mono ?_
    rintro e w' ⟨rfl, h1, h2⟩
    rw [hk]
    exact ⟨rfl, by simpa [put3L] using h1, h2⟩
  · have hk : roomB l.length p 3 = false := by simpa using hk
    obtain ⟨a, cap, rfl, hr, hlc, hcm⟩ := ho.reads
    refine (put_no_room a l.length cap p 3 n w hl hp ⟨by omega, by omega⟩ hk).mono ?_
    rintro e w' ⟨rfl, rfl⟩
    rw [hk]
    exact ⟨rfl, by simpa [put3L] using ho, Below.refl _ _⟩

theorem put3L_length {k : Nat} (l : List Nat) (p : Int) (n : Nat) (h : k = l.length) : (put3L (roomB k p 3) l p n).length = l.length := by
  subst h
  unfold put3L
  split
  · rename_i hk
    obtain ⟨k1, k2, k3, k4⟩ := roomB_yes hk
    exact putL_length l _ _ _ (by omega)
  · rfl
theorem mask24 (n : Nat) (hn : n < 18446744073709551616) : bits .and .u64 (n : Int) 16777215 = ((n % 16777216 : Nat) : Int) := by
  have h := u64_and_nat n 16777215 hn (by decide)
  have e : n &&& 16777215 = n % 16777216 := Nat.and_two_pow_sub_one_eq_mod n 24
  rw [e] at h
  exact h

theorem apart_yes {p q : Int} (h : 0 ≤ p ∧ 0 ≤ q ∧ (3 ≤ q - p ∨ 3 ≤ p - q)) : apartB p q = true := decide_eq_true h
theorem apart_no {p q : Int} (h : ¬ (0 ≤ p ∧ 0 ≤ q ∧ (3 ≤ q - p ∨ 3 ≤ p - q))) : apartB p q = false := decide_eq_false h
theorem putL_get (l : List Nat) (p n i : Nat) (h : p + 3 ≤ l.length) : (putL l p 3 n)[i]? = if p ≤ i ∧ i < p + 3 then (low n 3)[i - p]? else l[i]? := by
  unfold putL
  by_cases h1 : i < p
  · rw [if_neg (by omega), List.append_assoc, List.getElem?_append_left (by simp; omega), List.getElem?_take, if_pos h1]
  · rw [List.append_assoc, List.getElem?_append_right (by simp; omega)]
    have e : i - (l.take p).length = i - p := by simp; omega
    rw [e]
    by_cases h2 : i < p + 3
    · rw [if_pos ⟨by omega, h2⟩, List.getElem?_append_left (by rw [low_length]; omega)]
    · rw [if_neg (by omega), List.getElem?_append_right (by rw [low_length]; omega), low_length, List.getElem?_drop]
      congr 1
      omega
theorem three (l : List Nat) (p : Nat) (l' : List Nat) (hl : l'.length = 3) (h : ∀ j, j < 3 → l[p + j]? = l'[j]?) : (l.drop p).take 3 = l' := by
  apply List.ext_getElem?
  intro j
  rw [List.getElem?_take]
  split
  · rename_i hj
    rw [List.getElem?_drop]; exact h j hj
  · rw [List.getElem?_eq_none (by omega)]
theorem apart_first (l : List Nat) (p q n m : Nat) (h1 : p + 3 ≤ l.length) (h2 : q + 3 ≤ l.length) (h : p + 3 ≤ q ∨ q + 3 ≤ p) (hn : n < 16777216) : le (((putL (putL l p 3 n) q 3 m).drop p).take 3) = n := by
  rw [three _ p (low n 3) (low_length n 3), le_low n 3 (by simpa using hn)]
  intro j hj
  rw [putL_get _ q m _ (by rw [putL_length _ _ _ _ h1]; exact h2), if_neg (by omega), putL_get _ p n _ h1, if_pos (by omega)]
  congr 1
  omega
theorem apart_second (l : List Nat) (p q n m : Nat) (h1 : p + 3 ≤ l.length) (h2 : q + 3 ≤ l.length) (_h : p + 3 ≤ q ∨ q + 3 ≤ p) (hm : m < 16777216) : le (((putL (putL l p 3 n) q 3 m).drop q).take 3) = m := by
  rw [putL_back _ q 3 m (by rw [putL_length _ _ _ _ h1]; exact h2), le_low m 3 (by simpa using hm)]

/-- A box of two cells, later. -/
theorem box2' {w w1 : World} {x y : Value} {t : TypeId} (hb : Below (w.alloc (.cells #[x, y] t)).heap.size (w.alloc (.cells #[x, y] t)) w1) :
    w1.cell? ⟨w.heap.size, 0, none⟩ = some x ∧ w1.cell? ⟨w.heap.size, 1, none⟩ = some y ∧ Below w.heap.size w w1 := by
  have hs : (w.alloc (.cells #[x, y] t)).heap.size = w.heap.size + 1 := by simp
  refine ⟨?_, ?_, ((Below.refl _ _).alloc (Nat.le_refl _) _).trans (hb.mono (by omega))⟩
  · rw [hb.cell (p := ⟨w.heap.size, 0, none⟩) (by rw [hs]; exact Nat.lt_succ_self _)]
    unfold World.cell?; rw [heap_alloc_new]; rfl
  · rw [hb.cell (p := ⟨w.heap.size, 1, none⟩) (by rw [hs]; exact Nat.lt_succ_self _)]
    unfold World.cell?; rw [heap_alloc_new]; rfl

set_option maxHeartbeats 1600000 in
set_option maxRecDepth 100000 in
theorem numApart_walk (a : Option Addr) (len cap : Nat) (l : List Nat) (p q : Int) (n m : Nat) (w : World) (hr : Reads w a len l) (hl : len ≤ cap) (hc : cap ≤ 140737488351232) (hp : I64 p) (hq : I64 q) (hn : n < 18446744073709551616) (hm : m < 18446744073709551616) :
    Calls Try.prog 6 #[.slice a len cap, .agg #[.int .i64 p, .int .i64 q], .agg #[.int .u64 n, .int .u64 m]] w fun e w' => e = .returned (.bool true) ∧ Below w.heap.size w w' := by
  obtain rfl : len = l.length := hr.1.symm
  have Hp := Lib.hid hp
  have Hq := Lib.hid hq
  clear hp hq
  go_enter Try.func6, Try.ntmps6
  go_wp2_with fail
  refine (awake_true _).mono ?_
  rintro e w1 ⟨rfl, hb1⟩
  obtain ⟨c2, c3, hb2⟩ := box2' hb1
  obtain ⟨c0, c1, hb⟩ := box2' hb2
  have hs1 : (w.alloc (.cells #[.int .i64 p, .int .i64 q] 23)).heap.size = w.heap.size + 1 := by simp
  rw [hs1] at c2 c3
  clear hb1 hb2 hs1
  go_upto_if 19 with (fail)
  go_cut [0] (fun s wx => w1 = wx ∧ ∃ k, s = .slice a k cap ∧ Reads w1 a k (l.take 40))
  case first =>
    have hr1 := hr.below hb
    by_cases h40 : 40 < l.length
    · go_wp2
      go_meet
      exact ⟨rfl, 40, rfl, hr1.take 40 (by omega)⟩
    · go_wp2
      go_meet
      exact ⟨rfl, l.length, rfl, by rw [List.take_of_length_le (by omega)]; exact hr1⟩
  case rest =>
    obtain ⟨rfl, k, rfl, hk⟩ := hcut
    have h40 : (l.take 40).length ≤ 40 := List.length_take_le _ _
    generalize l.take 40 = l at *
    clear hr hl
    obtain rfl : k = l.length := hk.1.symm
    go_wp2_with fail
    refine (copy_any _ _ _ l _ hk (by omega)).mono ?_
    rintro e w2 ⟨v, rfl, ho, hb2⟩
    have hw1 : w.heap.size + 1 < w1.heap.size := World.block_lt_of_cell? _ _ c3
    have D : ∀ W, Below w1.heap.size w1 W → W.cell? ⟨w.heap.size, 0, none⟩ = some (.int .i64 p) ∧ W.cell? ⟨w.heap.size, 1, none⟩ = some (.int .i64 q) ∧ W.cell? ⟨w.heap.size + 1, 0, none⟩ = some (.int .u64 n) ∧ W.cell? ⟨w.heap.size + 1, 1, none⟩ = some (.int .u64 m) := fun W h =>
      ⟨(h.cell (p := ⟨w.heap.size, 0, none⟩) (by simp; omega)).trans c0, (h.cell (p := ⟨w.heap.size, 1, none⟩) (by simp; omega)).trans c1, (h.cell (p := ⟨w.heap.size + 1, 0, none⟩) hw1).trans c2, (h.cell (p := ⟨w.heap.size + 1, 1, none⟩) hw1).trans c3⟩
    have HD := Lib.hid D
    clear D c0 c1 c2 c3
    obtain ⟨d0, d1, d2, d3⟩ := HD.out w2 hb2
    go_wp2_with fail
    rw [mask24 n hn]
    refine (put3_any _ v l p _ _ ho (by unfold maxLen; omega) Hp.out (by omega)).mono ?_
    rintro e w3 ⟨rfl, ho3, hb3'⟩
    have hb3 := hb2.trans hb3'
    clear ho hb2 hb3' d0 d1 d2 d3
    obtain ⟨d0, d1, d2, d3⟩ := HD.out w3 hb3
    go_wp2_with fail
    rw [mask24 m hm]
    have hpl : (put3L (roomB l.length p 3) l p (n % 16777216)).length = l.length := put3L_length _ _ _ rfl
    refine (put3_any _ v _ q _ _ ho3 (by rw [hpl]; unfold maxLen; omega) Hq.out (by omega)).mono ?_
    rintro e w4 ⟨rfl, ho4, hb4'⟩
    rw [hpl] at ho4 ⊢
    have hb4 := hb3.trans hb4'
    clear ho3 hb3 hb4' d0 d1 d2 d3 hpl
    obtain ⟨d0, d1, d2, d3⟩ := HD.out w4 hb4
    have hbw := hb.trans (hb4.mono hb.size)
    obtain ⟨a4, cap4, rfl, hr4, _, _⟩ := ho4.reads
    have hpl : (put3L (roomB l.length q 3) (put3L (roomB l.length p 3) l p (n % 16777216)) q (m % 16777216)).length = l.length := by
      rw [put3L_length _ _ _ (put3L_length _ _ _ rfl).symm, put3L_length _ _ _ rfl]
    rw [hpl] at hr4 ⊢
    have hkw : Reads w4 a l.length l := hk.below hb4
    clear hpl ho4 hk hb hw1
    have hm40 : l.length ≤ maxLen := by unfold maxLen; omega
    go_upto_region 8 with fail
    go_cut [10] (fun s wx => w4 = wx ∧ s = .bool (apartB p q))
    case first =>
      obtain ⟨p1, p2⟩ := Hp.out
      obtain ⟨q1, q2⟩ := Hq.out
      clear HD hr4 hkw hb4 hbw
      by_cases e1 : 0 ≤ p
      · by_cases e2 : 0 ≤ q
        · by_cases e3 : p ≤ q
          · by_cases e4 : 3 ≤ q - p
            · have hr := apart_yes ⟨e1, e2, .inl e4⟩
              go_wp2
              go_meet
              exact ⟨rfl, congrArg Value.bool hr.symm⟩
            · have hr := apart_no (p := p) (q := q) (by omega)
              by_cases e5 : q ≤ p
              · go_wp2
                go_meet
                exact ⟨rfl, by rw [hr]; exact congrArg Value.bool (decide_eq_false (by omega))⟩
              · go_wp2
                go_meet
                exact ⟨rfl, congrArg Value.bool hr.symm⟩
          · have e5 : q ≤ p := by omega
            by_cases e4 : 3 ≤ p - q
            · have hr := apart_yes ⟨e1, e2, .inr e4⟩
              go_wp2
              go_meet
              exact ⟨rfl, congrArg Value.bool hr.symm⟩
            · have hr := apart_no (p := p) (q := q) (by omega)
              go_wp2
              go_meet
              exact ⟨rfl, congrArg Value.bool hr.symm⟩
        · have hr := apart_no (p := p) (q := q) (by omega)
          go_wp2
          go_meet
          exact ⟨rfl, congrArg Value.bool hr.symm⟩
      · have hr := apart_no (p := p) (q := q) (by omega)
        go_wp2
        go_meet
        exact ⟨rfl, congrArg Value.bool hr.symm⟩
    case rest =>
      obtain ⟨rfl, rfl⟩ := hcut
      by_cases hA : roomB l.length p 3 = true ∧ roomB l.length q 3 = true ∧ apartB p q = true
      · obtain ⟨h1, h2, h3⟩ := hA
        obtain ⟨_, _, k3, k4⟩ := roomB_yes h1
        obtain ⟨_, _, k5, k6⟩ := roomB_yes h2
        have hap := of_decide_eq_true h3
        rw [h1, h2] at hr4 ⊢
        rw [h3]
        simp only [put3L, if_true] at hr4
        have g1 := apart_first l p.toNat q.toNat (n % 16777216) (m % 16777216) (by omega) (by omega) (by omega) (by omega)
        have g2 := apart_second l p.toNat q.toNat (n % 16777216) (m % 16777216) (by omega) (by omega) (by omega) (by omega)
        have G1 := Lib.hid g1
        have G2 := Lib.hid g2
        have mk1 := mask24 n hn
        have mk2 := mask24 m hm
        clear g1 g2 h1 h2 h3 hap
        simp only [errOf, if_true]
        go_wp2_with fail
        refine (get_yes_int _ _ _ _ _ _ _ hr4 hm40 k3 (by decide) (by decide) (by omega)).mono ?_
        rintro e w5 ⟨rfl, rfl⟩
        rw [show (3 : Int).toNat = 3 from rfl, G1.out]
        go_wp2_with fail
        refine (get_yes_int _ _ _ _ _ _ _ hr4 hm40 k5 (by decide) (by decide) (by omega)).mono ?_
        rintro e w5 ⟨rfl, rfl⟩
        rw [show (3 : Int).toNat = 3 from rfl, G2.out]
        go_wp2
        go_ret
        exact ⟨rfl, hbw⟩
      · clear hr4
        by_cases h1 : roomB l.length p 3 = true
        · by_cases h2 : roomB l.length q 3 = true
          · have h3 : apartB p q = false := by simpa [h1, h2] using hA
            rw [h1, h2, h3]
            simp only [errOf, if_true]
            have H1 := Lib.hid h1
            have H2 := Lib.hid h2
            clear hA h1 h2 h3
            go_wp2_with fail
            refine (fits_any _ _ _ _ _ _ hm40 Hp.out ⟨by omega, by omega⟩).mono ?_
            rintro e w5 ⟨rfl, rfl⟩
            rw [H1.out]
            go_wp2_with fail
            refine (fits_any _ _ _ _ _ _ hm40 Hq.out ⟨by omega, by omega⟩).mono ?_
            rintro e w5 ⟨rfl, rfl⟩
            rw [H2.out]
            go_wp2
            go_ret
            exact ⟨rfl, hbw⟩
          · have h2 : roomB l.length q 3 = false := by simpa using h2
            rw [h1, h2]
            simp only [errOf, if_true, Bool.false_eq_true, if_false]
            have H1 := Lib.hid h1
            have H2 := Lib.hid h2
            clear hA h1 h2
            go_wp2_with fail
            refine (fits_any _ _ _ _ _ _ hm40 Hp.out ⟨by omega, by omega⟩).mono ?_
            rintro e w5 ⟨rfl, rfl⟩
            rw [H1.out]
            go_wp2_with fail
            refine (fits_any _ _ _ _ _ _ hm40 Hq.out ⟨by omega, by omega⟩).mono ?_
            rintro e w5 ⟨rfl, rfl⟩
            rw [H2.out]
            go_wp2
            go_ret
            exact ⟨rfl, hbw⟩
        · have h1 : roomB l.length p 3 = false := by simpa using h1
          clear hA
          by_cases h2 : roomB l.length q 3 = true
          · rw [h1, h2]
            simp only [errOf, if_true, Bool.false_eq_true, if_false]
            have H1 := Lib.hid h1
            have H2 := Lib.hid h2
            clear h1 h2
            go_wp2_with fail
            refine (fits_any _ _ _ _ _ _ hm40 Hp.out ⟨by omega, by omega⟩).mono ?_
            rintro e w5 ⟨rfl, rfl⟩
            rw [H1.out]
            go_wp2_with fail
            refine (fits_any _ _ _ _ _ _ hm40 Hq.out ⟨by omega, by omega⟩).mono ?_
            rintro e w5 ⟨rfl, rfl⟩
            rw [H2.out]
            go_wp2
            go_ret
            exact ⟨rfl, hbw⟩
          · have h2 : roomB l.length q 3 = false := by simpa using h2
            rw [h1, h2]
            simp only [errOf, Bool.false_eq_true, if_false]
            have H1 := Lib.hid h1
            have H2 := Lib.hid h2
            clear h1 h2
            go_wp2_with fail
            refine (fits_any _ _ _ _ _ _ hm40 Hp.out ⟨by omega, by omega⟩).mono ?_
            rintro e w5 ⟨rfl, rfl⟩
            rw [H1.out]
            go_wp2_with fail
            refine (fits_any _ _ _ _ _ _ hm40 Hq.out ⟨by omega, by omega⟩).mono ?_
            rintro e w5 ⟨rfl, rfl⟩
            rw [H2.out]
            go_wp2
            go_ret
            exact ⟨rfl, hbw⟩

set_option maxRecDepth 100000 in
theorem numApart_lifted (os : Os) (started : os.Started) (H : Type) (enc : TypeId × Value → H) :
    ReturnsInHanded {} Try.checked os 6 .any (Rows.numApartSpec.pre6 enc Try.prog Try.f6 Rows.numApartRow.domain false) (Rows.numApartSpec.post enc Try.prog Try.f6 false true false false) :=
  law_lifted (s := Rows.numApartSpec) started Try.func6 (by kernel_rfl) rfl (fun ds hd => by
        match ds, hd with
        | [_, _, _], _ => rfl) rfl
      (of_decide_eq_true (by kernel_rfl))
      (ChangeSpec.witness6 (enc := enc) (C := Try.checked) false ⟨#[], #[.slice none 0 0, .agg #[.int .i64 0, .int .i64 0], .agg #[.int .u64 0, .int .u64 0]], []⟩ 8 (by kernel_rfl) (by kernel_rfl) (by kernel_rfl) (by kernel_rfl))
      (fun W base args ds ps hval hA hsz => by
        rw [Try.params6] at hA hval hsz
        obtain ⟨v0, vs0, d0, ds0, p0, q0, hargs, rfl, rfl, h0, r0⟩ := trodAll_cons hA
        obtain ⟨v1, vs1, d1, ds1, p1, q1, rfl, rfl, rfl, h1, r1⟩ := trodAll_cons r0
        obtain ⟨v2, vs2, d2, ds2, p2, q2, rfl, rfl, rfl, h2, r2⟩ := trodAll_cons r1
        obtain ⟨rfl, rfl, rfl⟩ := trodAll_nil r2
        obtain rfl : args = #[v0, v1, v2] := by cases args; simp_all
        simp only [DataW.weightsEach, List.all_append, Bool.and_eq_true] at hsz
        obtain ⟨z0, z1, z2, _⟩ := hsz
        obtain ⟨a, len, cap, l, rfl, hr, hl, hc⟩ := open_bytes (hval 0 22 v0 rfl rfl) h0 z0
        obtain ⟨x, y, rfl, wx, wy⟩ := open_pair Try.underlying23 Try.underlying3 (by kernel_rfl) (by kernel_rfl) (hval 1 23 v1 rfl rfl) h1
        obtain ⟨n, m, rfl, wn, wm⟩ := open_pair Try.underlying56 Try.underlying24 (by kernel_rfl) (by kernel_rfl) (hval 2 56 v2 rfl rfl) h2
        obtain ⟨n0, n1⟩ := u64_of_wf wn
        obtain ⟨m0, m1⟩ := u64_of_wf wm
        obtain ⟨n, rfl⟩ := Int.eq_ofNat_of_zero_le n0
        obtain ⟨m, rfl⟩ := Int.eq_ofNat_of_zero_le m0
        exact numApart_walk a len cap l x y n m W hr hl hc (i64_of_wf wx) (i64_of_wf wy) (by omega) (by omega))

theorem numApart_holds : Rows.NumApartSaid :=
  OpenClaim.holds_of_wide 6 Try.f6 rfl rfl rfl rfl rfl rfl rfl ⟨rfl, rfl, rfl, rfl, rfl⟩ rfl rfl rfl rfl rfl (by kernel_rfl) Try.func6 (by kernel_rfl)
    (of_decide_eq_true (by kernel_rfl)) (by unfold Func.isWrapper; first | (rw [if_pos (by decide +kernel)]; kernel_rfl) | (rw [if_neg (by decide +kernel)]; exact ⟨rfl, rfl⟩))
    (fun os started H enc _ => numApart_lifted os started H enc)
#print axioms numApart_holds
end Go.Proofs.Ytdcnmfkhalfjcaa
