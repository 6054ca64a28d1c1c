/- The law ImapLinks is true for every input: links are counted up and down, never below none, nor above as many as may be. No condition. -/
import Derived.Test.YtnlbjpnhepdicaaMap3
import Derived.Test.YtnlbjpnhepdicaaOpenI
import Derived.WalkLawsBesides
namespace Go.Proofs.Ytnlbjpnhepdicaa
open Go.ChangeShapes Go.WideShapes Go.ChangeAt Go.RowKit Go.Sort
set_option linter.unusedVariables false
set_option linter.unusedSimpArgs false
set_option maxRecDepth 100000

def mapL (lk : Int) : List SlotD := [⟨0, 1, lk, 1⟩, zeroS, zeroS]
theorem mapL_used (lk : Int) : (usedI (mapL lk)).length = 1 := rfl
theorem link1_yes {B : Nat} {w : World} {g gs : Nat} {lk : Int} (h : IsMap B w g gs (mapL lk)) (x : Int) (h1 : -lk ≤ x) (h2 : x ≤ 100 - lk) :
    Calls Try.prog 51 #[.pointer (some ⟨g, 0, none⟩), .int .i64 1, .int .i64 x] w (MapPost B w g gs (mapL (lk + x)) (.tuple #[.int .i64 (lk + x), .int .i64 0])) := by
  have hc := mlink_yes h 0 ⟨0, 1, lk, 1⟩ rfl rfl x h1 h2
  rw [show ((0 : Nat) : Int) + 1 = 1 from rfl] at hc
  exact hc
theorem link1_off {B : Nat} {w : World} {g gs : Nat} {lk : Int} (h : IsMap B w g gs (mapL lk)) (x : Int) (hx : x < -lk ∨ 100 - lk < x) :
    Calls Try.prog 51 #[.pointer (some ⟨g, 0, none⟩), .int .i64 1, .int .i64 x] w (MapPost B w g gs (mapL lk) (.tuple #[.int .i64 0, .int .i64 10])) := by
  have hc := mlink_off h 0 ⟨0, 1, lk, 1⟩ rfl rfl x hx
  rw [show ((0 : Nat) : Int) + 1 = 1 from rfl] at hc
  exact hc
theorem get1_is {B : Nat} {w : World} {g gs : Nat} {lk : Int} (h : IsMap B w g gs (mapL lk)) :
    Calls Try.prog 52 #[.pointer (some ⟨g, 0, none⟩), .int .i64 1] w fun e w' => e = .returned (.tuple #[.agg #[.int .i64 0, .int .u32 1, .int .i64 lk, .int .i64 1], .int .i64 0]) ∧ Below w.heap.size w w' := by
  have hc := mget_yes h 0 ⟨0, 1, lk, 1⟩ rfl
  rw [show ((0 : Nat) : Int) + 1 = 1 from rfl] at hc
  exact hc
theorem count1_is {B : Nat} {w : World} {g gs : Nat} {lk : Int} (h : IsMap B w g gs (mapL lk)) :
    Calls Try.prog 43 #[.pointer (some ⟨g, 0, none⟩)] w fun e w' => e = .returned (.int .i64 1) ∧ Below w.heap.size w w' := by
  have hc := mcount_is h
  rw [mapL_used] at hc
  exact hc
set_option maxHeartbeats 2000000 in
theorem imapLinks_walk (a : Option Addr) (len cap : Nat) (l : List Int) (w : World) (hr : ReadsI w a len l) (hlc : len ≤ cap) (hcm : cap ≤ 9223372036854775807) :
    Calls Try.prog 12 #[.slice a len cap] w fun e w' => e = .returned (.bool true) ∧ Below w.heap.size w w' := by
  have hll := hr.1
  have HR := Lib.hid hr
  clear hr
  go_enter Try.func12, Try.ntmps12
  go_wp2_with fail
  refine (awake10_true w).mono ?_
  rintro e w1 ⟨rfl, b1⟩
  have B1 := Lib.hid b1
  have HS1 := Lib.hid b1.size
  clear b1
  go_wp2_with fail
  refine (mnew_is 3 w1 3 (by decide)).mono ?_
  rintro e w2 ⟨g, gs, rfl, t2, b2⟩
  have T2 : Hid (IsMap w1.heap.size w2 g gs [zeroS, zeroS, zeroS]) := t2
  have B2 : Hid (Below w.heap.size w w2) := below_next B1.out b2
  have HS2 := Lib.hid b2.size
  clear t2 b2 B1
  go_wp2_with fail
  refine (malloc_yes T2.out 0 zeroS rfl (by decide) 1 (by decide) (by decide)).mono ?_
  rintro e w3 ⟨rfl, t3, g3⟩
  have T3 : Hid (IsMap w1.heap.size w3 g gs (mapL 0)) := t3
  have B3 : Hid (Below w.heap.size w w3) := B2.out.grown g3 B2.out.size (by rintro k hk; obtain rfl := Option.some.inj hk; exact Nat.le_trans HS1.out (T2.out.2.1.lt gs rfl).1)
  rw [show nextV zeroS.version = 1 by decide, show ((0 : Nat) : Int) + 1 = 1 by decide]
  clear t3 g3 T2 B2
  go_wp2
  go_loopw [7, 8] (fun lv i wr => ∃ (k : Nat) (lk : Int), k ≤ len ∧ k ≤ 60 ∧ 0 ≤ lk ∧ lk ≤ 100 ∧ lv = .int .i64 lk ∧ i = .int .i64 k ∧ Hid (IsMap w1.heap.size wr g gs (mapL lk)) ∧ Hid (Below w.heap.size w wr)) (fun _ i _ => 60 - (intOf i).toNat)
  case atStart => exact ⟨0, 0, Nat.zero_le _, by decide, by decide, by decide, rfl, rfl, T3, B3⟩
  case round =>
    obtain ⟨k, lk, hk1, hk2, hl0, hl1, rfl, rfl, HT, HB⟩ := hrel
    by_cases hlt : k < len
    · by_cases h60 : k < 60
      · obtain ⟨b, off, rfl, hbl, hcell⟩ : ∃ b off, a = some ⟨b, off, none⟩ ∧ b < w.heap.size ∧ ∀ i, i < len → w.cell? ⟨b, off + i, none⟩ = some (.int .i64 (l[i]?.getD 0)) := by
          obtain ⟨h1, h2 | h2⟩ := HR.out
          · subst h2; simp at h1; omega
          · exact h2
        obtain ⟨x, hx⟩ : ∃ x, l[k]?.getD 0 = x := ⟨_, rfl⟩
        have hc0 : w.cell? ⟨b, off + k, none⟩ = some (.int .i64 x) := by rw [← hx]; exact hcell k hlt
        have c0 : wr.cell? ⟨b, off + k, none⟩ = some (.int .i64 x) := (HB.out.cell (p := ⟨b, off + k, none⟩) hbl).trans hc0
        have hk0 : (0 : Int) ≤ (k : Int) := by omega
        have hkl : (k : Int) < (len : Int) := by omega
        have hk60 : (k : Int) < 60 := by omega
        have HBL := Lib.hid hbl
        have HC0 := Lib.hid hc0
        have w1e : IntKind.i64.wrap (-lk) = -lk := IntWalk.i64_in _ (by omega)
        have w2e : IntKind.i64.wrap (100 - lk) = 100 - lk := IntWalk.i64_in _ (by omega)
        clear hcell HR hbl hx hc0 T3 B3
        by_cases hin : -lk ≤ x ∧ x ≤ 100 - lk
        · obtain ⟨hi1, hi2⟩ := hin
          have w3e : IntKind.i64.wrap (lk + x) = lk + x := IntWalk.i64_in _ (by omega)
          have hn1 : ¬ x < -lk := by omega
          have hn2 : ¬ 100 - lk < x := by omega
          have W3 := Lib.hid w3e
          clear w3e
          go_wp2_with fail
          refine (link1_yes HT.out x hi1 hi2).mono ?_
          rintro e w5 ⟨rfl, t5, g5⟩
          have B5 : Hid (Below w.heap.size w w5) := HB.out.grown g5 HB.out.size (by rintro k hk; obtain rfl := Option.some.inj hk; exact Nat.le_trans HS1.out (HT.out.2.1.lt gs rfl).1)
          have T5 := Lib.hid t5
          have c5 : w5.cell? ⟨b, off + k, none⟩ = some (.int .i64 x) := (B5.out.cell (p := ⟨b, off + k, none⟩) HBL.out).trans HC0.out
          have w3e := W3.out
          clear t5 g5 c0
          go_wp2
          go_roundw
          case rel => exact ⟨k + 1, lk + x, by omega, by omega, by omega, by omega, rfl, by go_num, T5, B5⟩
          case measure => simp [intOf]; omega
        · have hor : x < -lk ∨ 100 - lk < x := by omega
          have HOR := Lib.hid hor
          clear hin hor
          go_wp2_with fail
          refine (link1_off HT.out x HOR.out).mono ?_
          rintro e w5 ⟨rfl, t5, g5⟩
          have B5 : Hid (Below w.heap.size w w5) := HB.out.grown g5 HB.out.size (by rintro k hk; obtain rfl := Option.some.inj hk; exact Nat.le_trans HS1.out (HT.out.2.1.lt gs rfl).1)
          have T5 := Lib.hid t5
          have c5 : w5.cell? ⟨b, off + k, none⟩ = some (.int .i64 x) := (B5.out.cell (p := ⟨b, off + k, none⟩) HBL.out).trans HC0.out
          clear t5 g5 c0
          by_cases hn1 : x < -lk
          · go_wp2
            go_roundw
            case rel => exact ⟨k + 1, lk, by omega, by omega, by omega, by omega, rfl, by go_num, T5, B5⟩
            case measure => simp [intOf]; omega
          · have hn2 : 100 - lk < x := by have := HOR.out; omega
            go_wp2
            go_roundw
            case rel => exact ⟨k + 1, lk, by omega, by omega, by omega, by omega, rfl, by go_num, T5, B5⟩
            case measure => simp [intOf]; omega
      · have hge : ¬ ((k : Int) < 60) := by omega
        have hkl : (k : Int) < (len : Int) := by omega
        clear h60 hlt
        go_wp2_with fail
        refine (get1_is HT.out).mono ?_
        rintro e w5 ⟨rfl, b5⟩
        have T5 := Lib.hid (HT.out.below b5)
        have B5 := Lib.hid (below_next HB.out b5)
        clear b5
        go_wp2_with fail
        refine (count1_is (T5.out.below (below_box w5 (.cells #[.int .i64 0, .int .u32 1, .int .i64 lk, .int .i64 1] 29)))).mono ?_
        rintro e w6 ⟨rfl, b6⟩
        have B6 := Lib.hid (below_next (below_next B5.out (below_box w5 (.cells #[.int .i64 0, .int .u32 1, .int .i64 lk, .int .i64 1] 29))) b6)
        clear b6
        go_wp2
        go_ret
        exact ⟨rfl, B6.out⟩
    · have hge : ¬ ((k : Int) < (len : Int)) := by omega
      clear hlt
      go_wp2_with fail
      refine (get1_is HT.out).mono ?_
      rintro e w5 ⟨rfl, b5⟩
      have T5 := Lib.hid (HT.out.below b5)
      have B5 := Lib.hid (below_next HB.out b5)
      clear b5
      go_wp2_with fail
      refine (count1_is (T5.out.below (below_box w5 (.cells #[.int .i64 0, .int .u32 1, .int .i64 lk, .int .i64 1] 29)))).mono ?_
      rintro e w6 ⟨rfl, b6⟩
      have B6 := Lib.hid (below_next (below_next B5.out (below_box w5 (.cells #[.int .i64 0, .int .u32 1, .int .i64 lk, .int .i64 1] 29))) b6)
      clear b6
      go_wp2
      go_ret
      exact ⟨rfl, B6.out⟩
set_option maxRecDepth 100000 in
theorem imapLinks_lifted (os : Os) (started : os.Started) (H : Type) (enc : TypeId × Value → H) :
    ReturnsInHanded {} Try.checked os 12 .any (Rows.imapLinksSpec.pre6 enc Try.prog Try.f12 Rows.imapLinksRow.domain false) (Rows.imapLinksSpec.post enc Try.prog Try.f12 false true false false) :=
  law_lifted (s := Rows.imapLinksSpec) started Try.func12 (by kernel_rfl) rfl (fun ds hd => by
        match ds, hd with
        | [_], _ => rfl) rfl
      (of_decide_eq_true (by kernel_rfl))
      (ChangeSpec.witness6 (enc := enc) (C := Try.checked) false ⟨#[], #[.slice none 0 0], []⟩ 8 (by kernel_rfl) (by kernel_rfl) (by kernel_rfl) (by kernel_rfl))
      (fun W base args ds ps hval hA hsz => by
        rw [Try.params12] at hA hval hsz
        obtain ⟨v0, vs0, d0, ds0, p0, q0, hargs, rfl, rfl, h0, r0⟩ := trodAll_cons hA
        obtain ⟨rfl, rfl, rfl⟩ := trodAll_nil r0
        obtain rfl : args = #[v0] := by cases args; simp_all
        simp only [DataW.weightsEach, List.all_append, Bool.and_eq_true] at hsz
        obtain ⟨z0, _⟩ := hsz
        obtain ⟨a, len, cap, l, rfl, hr, hl, hc, _⟩ := open_nums (hval 0 69 v0 rfl rfl) h0 z0
        exact imapLinks_walk a len cap l W hr hl (by omega))

theorem imapLinks_holds : Rows.ImapLinksSaid :=
  OpenClaim.holds_of_wide 12 Try.f12 rfl rfl rfl rfl rfl rfl rfl ⟨rfl, rfl, rfl, rfl, rfl⟩ rfl rfl rfl rfl rfl (by kernel_rfl) Try.func12 (by kernel_rfl)
    (of_decide_eq_true (by kernel_rfl)) (by unfold Func.isWrapper; first | (rw [if_pos (by decide +kernel)]; kernel_rfl) | (rw [if_neg (by decide +kernel)]; exact ⟨rfl, rfl⟩))
    (fun os started H enc _ => imapLinks_lifted os started H enc)
#print axioms imapLinks_holds
end Go.Proofs.Ytnlbjpnhepdicaa
