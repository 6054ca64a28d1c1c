/- The law NumGets is true for every input: what num.Get reads of bytes is what the document's answer reads of them. No condition. -/
import Derived.Test.YtdcnmfkhalfjcaaNumD
import Derived.Test.YtdcnmfkhalfjcaaOpen
namespace Go.Proofs.Ytdcnmfkhalfjcaa
open Go.ChangeShapes Go.WideShapes Go.ChangeAt Go.RowKit
set_option linter.unusedVariables false

theorem numGets_walk (a : Option Addr) (len cap : Nat) (l : List Nat) (p q : Int) (w : World) (hr : Reads w a len l) (hl : len ≤ cap) (hc : cap ≤ 140737488351232) (hp : I64 p) (hq : I64 q) :
    Calls Try.prog 4 #[.slice a len cap, .int .i64 p, .int .i64 q] w fun e w' => e = .returned (.bool true) ∧ Below w.heap.size w w' := by
  have hm : len ≤ maxLen := by unfold maxLen; omega
  have hm' : cap ≤ maxLen := by unfold maxLen; omega
  have hr' : ∀ w', Below w.heap.size w w' → Reads w' a len l := fun w' hb => by
    obtain ⟨h1, h2, h3⟩ := hr
    refine ⟨h1, h2, ?_⟩
    rcases h3 with h3 | ⟨b, off, he, hbl, hcc⟩
    · exact .inl h3
    · exact .inr ⟨b, off, he, Nat.lt_of_lt_of_le hbl hb.size, fun i hi => by rw [hb.cell (p := ⟨b, off + i, none⟩) hbl]; exact hcc i hi⟩
  by_cases h : roomB len p q = true
  · obtain ⟨h1, h2, h3, h4⟩ := roomB_yes h
    obtain ⟨p, rfl⟩ := Int.eq_ofNat_of_zero_le h3
    obtain ⟨q, rfl⟩ := Int.eq_ofNat_of_zero_le (show 0 ≤ q by omega)
    go_enter Try.func4, Try.ntmps4
    go_wp2_with fail
    refine (awake_true _).mono ?_
    rintro e w' ⟨rfl, hb⟩
    go_wp2_with fail
    refine (get_yes _ _ _ _ _ _ _ (hr' w' hb) hm (by omega) (by omega) (by omega)).mono ?_
    rintro e w'' ⟨rfl, rfl⟩
    go_wp2_with fail
    refine (rget_yes _ _ _ _ _ _ _ (hr' w' hb) hl hm' (by omega) (by omega) (by omega)).mono ?_
    rintro e w'' ⟨rfl, rfl⟩
    go_wp2
    go_ret
    exact ⟨rfl, hb⟩
  · have h : roomB len p q = false := by simpa using h
    go_enter Try.func4, Try.ntmps4
    go_wp2_with fail
    refine (awake_true _).mono ?_
    rintro e w' ⟨rfl, hb⟩
    go_wp2_with fail
    refine (get_no _ _ _ _ _ _ hm hp hq h).mono ?_
    rintro e w'' ⟨rfl, rfl⟩
    go_wp2_with fail
    refine (rget_no _ _ _ _ _ _ hm hp hq h).mono ?_
    rintro e w'' ⟨rfl, rfl⟩
    go_wp2
    go_ret
    exact ⟨rfl, hb⟩

set_option maxRecDepth 100000 in
theorem numGets_lifted (os : Os) (started : os.Started) (H : Type) (enc : TypeId × Value → H) :
    ReturnsInHanded {} Try.checked os 4 .any (Rows.numGetsSpec.pre6 enc Try.prog Try.f4 Rows.numGetsRow.domain false) (Rows.numGetsSpec.post enc Try.prog Try.f4 false true false false) :=
  law_lifted (s := Rows.numGetsSpec) started Try.func4 (by kernel_rfl) rfl (fun ds hd => by
        match ds, hd with
        | [_, _, _], _ => rfl) rfl
      (of_decide_eq_true (by kernel_rfl))
      (ChangeSpec.witness6 (enc := enc) (C := Try.checked) false ⟨#[], #[.slice none 0 0, .int .i64 0, .int .i64 0], []⟩ 8 (by kernel_rfl) (by kernel_rfl) (by kernel_rfl) (by kernel_rfl))
      (fun W base args ds ps hval hA hsz => by
        rw [Try.params4] at hA hval hsz
        obtain ⟨v0, vs0, d0, ds0, p0, q0, hargs, rfl, rfl, h0, r0⟩ := trodAll_cons hA
        obtain ⟨v1, vs1, d1, ds1, p1, q1, rfl, rfl, rfl, h1, r1⟩ := trodAll_cons r0
        obtain ⟨v2, vs2, d2, ds2, p2, q2, rfl, rfl, rfl, h2, r2⟩ := trodAll_cons r1
        obtain ⟨rfl, rfl, rfl⟩ := trodAll_nil r2
        obtain rfl : args = #[v0, v1, v2] := by cases args; simp_all
        have z0 : (d0.weights Try.prog 22).all (· ≤ reachBytes) = true := by
          simp only [DataW.weightsEach, List.all_append, Bool.and_eq_true] at hsz
          exact hsz.1
        obtain ⟨a, len, cap, l, rfl, hr, hl, hc⟩ := open_bytes (hval 0 22 v0 rfl rfl) h0 z0
        obtain ⟨x1, rfl, rfl, rfl, w1⟩ := open_int Try.underlying3 (hval 1 3 v1 rfl rfl) h1
        obtain ⟨x2, rfl, rfl, rfl, w2⟩ := open_int Try.underlying3 (hval 2 3 v2 rfl rfl) h2
        exact numGets_walk a len cap l x1 x2 W hr hl hc (i64_of_wf w1) (i64_of_wf w2))

theorem numGets_holds : Rows.NumGetsSaid :=
  OpenClaim.holds_of_wide 4 Try.f4 rfl rfl rfl rfl rfl rfl rfl ⟨rfl, rfl, rfl, rfl, rfl⟩ rfl rfl rfl rfl rfl (by kernel_rfl) Try.func4 (by kernel_rfl)
    (of_decide_eq_true (by kernel_rfl)) (by unfold Func.isWrapper; first | (rw [if_pos (by decide +kernel)]; kernel_rfl) | (rw [if_neg (by decide +kernel)]; exact ⟨rfl, rfl⟩))
    (fun os started H enc _ => numGets_lifted os started H enc)
#print axioms numGets_holds
end Go.Proofs.Ytdcnmfkhalfjcaa
