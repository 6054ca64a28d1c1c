/- The law UsageRanks is true for every input: any numbers, infinite ones and none, come in their order. No condition. -/
import Derived.Test.YtnlbjpnhepdicaaRRank
import Derived.Test.YtnlbjpnhepdicaaInts
import Derived.Test.YtnlbjpnhepdicaaAwake9
import Derived.Test.YtnlbjpnhepdicaaOpen
namespace Go.Proofs.Ytnlbjpnhepdicaa
open Go.ChangeShapes Go.WideShapes Go.ChangeAt Go.RowKit Go.Sort
set_option linter.unusedVariables false
set_option linter.unusedSimpArgs false
set_option maxRecDepth 100000

theorem run_frombits (n : Int) (w : World) : (callFunc 35 #[.int .u64 n]).run Try.prog w = .ok (.value (.float .f64 n.toNat)) w := by
  rw [run_callFunc_extern (e := Extern.MathFloatBits.float64frombits) Try.func35 (by kernel_rfl) (by kernel_rfl) (by kernel_rfl) (by kernel_rfl)]
  rfl
theorem info_float : (Try.prog.info? 79).map (fun i => (i.zero, i.size, i.bytes)) = some (some (.float .f64 0), 1, 8) := by kernel_rfl
theorem readsV_of_cells {w : World} {x : Addr} {k : IntKind} {zs : List Int} {len : Nat} (hl : len ≤ zs.length)
    (hc : ∀ i, i < zs.length → w.cell? (x.add i) = some (.int k (zs.getD i 0))) : ReadsV w (some x) len ((zs.take len).map (Value.int k)) := by
  refine ⟨by simp; omega, ?_⟩
  by_cases h0 : len = 0
  · left; simp [h0]
  · obtain ⟨b, off, spot⟩ := x
    have hc0 := hc 0 (by omega)
    have hspot : spot = none := by simpa [Addr.add] using World.cell?_spot hc0
    subst hspot
    refine .inr ⟨b, off, rfl, World.block_lt_of_cell? _ _ hc0, fun i u hi => ?_⟩
    have hadd : (⟨b, off, none⟩ : Addr).add i = ⟨b, off + i, none⟩ := by unfold Addr.add; split <;> simp_all
    have hlt := (List.getElem?_eq_some_iff.1 hi).1
    simp only [List.length_map, List.length_take] at hlt
    have h1 := hc i (by omega)
    rw [hadd] at h1
    rw [h1]
    rw [List.getElem?_map, List.getElem?_take, if_pos (by omega), List.getElem?_eq_getElem (by omega)] at hi
    rw [List.getD_eq_getElem?_getD, List.getElem?_eq_getElem (by omega)]
    simpa using hi
theorem open_u64s {H : Type} {enc : TypeId × Value → H} {W : World} {base : Nat} {v : Value} {d : DataW H} {ps : List MemPlace}
    (hok : Value.okWide Try.prog W .any base 77 v) (h : DataW.Trod enc Try.prog W 0 (fun _ => true) true 77 v d ps) :
    ∃ a len cap, ∃ l : List Int, v = .slice a len cap ∧ ReadsV W a len (l.map (Value.int .u64)) ∧ len ≤ cap := by
  obtain ⟨a0, len0, cap0, rfl⟩ := okWide_slice Try.underlying77 hok
  obtain ⟨fuel, hf⟩ := h
  rcases open_ints Try.underlying77 Try.underlying81 (by kernel_rfl) hf with ⟨hcs, _⟩ | ⟨x, l, c, zs, hcs, _, hl, hm, hz, hx, hcell, hwz⟩
  · simp [Value.cells] at hcs
    obtain ⟨rfl, rfl, rfl⟩ := hcs
    exact ⟨none, 0, 0, [], rfl, ⟨rfl, .inl rfl⟩, by omega⟩
  · simp [Value.cells] at hcs
    obtain ⟨rfl, rfl, rfl⟩ := hcs
    simp only [if_true] at hz
    obtain ⟨rfl, _⟩ := Prod.mk.inj hx
    exact ⟨_, _, _, _, rfl, readsV_of_cells (by omega) hcell, hl⟩
theorem fltsV_append (l m : List Nat) : fltsV (l ++ m) = fltsV l ++ fltsV m := by unfold fltsV; rw [List.map_append]
theorem fltsV_length (l : List Nat) : (fltsV l).length = l.length := by unfold fltsV; rw [List.length_map]
set_option maxHeartbeats 2000000 in
theorem usageRanks_walk (a : Option Addr) (len cap : Nat) (zs : List Int) (w : World) (hr : ReadsV w a len (zs.map (Value.int .u64))) : Calls Try.prog 8 #[.slice a len cap] w fun e w' => e = .returned (.bool true) ∧ Below w.heap.size w w' := by
  have HR := Lib.hid hr
  have hl : zs.length = len := by have := hr.1; rwa [List.length_map] at this
  have HL := Lib.hid hl
  have hfb := run_frombits
  obtain ⟨ns, hns⟩ : ∃ ns, (zs.take 30).map Int.toNat = ns := ⟨_, rfl⟩
  have HNS := Lib.hid hns
  have hnl : ns.length = min len 30 := by rw [← hns, List.length_map, List.length_take, hl, Nat.min_comm]
  obtain ⟨N, hN⟩ : ∃ N, min len 30 = N := ⟨_, rfl⟩
  rw [hN] at hnl
  have hN1 : N ≤ len := by omega
  have hN2 : N ≤ 30 := by omega
  have hN3 : N < len → N = 30 := by omega
  have HN3 := Lib.hid hN3
  have HNL := Lib.hid hnl
  have HRK := Lib.hid (rank_same ns)
  have HRL : Hid ((rankL ns).length = N) := by
    show _ = _
    rw [show rankL ns = sortL (ltF ns) (List.range ns.length) from rfl, sortL_length, List.length_range, hnl]
  clear hr hl hns hnl hN hN3
  go_enter Try.func8, Try.ntmps8
  go_wp2_with fail
  refine (awake9_true w).mono ?_
  rintro e w1 ⟨rfl, b1⟩
  have B1 := Lib.hid b1
  clear b1
  go_wp2
  go_loopw [3, 4] (fun v i wr => ∃ k : Nat, k ≤ N ∧ i = .int .i64 k ∧ Hid (OwnsV w1.heap.size wr 79 v (fltsV (ns.take k))) ∧ Hid (Below w1.heap.size w1 wr)) (fun _ i _ => N - (intOf i).toNat)
  case atStart => exact ⟨0, Nat.zero_le _, rfl, OwnsV.nil _ _ _, Below.refl _ _⟩
  case round =>
    obtain ⟨k, hk, rfl, HO, HB⟩ := hrel
    by_cases hlt : k < N
    · obtain ⟨z, hz⟩ : ∃ z, zs[k]? = some z := ⟨_, List.getElem?_eq_getElem (by rw [HL.out]; omega)⟩
      obtain ⟨g, off, rfl, _, cz⟩ := ((HR.out.below B1.out).below HB.out).at (i := k) (u := .int .u64 z) (by rw [List.getElem?_map, hz]; rfl)
      have hnk : ns[k]? = some z.toNat := by rw [← HNS.out, List.getElem?_map, List.getElem?_take, if_pos (by omega), hz]; rfl
      have HNext : Hid (fltsV (ns.take (k + 1)) = fltsV (ns.take k) ++ [.float .f64 z.toNat]) := by
        show _ = _
        rw [List.take_add_one, hnk, fltsV_append]
        rfl
      have HLen : Hid ((fltsV (ns.take k)).length ≤ 30) := by show _ ≤ _; rw [fltsV_length, List.length_take]; omega
      have hx1 : (0 : Int) ≤ (k : Int) := by omega
      have hx2 : (k : Int) < (len : Int) := by omega
      have hx3 : (k : Int) < 30 := by omega
      clear hz hnk
      go_wp2_with (at_builtin; refine wpList_append_vals rfl (.tmp 17) (.tmp 23) 78 rfl w1.heap.size 79 (.float .f64 0) 8 Try.underlying78 info_float rfl _ (fltsV (ns.take k)) rfl (HO.out.alloc _) _ 1 1 rfl _ (ReadsV.lit wr #[.float .f64 z.toNat] 79) (by intro y hy; simp at hy; subst hy; rfl) (by have := HLen.out; omega) (by have := HLen.out; unfold maxLen; omega) (HB.out.alloc HB.out.size _).size ?_; intro v9 w9 ho9 hg9)
      go_roundw
      case rel =>
        refine ⟨k + 1, by omega, by go_num, ?_, ?_⟩
        · show OwnsV _ _ _ _ _
          rw [HNext.out]
          exact ho9
        · exact (HO.out.alloc (.cells #[.float .f64 z.toNat] 79)).grown (HB.out.alloc HB.out.size _) (HB.out.alloc HB.out.size _).size hg9
      case measure => simp [intOf]; omega
    · have hkN : k = N := by omega
      subst hkN
      have hfull : ns.take k = ns := List.take_of_length_le (by rw [HNL.out]; exact Nat.le_refl _)
      have ho := HO.out
      rw [hfull] at ho
      obtain ⟨x, c, rfl, hx, hc, _⟩ := ho.reads
      rw [fltsV_length] at hx hc ⊢
      have HX := Lib.hid hx
      have hN30 : ns.length ≤ 100000 := by rw [HNL.out]; omega
      have HRANK := Lib.hid (fun W (hW : Below wr.heap.size wr W) => rank_is ns x c W (HX.out.below hW) hN30)
      have HRR := Lib.hid (fun W (hW : Below wr.heap.size wr W) => rrank_is ns x c W (HX.out.below hW) hN30)
      rw [HNL.out] at HRANK HRR ⊢
      have B0 := Lib.hid (below_next B1.out HB.out)
      clear hx hc ho hfull hN30 HO
      by_cases hkl : k < len
      · have hk30 : k = 30 := HN3.out hkl
        have t1 : (k : Int) < (len : Int) := by omega
        have t2 : ¬ (k : Int) < 30 := by omega
        have HK30 := Lib.hid hk30
        clear hk30
        go_wp2_with fail
        refine (HRANK.out _ (Below.refl _ _)).mono ?_
        rintro e w2 ⟨y, d, rfl, hy, hd, b2⟩
        have HY := Lib.hid hy
        have B2 := Lib.hid b2
        clear hy hd b2
        go_wp2_with fail
        refine (HRR.out _ B2.out).mono ?_
        rintro e w3 ⟨v3, rfl, ho3, b3⟩
        rw [← HRK.out] at ho3
        obtain ⟨y3, d3, rfl, hy3, _, _⟩ := ho3.reads
        have HY3 := Lib.hid hy3
        have B3 := Lib.hid b3
        clear hy3 ho3 b3
        have hml : (rankL ns).length ≤ 100000 := by rw [HRL.out]; omega
        have HI := Lib.hid (ints_same (rankL ns) y y3 d d3 w3 (HY.out.below B3.out) (by have := HY3.out; rw [natV_length] at this; exact this) hml)
        rw [natV_length]
        clear hml
        generalize rankL ns = M at *
        rw [HRL.out] at HI ⊢
        go_wp2_with fail
        refine HI.out.mono ?_
        rintro e w4 ⟨rfl, b4⟩
        go_wp2
        go_ret
        exact ⟨rfl, below_next (below_next (below_next B0.out B2.out) B3.out) b4⟩
      · have t1 : ¬ (k : Int) < (len : Int) := by omega
        go_wp2_with fail
        refine (HRANK.out _ (Below.refl _ _)).mono ?_
        rintro e w2 ⟨y, d, rfl, hy, hd, b2⟩
        have HY := Lib.hid hy
        have B2 := Lib.hid b2
        clear hy hd b2
        go_wp2_with fail
        refine (HRR.out _ B2.out).mono ?_
        rintro e w3 ⟨v3, rfl, ho3, b3⟩
        rw [← HRK.out] at ho3
        obtain ⟨y3, d3, rfl, hy3, _, _⟩ := ho3.reads
        have HY3 := Lib.hid hy3
        have B3 := Lib.hid b3
        clear hy3 ho3 b3
        have hml : (rankL ns).length ≤ 100000 := by rw [HRL.out]; omega
        have HI := Lib.hid (ints_same (rankL ns) y y3 d d3 w3 (HY.out.below B3.out) (by have := HY3.out; rw [natV_length] at this; exact this) hml)
        rw [natV_length]
        clear hml
        generalize rankL ns = M at *
        rw [HRL.out] at HI ⊢
        go_wp2_with fail
        refine HI.out.mono ?_
        rintro e w4 ⟨rfl, b4⟩
        go_wp2
        go_ret
        exact ⟨rfl, below_next (below_next (below_next B0.out B2.out) B3.out) b4⟩
set_option maxRecDepth 100000 in
theorem usageRanks_lifted (os : Os) (started : os.Started) (H : Type) (enc : TypeId × Value → H) :
    ReturnsInHanded {} Try.checked os 8 .any (Rows.usageRanksSpec.pre6 enc Try.prog Try.f8 Rows.usageRanksRow.domain false) (Rows.usageRanksSpec.post enc Try.prog Try.f8 false true false false) :=
  law_lifted (s := Rows.usageRanksSpec) started Try.func8 (by kernel_rfl) rfl (fun ds hd => by
        match ds, hd with
        | [_], _ => rfl) rfl
      (of_decide_eq_true (by kernel_rfl))
      (ChangeSpec.witness6 (enc := enc) (C := Try.checked) false ⟨#[], #[.slice none 0 0], []⟩ 8 (by kernel_rfl) (by kernel_rfl) (by kernel_rfl) (by kernel_rfl))
      (fun W base args ds ps hval hA hsz => by
        rw [Try.params8] at hA hval hsz
        obtain ⟨v0, vs0, d0, ds0, p0, q0, hargs, rfl, rfl, h0, r0⟩ := trodAll_cons hA
        obtain ⟨rfl, rfl, rfl⟩ := trodAll_nil r0
        obtain rfl : args = #[v0] := by cases args; simp_all
        simp only [DataW.weightsEach, List.all_append, Bool.and_eq_true] at hsz
        obtain ⟨z0, _⟩ := hsz
        obtain ⟨a, len, cap, l, rfl, hr, hc⟩ := open_u64s (hval 0 77 v0 rfl rfl) h0
        exact usageRanks_walk a len cap l W hr)

theorem usageRanks_holds : Rows.UsageRanksSaid :=
  OpenClaim.holds_of_wide 8 Try.f8 rfl rfl rfl rfl rfl rfl rfl ⟨rfl, rfl, rfl, rfl, rfl⟩ rfl rfl rfl rfl rfl (by kernel_rfl) Try.func8 (by kernel_rfl)
    (of_decide_eq_true (by kernel_rfl)) (by unfold Func.isWrapper; first | (rw [if_pos (by decide +kernel)]; kernel_rfl) | (rw [if_neg (by decide +kernel)]; exact ⟨rfl, rfl⟩))
    (fun os started H enc _ => usageRanks_lifted os started H enc)
#print axioms usageRanks_holds
end Go.Proofs.Ytnlbjpnhepdicaa
