/- What a file costs: the program's walk. -/
import Derived.Test.YtcpbffmffoneeaaDoorSeen
import Derived.Test.YtcpbffmffoneeaaDoorCostMath
import Derived.Test.YtcpbffmffoneeaaDoorOpenI
namespace Go.Proofs.YtcpbffmffoneeaaDoor
open Go.RowKit Go.Sort Go.Maps Go.ChangeMaps
set_option linter.unusedVariables false
set_option linter.unusedSimpArgs false
set_option maxRecDepth 100000

def askV (b : Nat) : Value := .func (.func 21) #[] #[.pointer (some ⟨b, 0, none⟩)]
theorem Asked.alloc {w : World} {b m n : Nat} {asked : List (Int × Int)} (h : Asked w b m n asked) (o : Obj) : Asked (w.alloc o) b m n asked := by
  obtain ⟨hb, hbm, D, hown, hIs, hat⟩ := h
  exact ⟨(Below.heap_alloc _ _ _ (Array.getElem?_eq_some_iff.1 hb).1).trans hb, hbm, D, hown.alloc o, hIs, hat⟩
theorem Asked.below {w w' : World} {b m n : Nat} {asked : List (Int × Int)} (h : Asked w b m n asked) (k : Below w.heap.size w w') : Asked w' b m n asked := by
  obtain ⟨hb, hbm, D, hown, hIs, hat⟩ := h
  have hlt := hown.lt
  obtain ⟨es, clock, hbk, F, hs, hD⟩ := hown
  exact ⟨(k.block b (Array.getElem?_eq_some_iff.1 hb).1).trans hb, hbm, D, ⟨es, clock, (k.block m hlt).trans hbk, F, hs, hD⟩, hIs, hat⟩
theorem Asked.lt {w : World} {b m n : Nat} {asked : List (Int × Int)} (h : Asked w b m n asked) : b < w.heap.size ∧ m < w.heap.size := ⟨(Array.getElem?_eq_some_iff.1 h.1).1, h.2.2.choose_spec.1.lt⟩

theorem repeats_is (w : World) : Calls Tryd.prog 11 #[] w fun e w' => e = .returned (askV (w.heap.size + 1)) ∧ Asked w' (w.heap.size + 1) w.heap.size 0 [] ∧ Below w.heap.size w w' := by
  have hmm := @run_makeMap Tryd.prog
  have h1 : (w.alloc (Obj.map #[] 0)).ownsMap Tryd.prog 52 (plainElem Tryd.prog 3) w.heap.size 0 (.map [] : DataW Unit) := World.ownsMap_made w _ _ _
  have hs : (w.alloc (Obj.map #[] 0)).heap.size = w.heap.size + 1 := by simp
  have h2 := heap_alloc_new (w.alloc (Obj.map #[] 0)) (.cells #[.map (some w.heap.size)] 61)
  rw [hs] at h2
  have hA : Asked ((w.alloc (Obj.map #[] 0)).alloc (.cells #[.map (some w.heap.size)] 61)) (w.heap.size + 1) w.heap.size 0 [] :=
    ⟨h2, by omega, .map [], h1.alloc _, isMap_empty, fun p hp => by simp [DataW.atKey]⟩
  have HA := Lib.hid hA
  clear hA h1 h2 hs
  go_enter Tryd.func11, Tryd.ntmps11
  go_wp2
  go_ret
  exact ⟨rfl, HA.out, (below_box w _).alloc (by simp) _⟩

def costOf (L : List (Int × Int)) : Nat := 1 + (onceN L).length
theorem costOf_snoc (L : List (Int × Int)) (p : Int × Int) : (memB p L = true → costOf (L ++ [p]) = costOf L) ∧ (memB p L = false → costOf (L ++ [p]) = costOf L + 1) := by
  unfold costOf memB
  rw [onceN_snoc, addN_length]
  constructor
  · intro h
    rw [if_pos (mem_onceN.2 (of_decide_eq_true h))]
    rfl
  · intro h
    rw [if_neg (fun hh => of_decide_eq_false h (mem_onceN.1 hh))]
    omega
theorem costOf_le (L : List (Int × Int)) : costOf L ≤ 1 + L.length := by
  unfold costOf onceN
  have h := (foldN_le L []).2
  simp only [List.length_nil, Nat.zero_add] at h
  omega
theorem below_grownC {B : Nat} {w w1 w2 : World} {m : Nat} (h : Below B w w1) (g : w1.grownBy w2 (some m)) (hB : B ≤ w1.heap.size) (hm : B ≤ m) : Below B w w2 := h.grown g hB (fun k hk => by cases hk; exact hm)
theorem grownBy_trans {w1 w2 w3 : World} {r : Option Nat} (h : w1.grownBy w2 r) (g : w2.grownBy w3 r) : w1.grownBy w3 r :=
  ⟨g.os.trans h.os, g.tape.trans h.tape, g.output.trans h.output, Nat.le_trans h.size g.size, fun k hk hr => (g.block k (Nat.lt_of_lt_of_le hk h.size) hr).trans (h.block k hk hr)⟩

theorem grownBy_refl (w : World) (r : Option Nat) : w.grownBy w r := ⟨rfl, rfl, rfl, Nat.le_refl _, fun _ _ _ => rfl⟩
/-- The needs, as they lie. -/
theorem need_row {B : Nat} {w : World} {v : Value} {x : Int} (h : OwnsR B w 52 2 v (needR x)) : ∃ v2 cp, v = .slice v2 (needL x).length cp ∧ ∀ q p, (needL x)[q]? = some p →
    ∃ g, v2 = some ⟨g, 0, none⟩ ∧ B ≤ g ∧ g < w.heap.size ∧ w.cell? ⟨g, q * 2, none⟩ = some (.int .i64 p.1) ∧ w.cell? ⟨g, q * 2 + 1, none⟩ = some (.int .i64 p.2) := by
  have hl := needR_length x
  rcases h.head with ⟨rfl, hnil⟩ | ⟨g, cp, rfl, hg1, hg2, hc1, hc2, hcells⟩
  · rw [hnil] at hl
    have hl2 : (needL x).length = 0 := by simpa using hl.symm
    refine ⟨none, 0, by rw [hl2], fun q p hq => ?_⟩
    have := (List.getElem?_eq_some_iff.1 hq).1
    omega
  · refine ⟨some ⟨g, 0, none⟩, cp, by rw [hl], fun q p hq => ⟨g, rfl, hg1, hg2, ?_, ?_⟩⟩
    · have hlt := (List.getElem?_eq_some_iff.1 hq).1
      have := hcells q 0 (by omega) (by omega)
      rw [needR_get hq] at this
      simpa using this
    · have hlt := (List.getElem?_eq_some_iff.1 hq).1
      have := hcells q 1 (by omega) (by omega)
      rw [needR_get hq] at this
      simpa using this

set_option maxHeartbeats 3200000 in
theorem cost_is (l : List Int) (a : Option Addr) (len cap : Nat) (w : World) (hw : BoundsAt w) (hr : ReadsI w a len l) (hwf : ∀ x ∈ l, I64 x) (hlen : len ≤ 100000000000000) :
    Calls Tryd.prog 4 #[.slice a len cap] w fun e w' => e = .returned (.int .i64 (costL l)) ∧ Below w.heap.size w w' := by
  have HW := Lib.hid hw
  have HR := Lib.hid hr
  have HF := Lib.hid hwf
  have hll := hr.1
  have HLL := Lib.hid hll
  clear hw hr hwf hll
  go_enter Tryd.func4, Tryd.ntmps4
  go_wp2_with fail
  refine (repeats_is w).mono ?_
  rintro e w1 ⟨rfl, a1, b1⟩
  have A1 := Lib.hid a1
  have B1 := Lib.hid b1
  clear a1 b1
  unfold askV
  go_wp2_with fail
  go_loopw [3, 12] (fun c i wr => ∃ k n : Nat, k ≤ len ∧ n ≤ 3 * k ∧ i = .int .i64 k ∧ c = .int .i64 (costOf ((l.take k).flatMap needL)) ∧ Asked wr (w.heap.size + 1) w.heap.size n ((l.take k).flatMap needL) ∧ ((l.take k).flatMap needL).length ≤ n ∧ Below w.heap.size w wr) (fun _ i _ => len - (intOf i).toNat)
  case atStart => exact ⟨0, 0, Nat.zero_le _, Nat.le_refl _, rfl, rfl, A1.out, Nat.le_refl _, B1.out⟩
  case round =>
    obtain ⟨k, n, hk, hn, rfl, rfl, hA, hfl, hB⟩ := hrel
    have HA := Lib.hid hA
    have HB := Lib.hid hB
    have HBS := Lib.hid hB.size
    obtain ⟨wo, rfl⟩ : ∃ wo : World, wo = wr := ⟨_, rfl⟩
    obtain ⟨L, hL⟩ : ∃ L, (l.take k).flatMap needL = L := ⟨_, rfl⟩
    rw [hL] at HA hfl
    rw [hL]
    have HL := Lib.hid hL
    clear hA hB hL
    by_cases hlt : k < len
    · obtain ⟨b, off, rfl, hbl, hcell⟩ : ∃ b off, a = some ⟨b, off, none⟩ ∧ b < w.heap.size ∧ ∀ i, i < len → w.cell? ⟨b, off + i, none⟩ = some (.int .i64 (l[i]?.getD 0)) := by
        obtain ⟨h1, h2 | h2⟩ := HR.out
        · subst h2; simp at h1; omega
        · exact h2
      obtain ⟨x, hx⟩ : ∃ x, l[k]?.getD 0 = x := ⟨_, rfl⟩
      have hxl : l[k]? = some x := by
        have hk2 : k < l.length := by have := HLL.out; omega
        rw [List.getElem?_eq_getElem hk2] at hx ⊢
        simpa using hx
      have hxI : I64 x := HF.out x (List.mem_of_getElem? hxl)
      have c0 : wo.cell? ⟨b, off + k, none⟩ = some (.int .i64 x) := by rw [← hx]; exact (HB.out.cell (p := ⟨b, off + k, none⟩) hbl).trans (hcell k hlt)
      have hkl : (0 : Int) ≤ (k : Int) ∧ (k : Int) < (len : Int) := by omega
      have HX := Lib.hid hxl
      have HBW : Hid (BoundsAt wo) := HW.out.below HB.out
      clear hcell hbl hx hxl
      obtain ⟨hkl1, hkl2⟩ := hkl
      go_wp2_with fail
      refine (needs_is x wo HBW.out hxI).mono ?_
      rintro e w2 ⟨v, rfl, o2, b2⟩
      have B2 := Lib.hid b2
      have A2 : Hid (Asked w2 (w.heap.size + 1) w.heap.size n L) := HA.out.below b2
      have HS2 := Lib.hid b2.size
      obtain ⟨N, hN⟩ : ∃ N, (needL x).length = N := ⟨_, rfl⟩
      have hN3 : N ≤ 3 := by have := needL_le x; omega
      obtain ⟨v2, cp, rfl, hcells⟩ := need_row o2
      rw [hN]
      have HCE := Lib.hid hcells
      have HNN := Lib.hid hN
      clear hcells hN o2 b2 A1 B1
      go_wp2_with fail
      go_loopw [3, 19] (fun c j wr => ∃ q : Nat, q ≤ N ∧ j = .int .i64 q ∧ c = .int .i64 (costOf (L ++ (needL x).take q)) ∧ Asked wr (w.heap.size + 1) w.heap.size (n + q) (L ++ (needL x).take q) ∧ w2.grownBy wr (some w.heap.size)) (fun _ j _ => N - (intOf j).toNat)
      case atStart => exact ⟨0, Nat.zero_le _, rfl, by simp, by simpa using A2.out, grownBy_refl _ _⟩
      case round =>
        obtain ⟨q, hq, rfl, rfl, hA, hG⟩ := hrel
        have HA3 := Lib.hid hA
        have HG := Lib.hid hG
        clear hA hG
        obtain ⟨wi, rfl⟩ : ∃ wi : World, wi = wr := ⟨_, rfl⟩
        by_cases hqn : q < N
        · obtain ⟨p, hp⟩ : ∃ p, (needL x)[q]? = some p := ⟨_, List.getElem?_eq_getElem (by have := HNN.out; omega)⟩
          obtain ⟨g, rfl, hg1, hg2, d0, d1⟩ := HCE.out q p hp
          have hsm := needL_small p (List.mem_of_getElem? hp)
          have hgm : g ≠ w.heap.size := by have := HBS.out; have := HA.out.lt.2; omega
          have d0' := (World.cell?_of_block (a := ⟨g, q * 2, none⟩) (HG.out.block g hg2 (fun e => hgm (Option.some.inj e)))).trans d0
          have d1' := (World.cell?_of_block (a := ⟨g, q * 2 + 1, none⟩) (HG.out.block g hg2 (fun e => hgm (Option.some.inj e)))).trans d1
          have htk : (needL x).take (q + 1) = (needL x).take q ++ [p] := by
            rw [List.take_add_one, hp]; rfl
          have HTK := Lib.hid htk
          have HSM := Lib.hid hsm
          have hqq : (q : Int) < (N : Int) := by omega
          have HAA : Hid (Asked (wi.alloc (.cells #[.int .i64 p.1, .int .i64 p.2] 52)) (w.heap.size + 1) w.heap.size (n + q) (L ++ (needL x).take q)) := HA3.out.alloc _
          have hlen2 : (L ++ (needL x).take q).length ≤ n + q := by rw [List.length_append, List.length_take]; omega
          have HL2 := Lib.hid hlen2
          have hgs : w2.grownBy (wi.alloc (.cells #[.int .i64 p.1, .int .i64 p.2] 52)) (some w.heap.size) := grownBy_trans HG.out (World.grownBy_alloc wi _ _)
          have HGS := Lib.hid hgs
          have hnq : n + q < 1000000000000000000 := by omega
          have hcle : costOf (L ++ (needL x).take q) < 1000000000000000000 := by have := costOf_le (L ++ (needL x).take q); omega
          have HST := Lib.hid (costOf_snoc (L ++ (needL x).take q) p)
          obtain ⟨co, hco⟩ : ∃ co, costOf (L ++ (needL x).take q) = co := ⟨_, rfl⟩
          rw [hco] at hcle HST ⊢
          obtain ⟨M, hM⟩ : ∃ M, L ++ (needL x).take q = M := ⟨_, rfl⟩
          rw [hM] at HAA HL2 HST
          have HM := Lib.hid hM
          clear hM hco hgs hlen2 htk hsm d0 d1 hp
          go_wp2_with fail
          refine (seen_is p HSM.out _ _ _ _ M HAA.out HL2.out hnq).mono ?_
          rintro e w5 ⟨rfl, a5, g5⟩
          have A5 := Lib.hid a5
          have G5 : Hid (w2.grownBy w5 (some w.heap.size)) := grownBy_trans HGS.out g5
          clear a5 g5
          cases hmb : memB p M with
          | true =>
            have e6 := HST.out.1 hmb
            have E6 := Lib.hid e6
            clear e6 hmb
            go_wp2
            go_roundw
            case rel =>
              refine ⟨q + 1, by omega, by go_num, ?_, ?_, G5.out⟩
              · rw [HTK.out, ← List.append_assoc, HM.out, E6.out]
              · rw [HTK.out, ← List.append_assoc, HM.out]; exact A5.out
            case measure => simp [intOf]; omega
          | false =>
            have e6 := HST.out.2 hmb
            have E6 := Lib.hid e6
            clear e6 hmb
            go_wp2
            go_roundw
            case rel =>
              refine ⟨q + 1, by omega, by go_num, ?_, ?_, G5.out⟩
              · rw [HTK.out, ← List.append_assoc, HM.out, E6.out]; go_num
              · rw [HTK.out, ← List.append_assoc, HM.out]; exact A5.out
            case measure => simp [intOf]; omega
        · have hge : ¬ ((q : Int) < (N : Int)) := by omega
          have hqe : (needL x).take q = needL x := List.take_of_length_le (by have := HNN.out; omega)
          have hfm : (l.take (k + 1)).flatMap needL = L ++ needL x := by
            rw [List.take_add_one, HX.out, List.flatMap_append, HL.out]; simp
          have HFM := Lib.hid hfm
          rw [hqe] at HA3 ⊢
          have hBw : Below w.heap.size w wi := below_grownC (B2.out.mono (Nat.le_refl _) |> fun h => HB.out.trans (h.mono HBS.out)) HG.out (by have := HBS.out; have := HS2.out; omega) (Nat.le_refl _)
          have HBW2 := Lib.hid hBw
          clear hBw hfm hqe
          go_wp2
          go_roundw
          case rel =>
            refine ⟨k + 1, n + q, by omega, by omega, by go_num, by rw [HFM.out], by rw [HFM.out]; exact HA3.out, ?_, HBW2.out⟩
            rw [HFM.out, List.length_append]
            have := HNN.out
            omega
          case measure => simp [intOf]; omega
    · have hge : ¬ ((k : Int) < (len : Int)) := by omega
      have hkk : k = len := by omega
      have he : costOf L = costL l := by
        rw [← HL.out, hkk, List.take_of_length_le (by have := HLL.out; omega)]; rfl
      have HE := Lib.hid he
      clear he hkk
      go_wp2
      go_ret
      refine ⟨?_, HB.out⟩
      rw [← HE.out]
      rfl
end Go.Proofs.YtcpbffmffoneeaaDoor
