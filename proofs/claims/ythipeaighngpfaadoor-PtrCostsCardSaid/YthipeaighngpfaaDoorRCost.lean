/- What a file costs, by the document's walk: which of all blocks there are; counted one behind the other. -/
import Derived.Test.YthipeaighngpfaaDoorCostMath
import Derived.Test.YthipeaighngpfaaDoorOpenI
import Derived.Test.YthipeaighngpfaaDoorVals
import Derived.Test.YthipeaighngpfaaDoorHush
namespace Go.Proofs.YthipeaighngpfaaDoor
open Go.RowKit Go.Sort
set_option linter.unusedVariables false
set_option linter.unusedSimpArgs false
set_option maxRecDepth 100000

/-- Which of all blocks stand among these. -/
def inL (l : List Int) (k : Nat) : Bool := decide ((k : Int) ∈ l)
def boolsV (S : Nat → Bool) : List Value := (List.range 1064).map fun k => .bool (S k)
theorem boolsV_length (S : Nat → Bool) : (boolsV S).length = 1064 := by unfold boolsV; simp
theorem boolsV_get (S : Nat → Bool) {k : Nat} (h : k < 1064) : (boolsV S)[k]? = some (.bool (S k)) := by unfold boolsV; rw [List.getElem?_map, List.getElem?_range h]; rfl
theorem boolsV_none : boolsV (inL []) = List.replicate 1064 (.bool false) := by
  apply List.ext_getElem?
  intro k
  by_cases h : k < 1064
  · rw [boolsV_get _ h, List.getElem?_replicate, if_pos h]; simp [inL]
  · rw [List.getElem?_eq_none (by rw [boolsV_length]; omega), List.getElem?_eq_none (by rw [List.length_replicate]; omega)]
theorem boolsV_more {l : List Int} {n : Nat} (h : n < 1064) : boolsV (inL (l ++ [(n : Int)])) = (boolsV (inL l)).set n (.bool true) := by
  apply List.ext_getElem?
  intro k
  rw [List.getElem?_set]
  by_cases hk : k < 1064
  · rw [boolsV_get _ hk]
    by_cases e : n = k
    · subst e; rw [if_pos rfl, if_pos (by rw [boolsV_length]; exact h)]; simp [inL]
    · rw [if_neg e, boolsV_get _ hk]
      unfold inL
      have : ¬ (k : Int) = (n : Int) := by omega
      simp [this]
  · rw [List.getElem?_eq_none (by rw [boolsV_length]; omega), if_neg (by omega), List.getElem?_eq_none (by rw [boolsV_length]; omega)]
theorem boolsV_same {l : List Int} {x : Int} (h : ¬ (0 ≤ x ∧ x < 1064)) : boolsV (inL (l ++ [x])) = boolsV (inL l) := by
  apply List.ext_getElem?
  intro k
  by_cases hk : k < 1064
  · rw [boolsV_get _ hk, boolsV_get _ hk]
    unfold inL
    have : ¬ (k : Int) = x := by omega
    simp [this]
  · rw [List.getElem?_eq_none (by rw [boolsV_length]; omega), List.getElem?_eq_none (by rw [boolsV_length]; omega)]
theorem cost_in (l : List Int) : costL (hasL (inL l) 1064) = costL l := by
  refine costL_same fun x hx => ?_
  have hb := isB_iff.1 hx
  rw [mem_hasL]
  constructor
  · rintro ⟨n, hn, h1, rfl⟩
    unfold inL at h1
    simpa using h1
  · intro h
    refine ⟨x.toNat, by omega, ?_, by omega⟩
    unfold inL
    have e : ((x.toNat : Nat) : Int) = x := by omega
    rw [e]; simpa using h
theorem info_bool : (Tryd.prog.info? 4).map (fun i => (i.zero, i.size, i.bytes)) = some (some (.bool false), 1, 1) := by kernel_rfl
theorem make_bools (w : World) : ∃ wz, (Instr.makeSlice 51 (.int .i64 1064) (.int .i64 1064)).run Tryd.prog w = .ok (.slice (some ⟨w.heap.size, 0, none⟩) 1064 1064) wz ∧
    OwnsV w.heap.size wz 4 (.slice (some ⟨w.heap.size, 0, none⟩) 1064 1064) (boolsV (inL [])) ∧ Below w.heap.size w wz := by
  obtain ⟨i0, hi, hz0, hz1, hz2⟩ := info_parts info_bool
  obtain ⟨wz, h1, h2, h3⟩ := run_make_full (P := Tryd.prog) w w.heap.size 51 4 i0 (.bool false) 1 Tryd.underlying51 hi hz0 hz1 .i64 .i64 1064 (by rw [hz2]; decide) (by decide) (Nat.le_refl _)
  refine ⟨wz, h1, ?_, (Below.refl _ _).grown h3 (Nat.le_refl _) (fun k hk => by cases hk)⟩
  unfold OwnsV
  rw [boolsV_length, boolsV_none]
  have e : (madeCells (Value.bool false).cells (1064 * 1)).toList = List.replicate 1064 (.bool false) := toList_madeCells_one (.bool false) 1064
  rw [e] at h2
  exact h2

set_option maxHeartbeats 3200000 in
theorem rhas_is (l : List Int) (a : Option Addr) (len cap : Nat) (w : World) (hr : ReadsI w a len l) (hlen : len ≤ 1000000) :
    Calls Tryd.prog 26 #[.slice a len cap] w fun e w' => ∃ v, e = .returned v ∧ OwnsV w.heap.size w' 4 v (boolsV (inL l)) ∧ Below w.heap.size w w' := by
  have fin : ∀ (v : Value) (w' : World), OwnsV w.heap.size w' 4 v (boolsV (inL l)) → Below w.heap.size w w' → ∃ x, Ending.returned v = .returned x ∧ OwnsV w.heap.size w' 4 x (boolsV (inL l)) ∧ Below w.heap.size w w' := fun v w' h1 h2 => ⟨v, rfl, h1, h2⟩
  have HF := Lib.hid fin
  have HR := Lib.hid hr
  have HLL := Lib.hid hr.1
  obtain ⟨wz, hz1, hz2, hz3⟩ := make_bools w
  have HZ2 := Lib.hid hz2
  have HZ3 := Lib.hid hz3
  clear fin hr hz2 hz3
  go_enter Tryd.func26, Tryd.ntmps26
  go_wp2
  clear hz1
  go_loopw [4] (fun i wr => ∃ k : Nat, k ≤ len ∧ i = .int .i64 k ∧ OwnsV w.heap.size wr 4 (.slice (some ⟨w.heap.size, 0, none⟩) 1064 1064) (boolsV (inL (l.take k))) ∧ Below w.heap.size w wr) (fun i _ => len - (intOf i).toNat)
  case atStart => exact ⟨0, Nat.zero_le _, rfl, HZ2.out, HZ3.out⟩
  case round =>
    obtain ⟨k, hk, rfl, hO, hB⟩ := hrel
    have HO := Lib.hid hO
    have HB := Lib.hid hB
    clear hO hB
    by_cases hlt : k < len
    · obtain ⟨hl1, hl2⟩ := HR.out
      rcases hl2 with rfl | ⟨b, off, rfl, hb, hc⟩
      · simp at hl1; omega
      have hcell := hc k hlt
      obtain ⟨x, hx⟩ : ∃ x, l[k]? = some x := ⟨_, List.getElem?_eq_getElem (by omega)⟩
      rw [hx] at hcell
      have hcell' : wr.cell? ⟨b, off + k, none⟩ = some (.int .i64 x) := (HB.out.cell (p := ⟨b, off + k, none⟩) hb).trans hcell
      have hb' := Nat.lt_of_lt_of_le hb HB.out.size
      have ht : l.take (k + 1) = l.take k ++ [x] := by rw [List.take_add_one, hx]; rfl
      have HT := Lib.hid ht
      clear hc hcell hl1 hx ht hb
      by_cases hx0 : 0 ≤ x ∧ x < 1064
      · obtain ⟨n, rfl⟩ : ∃ n : Nat, x = n := ⟨x.toNat, by omega⟩
        have hn : n < 1064 := by omega
        have hn2 : (n : Int) < 1064 := by omega
        have hst := HO.out.stored (boolsV_length _) n (.bool true)
        have HS := Lib.hid hst
        have hfz := HO.out.frozen (boolsV_length _) n
        have hcl : wr.cell? ⟨w.heap.size, n, none⟩ = some (.bool (inL (l.take k) n)) := by
          rcases HO.out.head with ⟨h1, h2⟩ | ⟨g, cp, h1, h2, h3, h4, h5, h6⟩
          · cases h1
          · cases h1
            exact h6 n _ (boolsV_get _ hn)
        have HM := Lib.hid (boolsV_more (l := l.take k) hn)
        have hsz : w.heap.size < wr.heap.size := by
          rcases HO.out.head with ⟨h1, h2⟩ | ⟨g, cp, h1, h2, h3, h4, h5, h6⟩
          · cases h1
          · cases h1; exact h3
        have HBN : Hid (Below w.heap.size w (wr.setCell ⟨w.heap.size, n, none⟩ (.bool true))) := HB.out.grown hst.2 HB.out.size (fun k hk => by cases hk; exact Nat.le_refl _)
        clear hst hx0
        go_wp2
        go_roundw
        case rel => exact ⟨k + 1, by omega, by go_num, by rw [HT.out, HM.out]; exact HS.out.1, HBN.out⟩
        case measure => simp [intOf]; omega
      · have HM := Lib.hid (boolsV_same (l := l.take k) hx0)
        by_cases hneg : x < 0
        · have hneg2 : ¬ 0 ≤ x := by omega
          clear hx0
          go_wp2
          go_roundw
          case rel => exact ⟨k + 1, by omega, by go_num, by rw [HT.out, HM.out]; exact HO.out, HB.out⟩
          case measure => simp [intOf]; omega
        · have hge : 0 ≤ x := by omega
          have hbig : ¬ x < 1064 := by omega
          clear hx0 hneg
          go_wp2
          go_roundw
          case rel => exact ⟨k + 1, by omega, by go_num, by rw [HT.out, HM.out]; exact HO.out, HB.out⟩
          case measure => simp [intOf]; omega
    · have hkk : k = len := by omega
      have ht : l.take k = l := List.take_of_length_le (by have := HLL.out; omega)
      have HT := Lib.hid ht
      clear hkk ht
      go_wp2
      go_ret
      exact HF.out _ _ (by rw [← HT.out]; exact HO.out) HB.out

theorem counts_n {S : Nat → Bool} {i n : Nat} {sg db : Bool} {lf : Int} (h : Counts S i n sg db lf) (hi : i ≤ 1064) : n ≤ 4000 ∧ -1 ≤ lf ∧ lf ≤ 31 := by
  refine ⟨?_, ?_⟩
  · have h1 := costL_le (hasL S i)
    have h2 : (hasL S i).length ≤ i := by
      unfold hasL
      rw [List.length_map]
      have := List.length_filter_le S (List.range i)
      rwa [List.length_range] at this
    have := h.n
    omega
  · rcases h.at_ with e | ⟨k, h1, h2, h3, h4⟩
    · omega
    · omega
set_option maxHeartbeats 6400000 in
theorem rcost_is (S : Nat → Bool) (a : Option Addr) (cap : Nat) (w : World) (hr : ReadsV w a 1064 (boolsV S)) :
    Calls Tryd.prog 25 #[.slice a 1064 cap] w fun e w' => e = .returned (.int .i64 (costL (hasL S 1064))) ∧ w = w' := by
  have fin : ∀ (n : Nat) (sg db : Bool) (lf : Int), Counts S 1064 n sg db lf → Ending.returned (.int .i64 n) = .returned (.int .i64 (costL (hasL S 1064))) ∧ w = w := fun n sg db lf h => ⟨by rw [h.n], rfl⟩
  have HF := Lib.hid fin
  obtain ⟨b, off, rfl, hb, hc⟩ : ∃ b off, a = some ⟨b, off, none⟩ ∧ b < w.heap.size ∧ ∀ k, k < 1064 → w.cell? ⟨b, off + k, none⟩ = some (.bool (S k)) := by
    obtain ⟨h1, h2 | ⟨b, off, h2, h3, h4⟩⟩ := hr
    · have := boolsV_length S
      rw [h2] at this; cases this
    · exact ⟨b, off, h2, h3, fun k hk => h4 k _ (boolsV_get S hk)⟩
  have HC := Lib.hid hc
  clear fin hr hc
  go_enter Tryd.func25, Tryd.ntmps25
  go_wp2
  go_loop [3, 4, 5, 6, 7] (fun vn vs vd vl vi => ∃ (i n : Nat) (sg db : Bool) (lf : Int), i ≤ 1064 ∧ vi = .int .i64 i ∧ vn = .int .i64 n ∧ vs = .bool sg ∧ vd = .bool db ∧ vl = .int .i64 lf ∧ Counts S i n sg db lf) (fun _ _ _ _ vi => 1064 - (intOf vi).toNat)
  case atStart => exact ⟨0, 1, false, false, -1, Nat.zero_le _, rfl, rfl, rfl, rfl, rfl, Counts.zero S⟩
  case round =>
    obtain ⟨i, n, sg, db, lf, hi, rfl, rfl, rfl, rfl, rfl, hC⟩ := hrel
    obtain ⟨hn, hl1, hl2⟩ := counts_n hC hi
    have HCC := Lib.hid hC
    by_cases hlt : i < 1064
    · have hlt2 : (i : Int) < 1064 := by omega
      have hcell := HC.out i hlt
      cases hS : S i with
      | false =>
        have HN := Lib.hid (hC.no hS)
        rw [hS] at hcell
        clear hC hS
        go_wp2
        go_round
        case rel => exact ⟨i + 1, n, sg, db, lf, by omega, by go_num, rfl, rfl, rfl, rfl, HN.out⟩
        case measure => simp [intOf]; omega
      | true =>
        obtain ⟨y1, y2, y3⟩ := hC.yes hS hlt
        rw [hS] at hcell
        clear hC hS
        by_cases h8 : i < 8
        · have HN := Lib.hid (y1 h8)
          have h8' : (i : Int) < 8 := by omega
          clear y1 y2 y3
          go_wp2
          go_round
          case rel => exact ⟨i + 1, n + 1, sg, db, lf, by omega, by go_num, by go_num, rfl, rfl, rfl, HN.out⟩
          case measure => simp [intOf]; omega
        · by_cases h40 : i < 40
          · have HN := Lib.hid (y2 (by omega) h40)
            have h8' : (8 : Int) ≤ i := by omega
            have h40' : (i : Int) < 40 := by omega
            clear y1 y2 y3
            cases sg with
            | true =>
              go_wp2
              go_round
              case rel => exact ⟨i + 1, n + 1, true, db, lf, by omega, by go_num, by go_num, rfl, rfl, rfl, by have := HN.out; simpa using this⟩
              case measure => simp [intOf]; omega
            | false =>
              go_wp2
              go_round
              case rel => exact ⟨i + 1, n + 1 + 1, true, db, lf, by omega, by go_num, by go_num, rfl, rfl, rfl, by have := HN.out; simpa using this⟩
              case measure => simp [intOf]; omega
          · have HN := Lib.hid (y3 (by omega))
            have h8' : (8 : Int) ≤ i := by omega
            have h40' : (40 : Int) ≤ i := by omega
            obtain ⟨q, hq⟩ : ∃ q, ((i : Int) - 40) / 32 = q := ⟨_, rfl⟩
            rw [hq] at HN
            clear y1 y2 y3 h8 h40
            by_cases hql : q = lf
            · subst hql
              cases db with
              | true =>
                go_wp2
                go_round
                case rel => exact ⟨i + 1, n + 1, sg, true, q, by omega, by go_num, by go_num, rfl, rfl, rfl, by have := HN.out; simpa using this⟩
                case measure => simp [intOf]; omega
              | false =>
                go_wp2
                go_round
                case rel => exact ⟨i + 1, n + 1 + 1, sg, true, q, by omega, by go_num, by go_num, rfl, rfl, rfl, by have := HN.out; simpa using this⟩
                case measure => simp [intOf]; omega
            · have hqb : (q != lf) = true := by simp [hql]
              cases db with
              | true =>
                go_wp2
                go_round
                case rel => exact ⟨i + 1, n + 1 + 1, sg, true, q, by omega, by go_num, by go_num, rfl, rfl, by rw [hq], by have := HN.out; simpa [hql] using this⟩
                case measure => simp [intOf]; omega
              | false =>
                go_wp2
                go_round
                case rel => exact ⟨i + 1, n + 1 + 1 + 1, sg, true, q, by omega, by go_num, by go_num, rfl, rfl, by rw [hq], by have := HN.out; simpa [hql] using this⟩
                case measure => simp [intOf]; omega
    · have hii : i = 1064 := by omega
      subst hii
      clear hC
      go_wp2
      go_ret
      exact ⟨(HF.out _ _ _ _ HCC.out).1, rfl⟩
end Go.Proofs.YthipeaighngpfaaDoor
