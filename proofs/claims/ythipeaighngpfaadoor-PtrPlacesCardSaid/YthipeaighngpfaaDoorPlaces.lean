/- A place's index, by the program's walk; all places, by the document's. -/
import Derived.Test.YthipeaighngpfaaDoorAwake7
import Derived.Test.YthipeaighngpfaaDoorShares
namespace Go.Proofs.YthipeaighngpfaaDoor
open Go.RowKit Go.Sort
set_option linter.unusedVariables false
set_option linter.unusedSimpArgs false
set_option maxRecDepth 100000

/-- All places, one behind the other. -/
def allR : List (List Int) := (List.range 1064).map fun i : Nat => [ofL (i : Int), ofF (i : Int), ofS (i : Int)]
theorem allR_length : allR.length = 1064 := by unfold allR; simp
theorem allR_get {i : Nat} (h : i < 1064) : allR[i]? = some [ofL i, ofF i, ofS i] := by
  unfold allR; rw [List.getElem?_map, List.getElem?_range h]; rfl
theorem allR_take {i : Nat} (h : i < 1064) : allR.take (i + 1) = allR.take i ++ [[ofL i, ofF i, ofS i]] := by
  rw [List.take_add_one, allR_get h]; rfl
theorem allR_len3 : ∀ p ∈ allR, p.length = 3 := by
  intro p hp; unfold allR at hp; rw [List.mem_map] at hp; obtain ⟨i, _, rfl⟩ := hp; rfl
theorem info_rplace : (Tryd.prog.info? 26).map (fun i => (i.zero, i.size, i.bytes)) = some (some (.agg #[.int .i64 0, .int .i64 0, .int .i64 0]), 3, 24) := by kernel_rfl
theorem of_node {i : Nat} (h : i < 8) : [ofL i, ofF i, ofS i] = [0, 0, (i : Int)] := by
  have hb : isB (i : Int) = true := isB_iff.2 (by omega)
  unfold ofL ofF ofS; rw [hb]; simp only [if_true, if_pos (show (i : Int) < 8 by omega), if_pos (show (i : Int) < 40 by omega)]
theorem of_single {i : Nat} (h : i < 32) : [ofL ((8 + i : Nat) : Int), ofF ((8 + i : Nat) : Int), ofS ((8 + i : Nat) : Int)] = [1, 0, (i : Int)] := by
  have hb : isB ((8 + i : Nat) : Int) = true := isB_iff.2 (by omega)
  unfold ofL ofF ofS; rw [hb]; simp only [if_true, if_neg (show ¬ ((8 + i : Nat) : Int) < 8 by omega), if_pos (show ((8 + i : Nat) : Int) < 40 by omega)]
  have : ((8 + i : Nat) : Int) - 8 = i := by omega
  rw [this]
theorem of_leaf {k i : Nat} (hk : k < 32) (h : i < 32) : [ofL ((40 + k * 32 + i : Nat) : Int), ofF ((40 + k * 32 + i : Nat) : Int), ofS ((40 + k * 32 + i : Nat) : Int)] = [2, (k : Int), (i : Int)] := by
  have hb : isB ((40 + k * 32 + i : Nat) : Int) = true := isB_iff.2 (by omega)
  unfold ofL ofF ofS; rw [hb]; simp only [if_true, if_neg (show ¬ ((40 + k * 32 + i : Nat) : Int) < 8 by omega), if_neg (show ¬ ((40 + k * 32 + i : Nat) : Int) < 40 by omega)]
  have e1 : (((40 + k * 32 + i : Nat) : Int) - 40) / 32 = k := by omega
  have e2 : (((40 + k * 32 + i : Nat) : Int) - 40) % 32 = i := by omega
  rw [e1, e2]
/-- One row more, by an append. -/
theorem all_append {w : World} {ops : Array Oper} {rest : List Oper} {o : Oper} {a : Act} {Q : Exit → Act → World → Prop} (hgd : o.guard = none) (s x : Operand)
    (ho : o.op = .call { callee := .builtin .append, args := #[s, x], argTypes := #[37, 37] }) (W : World) (v : Value) (n : Nat) (hn : n < 1064) (hs : a.eval s = v) (hB : Below W.heap.size W w) (hown : OwnsR W.heap.size w 26 3 v (allR.take n))
    (p q r : Int) (hrow : [ofL n, ofF n, ofS n] = [p, q, r]) (hx : a.eval x = .slice (some ⟨w.heap.size, 0, none⟩) 1 1)
    (h : ∀ v' w', OwnsR W.heap.size w' 26 3 v' (allR.take (n + 1)) → Below W.heap.size W w' → wpList Tryd.prog ops Q rest (a.put o.dst v') w') : wpList Tryd.prog ops Q (o :: rest) a (w.alloc (.cells #[.int .i64 p, .int .i64 q, .int .i64 r] 26)) := by
  have hm3 : ∀ y ∈ [[p, q, r]], y.length = 3 := by simp
  have hl : (allR.take n).length = n := by rw [List.length_take, allR_length]; omega
  refine wpList_append_rows hgd s x 37 ho W.heap.size 26 _ 3 24 Tryd.underlying37 info_rplace rfl (by decide) v (allR.take n) hs (hown.alloc _) w.heap.size 1 [[p, q, r]] hm3 hx ?_ (by rw [hl]; simp; omega) (by rw [hl]; unfold maxLen; simp; omega) (by have := hB.size; simp; omega) ?_
  · intro j u hu
    unfold World.cell?
    rw [heap_alloc_new]
    simpa [flatV] using hu
  · intro v' w' h1 h2
    refine h v' w' ?_ ?_
    · rw [allR_take hn, hrow]; exact h1
    · refine (hB.alloc hB.size _).grown h2 (by have := hB.size; simp; omega) (fun k hk => ?_)
      rcases hown.head with ⟨rfl, _⟩ | ⟨g, cp, rfl, hg, _⟩
      · cases hk
      · have e : g = k := Option.some.inj hk
        omega

set_option maxHeartbeats 3200000 in
theorem rall_is (w : World) : Calls Tryd.prog 22 #[] w fun e w' => ∃ v, e = .returned v ∧ OwnsR w.heap.size w' 26 3 v allR ∧ Below w.heap.size w w' := by
  have fin : ∀ (v : Value) (w' : World), OwnsR w.heap.size w' 26 3 v allR → Below w.heap.size w w' → ∃ x, Ending.returned v = .returned x ∧ OwnsR w.heap.size w' 26 3 x allR ∧ Below w.heap.size w w' := fun v w' h1 h2 => ⟨v, rfl, h1, h2⟩
  have HF := Lib.hid fin
  clear fin
  have e1064 : allR.take 1064 = allR := List.take_of_length_le (by rw [allR_length]; exact Nat.le_refl _)
  have HE := Lib.hid e1064
  clear e1064
  go_enter Tryd.func22, Tryd.ntmps22
  go_wp2
  go_loopw [1, 2] (fun v i wr => ∃ (k : Nat) (x : Value), k ≤ 8 ∧ i = .int .i64 k ∧ x = v ∧ OwnsR w.heap.size wr 26 3 x (allR.take k) ∧ Below w.heap.size w wr) (fun _ i _ => 8 - (intOf i).toNat)
  case atStart => exact ⟨0, _, by omega, rfl, rfl, OwnsR.nil _ _ _ _, Below.refl _ _⟩
  case round =>
    obtain ⟨k, v, hk, rfl, rfl, hO, hB⟩ := hrel
    have HO := Lib.hid hO
    have HB := Lib.hid hB
    clear hO hB
    by_cases hlt : k < 8
    · have hlt2 : (k : Int) < 8 := by omega
      have HR := Lib.hid (of_node hlt)
      go_wp2_with (at_builtin; refine all_append rfl _ _ rfl w v k (by omega) rfl HB.out HO.out _ _ _ HR.out rfl ?_; intro v' w' h1 h2; have O1 := Lib.hid h1; have B1 := Lib.hid h2; clear h1 h2)
      go_roundw
      case rel => exact ⟨k + 1, _, by omega, by go_num, rfl, O1.out, B1.out⟩
      case measure => simp [intOf]; omega
    · have hk8 : k = 8 := by omega
      subst hk8
      clear hlt
      try rw [show ((8 : Nat) : Int) = 8 from rfl]
      try rw [show ((32 : Nat) : Int) = 32 from rfl]
      go_wp2
      go_loopw [1, 3] (fun v i wr => ∃ (k : Nat) (x : Value), k ≤ 32 ∧ i = .int .i64 k ∧ x = v ∧ OwnsR w.heap.size wr 26 3 x (allR.take (8 + k)) ∧ Below w.heap.size w wr) (fun _ i _ => 32 - (intOf i).toNat)
      case atStart => exact ⟨0, _, by omega, rfl, rfl, HO.out, HB.out⟩
      case round =>
        obtain ⟨k, v2, hk, rfl, rfl, hO, hB⟩ := hrel
        clear HO HB
        have HO := Lib.hid hO
        have HB := Lib.hid hB
        clear hO hB
        by_cases hlt : k < 32
        · have hlt2 : (k : Int) < 32 := by omega
          have HR := Lib.hid (of_single hlt)
          go_wp2_with (at_builtin; refine all_append rfl _ _ rfl w v2 (8 + k) (by omega) rfl HB.out HO.out _ _ _ HR.out rfl ?_; intro v' w' h1 h2; have O1 := Lib.hid h1; have B1 := Lib.hid h2; clear h1 h2)
          go_roundw
          case rel => exact ⟨k + 1, _, by omega, by go_num, rfl, O1.out, B1.out⟩
          case measure => simp [intOf]; omega
        · have hk8 : k = 32 := by omega
          subst hk8
          clear hlt
          try rw [show ((8 : Nat) : Int) = 8 from rfl]
          try rw [show ((32 : Nat) : Int) = 32 from rfl]
          go_wp2
          go_loopw [1, 4] (fun v i wr => ∃ (k : Nat) (x : Value), k ≤ 32 ∧ i = .int .i64 k ∧ x = v ∧ OwnsR w.heap.size wr 26 3 x (allR.take (40 + k * 32)) ∧ Below w.heap.size w wr) (fun _ i _ => 32 - (intOf i).toNat)
          case atStart => exact ⟨0, _, by omega, rfl, rfl, HO.out, HB.out⟩
          case round =>
            obtain ⟨k, v3, hk, rfl, rfl, hO, hB⟩ := hrel
            clear HO HB
            have HO := Lib.hid hO
            have HB := Lib.hid hB
            clear hO hB
            by_cases hlt : k < 32
            · have hlt2 : (k : Int) < 32 := by omega
              go_wp2
              go_loopw [1, 5] (fun v i wr => ∃ (j : Nat) (x : Value), j ≤ 32 ∧ i = .int .i64 j ∧ x = v ∧ OwnsR w.heap.size wr 26 3 x (allR.take (40 + k * 32 + j)) ∧ Below w.heap.size w wr) (fun _ i _ => 32 - (intOf i).toNat)
              case atStart => exact ⟨0, _, by omega, rfl, rfl, HO.out, HB.out⟩
              case round =>
                obtain ⟨j, v4, hj, rfl, rfl, hO, hB⟩ := hrel
                clear HO HB
                have HO := Lib.hid hO
                have HB := Lib.hid hB
                clear hO hB
                by_cases hjt : j < 32
                · have hjt2 : (j : Int) < 32 := by omega
                  have HR := Lib.hid (of_leaf hlt hjt)
                  go_wp2_with (at_builtin; refine all_append rfl _ _ rfl w v4 (40 + k * 32 + j) (by omega) rfl HB.out HO.out _ _ _ HR.out rfl ?_; intro v' w' h1 h2; have O1 := Lib.hid h1; have B1 := Lib.hid h2; clear h1 h2)
                  go_roundw
                  case rel => exact ⟨j + 1, _, by omega, by go_num, rfl, O1.out, B1.out⟩
                  case measure => simp [intOf]; omega
                · have hj8 : j = 32 := by omega
                  subst hj8
                  clear hjt
                  try rw [show ((32 : Nat) : Int) = 32 from rfl]
                  rw [show 40 + k * 32 + 32 = 40 + (k + 1) * 32 by omega] at HO
                  go_wp2
                  go_roundw
                  case rel => exact ⟨k + 1, _, by omega, by go_num, rfl, HO.out, HB.out⟩
                  case measure => simp [intOf]; omega
            · have hk8 : k = 32 := by omega
              subst hk8
              clear hlt
              try rw [show ((8 : Nat) : Int) = 8 from rfl]
              try rw [show ((32 : Nat) : Int) = 32 from rfl]
              go_wp2
              go_ret
              exact HF.out _ _ (by rw [← HE.out]; exact HO.out) HB.out

def idxI (l f s : Int) : Int := if isP l f s then indexI l f s else 0
def idxE (l f s : Int) : Int := if isP l f s then 0 else 1
theorem idx_yes {l f s : Int} (h : isP l f s) : idxI l f s = indexI l f s ∧ idxE l f s = 0 := ⟨if_pos h, if_pos h⟩
theorem idx_no {l f s : Int} (h : ¬ isP l f s) : idxI l f s = 0 ∧ idxE l f s = 1 := ⟨if_neg h, if_neg h⟩
def IdxPost (l f s : Int) (w : World) (e : Ending) (w' : World) : Prop := e = .returned (.tuple #[.int .i64 (idxI l f s), .int .i64 (idxE l f s)]) ∧ Below w.heap.size w w'
theorem wrap64_in (x : Int) : I64 (wrap64 x) := by unfold I64 wrap64; omega
/-- Not the place of the index that it comes to. -/
theorem not_made {l f s i : Int} (h : ¬ isP l f s) (hb : isB i = true) : ¬ (ofL i = l ∧ ofF i = f ∧ ofS i = s) := by
  rintro ⟨rfl, rfl, rfl⟩
  exact h (isP_of hb)
theorem run_neq_place_no {a b c x y z : Int} (h : ¬ (a = x ∧ b = y ∧ c = z)) (w : World) : (binOp .neq 31 (.agg #[.int .i64 a, .int .i64 b, .int .i64 c]) (.agg #[.int .i64 x, .int .i64 y, .int .i64 z])).run Tryd.prog w = .ok (.bool true) w := by
  go_simp
  by_cases h1 : a = x
  · subst h1
    by_cases h2 : b = y
    · subst h2
      have h3 : c ≠ z := fun e => h ⟨rfl, rfl, e⟩
      simp [h3]
    · simp [h2]
  · simp [h1]
theorem run_neq_place_yes (a b c : Int) (w : World) : (binOp .neq 31 (.agg #[.int .i64 a, .int .i64 b, .int .i64 c]) (.agg #[.int .i64 a, .int .i64 b, .int .i64 c])).run Tryd.prog w = .ok (.bool false) w := by
  go_simp
end Go.Proofs.YthipeaighngpfaaDoor
