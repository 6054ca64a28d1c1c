/- Bytes, block by block: the program's walk and the document's. -/
import Derived.Test.YtcpbffmffoneeaaDoorAwake7
import Derived.Test.YtcpbffmffoneeaaDoorCutMath
import Derived.Lib.MinMax
namespace Go.Proofs.YtcpbffmffoneeaaDoor
open Go.RowKit Go.Sort
set_option linter.unusedVariables false
set_option linter.unusedSimpArgs false
set_option maxRecDepth 100000

def cutR (a e : Int) : List (List Int) := (cutL a e).map fun p => [p.1, p.2.1, p.2.2]
theorem cutR_len (a e : Int) : ∀ p ∈ cutR a e, p.length = 3 := by
  intro p hp; unfold cutR at hp; rw [List.mem_map] at hp; obtain ⟨q, _, rfl⟩ := hp; rfl
theorem cutR_length (a e : Int) : (cutR a e).length = cutN a e := by unfold cutR; rw [List.length_map, cutL_length]
theorem cutR_get {a e : Int} {j : Nat} (h : j < cutN a e) : (cutR a e)[j]? = some [(pieceP a e j).1, (pieceP a e j).2.1, (pieceP a e j).2.2] := by
  unfold cutR; rw [List.getElem?_map, cutL_get h]; rfl
def cutE (a n : Int) : Int := if a < 0 ∨ n < 0 then 1 else if 136192 < a + n then 12 else 0
def cutRows (a n : Int) : List (List Int) := if cutE a n = 0 then cutR a (a + n) else []
theorem cutE_neg {a n : Int} (h : a < 0 ∨ n < 0) : cutE a n = 1 := if_pos h
theorem cutE_big {a n : Int} (h0 : 0 ≤ a) (h1 : 0 ≤ n) (h : 136192 < a + n) : cutE a n = 12 := by unfold cutE; rw [if_neg (by omega), if_pos h]
theorem cutE_ok {a n : Int} (h0 : 0 ≤ a) (h1 : 0 ≤ n) (h : a + n ≤ 136192) : cutE a n = 0 := by unfold cutE; rw [if_neg (by omega), if_neg (by omega)]
theorem cutRows_none {a n : Int} (h : cutE a n ≠ 0) : cutRows a n = [] := if_neg h
theorem cutRows_ok {a n : Int} (h : cutE a n = 0) : cutRows a n = cutR a (a + n) := if_pos h
def CutPost (T : TypeId) (a n : Int) (w : World) (e : Ending) (w' : World) : Prop := ∃ v, e = .returned (.tuple #[v, .int .i64 (cutE a n)]) ∧ OwnsR w.heap.size w' T 3 v (cutRows a n) ∧ Below w.heap.size w w'
theorem info_piece : (Tryd.prog.info? 44).map (fun i => (i.zero, i.size, i.bytes)) = some (some (.agg #[.int .i64 0, .int .i64 0, .int .i64 0]), 3, 24) := by kernel_rfl
/-- Where the program stands behind j pieces. -/
def posI (a e : Int) (j : Nat) : Int := if j < cutN a e then cutA a j else e
theorem posI_in {a e : Int} {j : Nat} (h : j < cutN a e) : posI a e j = cutA a j := if_pos h
theorem posI_out {a e : Int} {j : Nat} (h : ¬ j < cutN a e) : posI a e j = e := if_neg h
theorem posI_zero {a e : Int} (h : a ≤ e) : posI a e 0 = a := by
  by_cases h0 : 0 < cutN a e
  · rw [posI_in h0]; rfl
  · rw [posI_out h0]
    unfold cutN at h0
    split at h0 <;> omega
theorem posI_step {a e : Int} (ha : 0 ≤ a) {j : Nat} (h : j < cutN a e) : cutA a j + (min 128 (cutA a j % 128 + e - cutA a j) - cutA a j % 128) = posI a e (j + 1) := by
  obtain ⟨h1, h2⟩ := cutA_step ha h
  by_cases hh : j + 1 < cutN a e
  · rw [posI_in hh]; exact h1 hh
  · rw [posI_out hh]; exact h2 (by omega)
theorem row_cell {w1 : World} (o : Obj) (cs : Array Value) (T : TypeId) (j : Nat) : ((w1.alloc o).alloc (.cells cs T)).cell? ⟨w1.heap.size + 1, j, none⟩ = cs[j]? := by
  have hh := heap_alloc_new (w1.alloc o) (.cells cs T)
  have hs2 : (w1.alloc o).heap.size = w1.heap.size + 1 := by simp
  rw [hs2] at hh
  unfold World.cell?
  rw [hh]
  rfl

set_option maxHeartbeats 3200000 in
theorem pcut_is (a n : Int) (w : World) (ha : I64 a) (hn : I64 n) : Calls Tryd.prog 9 #[.int .i64 a, .int .i64 n] w (CutPost 44 a n w) := by
  have fin : ∀ (v : Value) (w' : World) (x : Int), cutE a n = x → OwnsR w.heap.size w' 44 3 v (cutRows a n) → Below w.heap.size w w' → CutPost 44 a n w (.returned (.tuple #[v, .int .i64 x])) w' := fun v w' x h0 h1 h2 => ⟨v, by rw [h0], h1, h2⟩
  have HF := Lib.hid fin
  clear fin
  obtain ⟨a1, a2⟩ := ha
  obtain ⟨n1, n2⟩ := hn
  by_cases h1 : a < 0
  · have E := Lib.hid (cutE_neg (a := a) (n := n) (.inl h1))
    go_enter Tryd.func9, Tryd.ntmps9
    go_wp2
    go_ret2
    exact HF.out _ _ _ E.out (by rw [cutRows_none (by rw [E.out]; decide)]; exact OwnsR.nil _ _ _ _) (Below.refl _ _)
  · by_cases h2 : n < 0
    · have E := Lib.hid (cutE_neg (a := a) (n := n) (.inr h2))
      go_enter Tryd.func9, Tryd.ntmps9
      go_wp2
      go_ret2
      exact HF.out _ _ _ E.out (by rw [cutRows_none (by rw [E.out]; decide)]; exact OwnsR.nil _ _ _ _) (Below.refl _ _)
    · by_cases h3 : 136192 - n < a
      · have E := Lib.hid (cutE_big (a := a) (n := n) (by omega) (by omega) (by omega))
        go_enter Tryd.func9, Tryd.ntmps9
        go_wp2
        go_ret2
        exact HF.out _ _ _ E.out (by rw [cutRows_none (by rw [E.out]; decide)]; exact OwnsR.nil _ _ _ _) (Below.refl _ _)
      · have E := Lib.hid (cutE_ok (a := a) (n := n) (by omega) (by omega) (by omega))
        have ha0 : 0 ≤ a := by omega
        have hn0 : 0 ≤ n := by omega
        have hae : a + n ≤ 136192 := by omega
        obtain ⟨e, he⟩ : ∃ e, a + n = e := ⟨_, rfl⟩
        have ER : Hid (cutRows a n = cutR a e) := (cutRows_ok E.out).trans (by rw [he])
        have hpz := posI_zero (a := a) (e := e) (by omega)
        have HPZ := Lib.hid hpz
        have HN := Lib.hid (cutN_le (a := a) (e := e) ha0 (by omega))
        have hle : a ≤ e := by omega
        have he2 : e ≤ 136192 := by omega
        clear hpz
        go_enter Tryd.func9, Tryd.ntmps9
        go_wp2
        clear he
        go_loopw [0, 6] (fun p v wr => ∃ (j : Nat) (x : Value), j ≤ cutN a e ∧ p = .int .i64 (posI a e j) ∧ x = v ∧ OwnsR w.heap.size wr 44 3 x ((cutR a e).take j) ∧ Below w.heap.size w wr) (fun p _ _ => (e - intOf p).toNat)
        case atStart => exact ⟨0, _, Nat.zero_le _, by rw [HPZ.out], rfl, OwnsR.nil _ _ _ _, Below.refl _ _⟩
        case round =>
          obtain ⟨j, v, hj, rfl, rfl, hO, hB⟩ := hrel
          have HO := Lib.hid hO
          have HB := Lib.hid hB
          have HBS := Lib.hid hB.size
          clear hO hB
          by_cases hjn : j < cutN a e
          · rw [posI_in hjn]
            have hin := cutA_in ha0 hjn
            have hst := posI_step ha0 hjn
            have hpi := pieceP_is ha0 hjn
            have hget := cutR_get hjn
            rw [hpi] at hget
            obtain ⟨A, hA⟩ : ∃ A, cutA a j = A := ⟨_, rfl⟩
            rw [hA] at hin hst hget ⊢
            obtain ⟨i1, i2⟩ := hin
            have HST := Lib.hid hst
            have HGET := Lib.hid hget
            clear hst hget hpi hA
            have hA0 : 0 ≤ A := by omega
            have hA1 : A ≤ 136192 := by omega
            have hq0 : 0 ≤ A / 128 ∧ A / 128 ≤ 1064 := by omega
            have hlt2 : (((cutR a e).take j).length + [[A / 128, A % 128, min 128 (A % 128 + e - A)]].length) * 24 ≤ 140737488355328 := by
              have := HN.out
              rw [List.length_take, cutR_length]; simp; omega
            have hlt3 : ((cutR a e).take j).length + [[A / 128, A % 128, min 128 (A % 128 + e - A)]].length ≤ maxLen := by
              have := HN.out
              unfold maxLen
              rw [List.length_take, cutR_length]; simp; omega
            have O1 := Lib.hid hlt2
            have O2 := Lib.hid hlt3
            have hm3 : ∀ p ∈ [[A / 128, A % 128, min 128 (A % 128 + e - A)]], p.length = 3 := by simp
            have O3 := Lib.hid hm3
            have hcc : ∀ i u, (flatV [[A / 128, A % 128, min 128 (A % 128 + e - A)]])[i]? = some u → ((wr.alloc (.cells #[.int .i64 (A / 128), .int .i64 (A % 128), .int .i64 (min 128 (A % 128 + e - A))] 44)).alloc (.cells #[.int .i64 (A / 128), .int .i64 (A % 128), .int .i64 (min 128 (A % 128 + e - A))] 44)).cell? ⟨wr.heap.size + 1, i, none⟩ = some u := fun i u hu => (row_cell _ _ _ i).trans (by simpa [flatV] using hu)
            have O4 := Lib.hid hcc
            have O5 : Hid (OwnsR w.heap.size ((wr.alloc (.cells #[.int .i64 (A / 128), .int .i64 (A % 128), .int .i64 (min 128 (A % 128 + e - A))] 44)).alloc (.cells #[.int .i64 (A / 128), .int .i64 (A % 128), .int .i64 (min 128 (A % 128 + e - A))] 44)) 44 3 v ((cutR a e).take j)) := (HO.out.alloc _).alloc _
            have O6 : Hid (w.heap.size ≤ ((wr.alloc (.cells #[.int .i64 (A / 128), .int .i64 (A % 128), .int .i64 (min 128 (A % 128 + e - A))] 44)).alloc (.cells #[.int .i64 (A / 128), .int .i64 (A % 128), .int .i64 (min 128 (A % 128 + e - A))] 44)).heap.size) := by
              have := HBS.out
              show _ ≤ _; simp; omega
            have O7 : Hid ((cutR a e).take (j + 1) = (cutR a e).take j ++ [[A / 128, A % 128, min 128 (A % 128 + e - A)]]) := by
              show _ = _
              rw [List.take_add_one, HGET.out]; rfl
            have hpos : posI a e (j + 1) ≤ e ∧ A < posI a e (j + 1) := by
              have := HST.out
              omega
            obtain ⟨hp1, hp2⟩ := hpos
            have hvb : ∀ k, v.ownBlock = some k → w.heap.size ≤ k ∧ k < wr.heap.size := fun k hk => by
              rcases HO.out.head with ⟨rfl, _⟩ | ⟨g, cp, rfl, hg1, hg2, _⟩
              · simp [Value.ownBlock] at hk
              · have e : g = k := Option.some.inj hk
                omega
            have HV := Lib.hid hvb
            have HB2 : Hid (Below w.heap.size w ((wr.alloc (.cells #[.int .i64 (A / 128), .int .i64 (A % 128), .int .i64 (min 128 (A % 128 + e - A))] 44)).alloc (.cells #[.int .i64 (A / 128), .int .i64 (A % 128), .int .i64 (min 128 (A % 128 + e - A))] 44))) := (HB.out.alloc HBS.out _).alloc (by have := HBS.out; simp; omega) _
            have hkk : ∀ w', World.grownBy ((wr.alloc (.cells #[.int .i64 (A / 128), .int .i64 (A % 128), .int .i64 (min 128 (A % 128 + e - A))] 44)).alloc (.cells #[.int .i64 (A / 128), .int .i64 (A % 128), .int .i64 (min 128 (A % 128 + e - A))] 44)) w' v.ownBlock → w'.cell? ⟨wr.heap.size, 1, none⟩ = some (.int .i64 (A % 128)) ∧ w'.cell? ⟨wr.heap.size, 2, none⟩ = some (.int .i64 (min 128 (A % 128 + e - A))) := fun w' hg => by
              have hne : some wr.heap.size ≠ v.ownBlock := fun hh => by have := hvb _ hh.symm; omega
              have hb := hg.block wr.heap.size (by simp; omega) hne
              have hb2 : w'.heap[wr.heap.size]? = some (.cells #[.int .i64 (A / 128), .int .i64 (A % 128), .int .i64 (min 128 (A % 128 + e - A))] 44 (0, 0)) := by
                rw [hb, Below.heap_alloc _ _ _ (by simp)]
                exact heap_alloc_new wr _
              constructor <;> (unfold World.cell?; rw [hb2]; rfl)
            have HKK := Lib.hid hkk
            clear hlt2 hlt3 hm3 hcc hvb HO hkk
            go_wp2_with (at_builtin; refine wpList_append_rows rfl _ _ _ rfl w.heap.size 44 _ 3 24 Tryd.underlying39 info_piece rfl (by decide) v ((cutR a e).take j) rfl O5.out (wr.heap.size + 1) 1 [[A / 128, A % 128, min 128 (A % 128 + e - A)]] O3.out rfl O4.out O1.out O2.out O6.out ?_; intro v' w' h1' h2'; have hkk := HKK.out w' h2'; obtain ⟨k0, k1⟩ := hkk)
            have O8 := Lib.hid h1'
            have HB3 : Hid (Below w.heap.size w w') := HB2.out.grown h2' O6.out (fun k hk => (HV.out k hk).1)
            clear h1' h2'
            go_wp2
            go_roundw
            case rel => exact ⟨j + 1, _, by omega, by rw [← HST.out], rfl, by rw [O7.out]; exact O8.out, HB3.out⟩
            case measure => simp [intOf]; rw [HST.out]; omega
          · rw [posI_out hjn]
            have hjj : j = cutN a e := by omega
            have ht : (cutR a e).take j = cutR a e := List.take_of_length_le (by rw [cutR_length]; omega)
            rw [ht] at HO
            clear ht hjj
            go_wp2
            go_ret2
            exact HF.out _ _ _ E.out (by rw [ER.out]; exact HO.out) HB.out
end Go.Proofs.YtcpbffmffoneeaaDoor
