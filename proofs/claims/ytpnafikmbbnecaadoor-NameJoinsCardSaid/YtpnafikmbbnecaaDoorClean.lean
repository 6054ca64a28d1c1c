/- Parts in a list of their own, and without "..": the program's walks and the document's. -/
import Derived.Test.YtpnafikmbbnecaaDoorNameLaw
namespace Go.Proofs.YtpnafikmbbnecaaDoor
open Go.RowKit Go.Sort
set_option linter.unusedVariables false
set_option linter.unusedSimpArgs false
set_option maxRecDepth 100000

/-- One text more, by an append of a literal. -/
theorem app_one {w : World} {ops : Array Oper} {rest : List Oper} {o : Oper} {a : Act} {Q : Exit → Act → World → Prop} (hgd : o.guard = none) (s x : Operand)
    (ho : o.op = .call { callee := .builtin .append, args := #[s, x], argTypes := #[23, 23] }) (W : World) (v : Value) (L : List Bs) (hL : L.length ≤ 1000) (hs : a.eval s = v) (hB : Below W.heap.size W w) (hown : OwnsV W.heap.size w 9 v (strsV L))
    (p : Bs) (y : ByteArray) (hy : y.data.toList = p) (hx : a.eval x = .slice (some ⟨w.heap.size, 0, none⟩) 1 1)
    (h : ∀ v' w', OwnsV W.heap.size w' 9 v' (strsV (L ++ [p])) → Below W.heap.size W w' → wpList Tryd.prog ops Q rest (a.put o.dst v') w') : wpList Tryd.prog ops Q (o :: rest) a (w.alloc (.cells #[.string y] 9)) := by
  have hB2 : W.heap.size ≤ (w.alloc (.cells #[.string y] 9)).heap.size := by have := hB.size; simp; omega
  refine wpList_append_vals hgd s x 23 ho W.heap.size 9 _ 16 Tryd.underlying23 info_str rfl v (strsV L) hs (hown.alloc _) (some ⟨w.heap.size, 0, none⟩) 1 1 hx (strsV [p]) ?_ (strsV_one [p]) (by rw [strsV_length]; omega) (by unfold maxLen; rw [strsV_length]; omega) hB2 ?_
  · have h1 := ReadsV.lit w #[.string y] 9
    have e : (#[Value.string y] : Array Value).toList = strsV [p] := by rw [← strV_of y, hy]; rfl
    rw [e] at h1
    exact h1
  · intro v' w' h1 h2
    refine h v' w' ?_ ?_
    · rw [strsV_append]; exact h1
    · exact OwnsV.grown (hown.alloc _) (hB.alloc hB.size _) hB2 h2
/-- The last one away. -/
theorem owns_pop {B : Nat} {w : World} {e : TypeId} {a : Option Addr} {n cap : Nat} {l : List Value} {u : Value} (h : OwnsV B w e (.slice a n cap) (l ++ [u])) : OwnsV B w e (.slice a l.length cap) l := by
  rcases h.2 with ⟨h1, h2⟩ | ⟨g, cap', cur, h1, hb, hg, hc, hm, hsz, ht⟩
  · simp at h2
  · simp only [Value.slice.injEq] at h1
    obtain ⟨rfl, rfl, rfl⟩ := h1
    refine ⟨by omega, .inr ⟨g, cap, cur, rfl, hb, hg, by simp at hc; omega, hm, hsz, ?_⟩⟩
    rw [List.length_append, List.length_singleton] at ht
    have h3 : (cur.toList.take ((l.length + 1) * 1)).take (l.length * 1) = (l ++ [u]).take l.length := by rw [ht, Nat.mul_one]
    rw [List.take_take, List.take_left'  rfl] at h3
    have e : min (l.length * 1) ((l.length + 1) * 1) = l.length * 1 := by omega
    rw [e] at h3
    exact h3
def CleanPost (Q : List Bs) (w : World) (e : Ending) (w' : World) : Prop := ∃ v, e = .returned v ∧ OwnsV w.heap.size w' 9 v (strsV (cleanL Q)) ∧ Below w.heap.size w w'
theorem cleanL_take {Q : List Bs} {i : Nat} {p : Bs} (h : Q[i]? = some p) : cleanL (Q.take (i + 1)) = cleanS (cleanL (Q.take i)) p := by
  rw [List.take_add_one, h]; exact cleanL_snoc _ _
theorem cleanL_take_len (Q : List Bs) (i : Nat) : (cleanL (Q.take i)).length ≤ i := by
  have h1 := (cleanL_le (Q.take i)).2
  rw [List.length_take] at h1; omega
theorem split_last_len {L : List Bs} (h : 0 < L.length) : ∃ D p, L = D ++ [p] := last_split (fun e => by rw [e] at h; simp at h)

set_option maxHeartbeats 6400000 in
theorem pclean_is (ab di : Bool) (a : Option Addr) (cp : Nat) (Q : List Bs) (w : World) (hr : ReadsV w a Q.length (strsV Q)) (hq : Q.length ≤ 900) :
    Calls Tryd.prog 10 #[.agg #[.bool ab, .bool di, .slice a Q.length cp]] w (CleanPost Q w) := by
  have HR := Lib.hid (strs_get hr)
  obtain ⟨n, hn⟩ : ∃ n, Q.length = n := ⟨_, rfl⟩
  have HN := Lib.hid hn
  rw [hn] at hq ⊢
  have fin : ∀ (v : Value) (w' : World), OwnsV w.heap.size w' 9 v (strsV (cleanL Q)) → Below w.heap.size w w' → CleanPost Q w (.returned v) w' := fun v w' h1 h2 => ⟨v, rfl, h1, h2⟩
  have HF := Lib.hid fin
  clear hr hn fin
  go_enter Tryd.func10, Tryd.ntmps10
  go_wp2
  go_loopw [3, 9] (fun vl vi wr => ∃ (i : Nat) (v : Value), i ≤ n ∧ vi = .int .i64 i ∧ v = vl ∧ OwnsV w.heap.size wr 9 v (strsV (cleanL (Q.take i))) ∧ Below w.heap.size w wr) (fun _ vi _ => n - (intOf vi).toNat)
  case atStart => exact ⟨0, _, Nat.zero_le _, rfl, rfl, OwnsV.nil _ _ _, below_box w _⟩
  case round =>
    obtain ⟨i, v, hi, rfl, rfl, hO, hB⟩ := hrel
    have HO := Lib.hid hO
    have HB := Lib.hid hB
    by_cases hlt : i < n
    · obtain ⟨p, hp⟩ : ∃ p, Q[i]? = some p := ⟨_, List.getElem?_eq_getElem (by have := HN.out; omega)⟩
      obtain ⟨g, off, rfl, hg, hc⟩ := HR.out i p hp
      obtain ⟨y, hy⟩ : ∃ y : ByteArray, y = ⟨p.toArray⟩ := ⟨_, rfl⟩
      have hyl : y.data.toList = p := by rw [hy]
      have hcell : wr.cell? ⟨g, off + i, none⟩ = some (.string y) := by rw [hB.cell (p := ⟨g, off + i, none⟩) hg, hc, hy]; rfl
      have hgw := Nat.lt_of_lt_of_le hg hB.size
      have hyt := txt_tests hyl
      have hct := cleanL_take hp
      have hcl := cleanL_take_len Q i
      have hlt2 : (i : Int) < (n : Int) := by omega
      have HYL := Lib.hid hyl
      obtain ⟨L, hL⟩ : ∃ L, cleanL (Q.take i) = L := ⟨_, rfl⟩
      rw [hL] at HO hct hcl
      clear hO hB hp hc hy hyl hL
      by_cases hup : p = [46, 46]
      · have t1 : (y.toList != [46, 46]) = false := by rw [hyt, hup]; rfl
        have t2 : (y.toList == [46, 46]) = true := by rw [hyt, hup]; rfl
        have hcs : cleanS L p = L.dropLast := by unfold cleanS; rw [if_neg (fun h => h hup)]
        rw [hcs] at hct
        clear hcs hup hyt
        obtain ⟨b, cq, hv, _, hq1, hq2⟩ := HO.out.reads
        rw [strsV_length] at hv hq1
        subst hv
        by_cases hz : 0 < L.length
        · obtain ⟨D, q, hD⟩ := split_last_len hz
          have hz2 : (0 : Int) < (L.length : Int) := by omega
          obtain ⟨m, hm⟩ : ∃ m, D.length = m := ⟨_, rfl⟩
          have hLm : L.length = m + 1 := by rw [hD, List.length_append, hm]; rfl
          have hdl : L.dropLast = D := by rw [hD]; simp
          have hO2 := HO.out
          rw [hD, strsV_append] at hO2
          have hpop := owns_pop hO2
          rw [strsV_length, hm] at hpop
          have HP := Lib.hid hpop
          have HCT : Hid (cleanL (Q.take (i + 1)) = D) := hct.trans hdl
          rw [hLm] at hq1 hz2 ⊢
          have hm1 : m ≤ 900 := by omega
          obtain ⟨gb, hgb⟩ : ∃ gb, b = some ⟨gb, 0, none⟩ := by
            rcases HO.out.head with ⟨h1, h2⟩ | ⟨g', c', h1, _⟩
            · have := congrArg List.length h2
              rw [strsV_length, hLm] at this; simp at this
            · rw [strsV_length] at h1
              simp only [Value.slice.injEq] at h1
              exact ⟨g', h1.1⟩
          subst hgb
          clear hct hD hm hLm hdl hO2 hpop hz HO
          go_wp2
          go_roundw
          case rel => exact ⟨i + 1, _, by omega, by go_num, rfl, by rw [HCT.out]; exact HP.out, HB.out⟩
          case measure => simp [intOf]; omega
        · have hz2 : ¬ (0 : Int) < (L.length : Int) := by omega
          have hL0 : L = [] := List.length_eq_zero_iff.1 (by omega)
          have HCT : Hid (cleanL (Q.take (i + 1)) = L) := by show _ = _; rw [hct, hL0]; rfl
          clear hct hL0 hz
          go_wp2
          go_roundw
          case rel => exact ⟨i + 1, _, by omega, by go_num, rfl, by rw [HCT.out]; exact HO.out, HB.out⟩
          case measure => simp [intOf]; omega
      · have t1 : (y.toList != [46, 46]) = true := by rw [hyt]; simp [hup]
        have t2 : (y.toList == [46, 46]) = false := by rw [hyt]; simp [hup]
        have hcs : cleanS L p = L ++ [p] := by unfold cleanS; rw [if_pos hup]
        have HCT : Hid (cleanL (Q.take (i + 1)) = L ++ [p]) := hct.trans hcs
        clear hcs hup hyt hct
        go_wp2_with (at_builtin; refine app_one rfl _ _ rfl w v L (by omega) rfl HB.out HO.out p y HYL.out rfl ?_; intro v' w' h1' h2'; have O1 := Lib.hid h1'; have B1 := Lib.hid h2'; clear h1' h2')
        go_roundw
        case rel => exact ⟨i + 1, _, by omega, by go_num, rfl, by rw [HCT.out]; exact O1.out, B1.out⟩
        case measure => simp [intOf]; omega
    · have hge : ¬ ((i : Int) < (n : Int)) := by omega
      have hall : Q.take i = Q := List.take_of_length_le (by have := HN.out; omega)
      rw [hall] at HO
      clear hall hO hB
      go_wp2
      go_ret
      exact HF.out _ _ HO.out HB.out
end Go.Proofs.YtpnafikmbbnecaaDoor
