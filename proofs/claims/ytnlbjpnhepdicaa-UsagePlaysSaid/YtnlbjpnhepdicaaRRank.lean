/- The document's Rank. -/
import Derived.Test.YtnlbjpnhepdicaaRank
import Derived.Test.YtnlbjpnhepdicaaSelMath
import Derived.Deep.LoopGhost
namespace Go.Proofs.Ytnlbjpnhepdicaa
open Go.RowKit Go.Sort
set_option linter.unusedVariables false
set_option linter.unusedSimpArgs false
set_option maxRecDepth 100000

def boolV (l : List Bool) : List Value := l.map Value.bool
theorem boolV_get {l : List Bool} {i : Nat} {b : Bool} (h : l[i]? = some b) : (boolV l)[i]? = some (.bool b) := by unfold boolV; rw [List.getElem?_map, h]; rfl
theorem boolV_length (l : List Bool) : (boolV l).length = l.length := by unfold boolV; rw [List.length_map]
theorem boolV_set (l : List Bool) (i : Nat) (b : Bool) : (boolV l).set i (.bool b) = boolV (l.set i b) := by unfold boolV; rw [List.map_set]
theorem info_bool : (Try.prog.info? 4).map (fun i => (i.zero, i.size, i.bytes)) = some (some (.bool false), 1, 1) := by kernel_rfl
theorem run_make_bools (n : Nat) (hn : n ≤ 100000) (w : World) :
    (Instr.makeSlice 168 (.int .i64 (n : Int)) (.int .i64 (n : Int))).run Try.prog w = .ok (.slice (some ⟨w.heap.size, 0, none⟩) n n) (w.alloc (.cells (boolV (List.replicate n false)).toArray 4)) := by
  obtain ⟨i0, hi, hz0, hz1, hz2⟩ := info_parts info_bool
  have hr := run_make (P := Try.prog) w 168 4 i0 (.bool false) Try.underlying168 hi hz0 .i64 .i64 n n (by omega) (by omega) (by rw [hz2]; omega) (by omega)
  simp only [Int.toNat_natCast, hz1, Value.cells] at hr
  have e : madeCells #[Value.bool false] (n * 1) = (boolV (List.replicate n false)).toArray := by
    apply Array.ext_getElem?
    intro k
    unfold madeCells boolV
    rw [Array.getElem?_map, Array.getElem?_range, List.getElem?_toArray, List.getElem?_map, List.getElem?_replicate, Nat.mul_one]
    by_cases hk : k < n
    · rw [if_pos hk, if_pos hk]
      simp only [Option.map_some]
      have : k % (#[Value.bool false] : Array Value).size = 0 := Nat.mod_one k
      rw [this]
      rfl
    · rw [if_neg hk, if_neg hk]; rfl
  rw [e] at hr
  exact hr
theorem made_bools (w : World) (n : Nat) (hn : n ≤ 100000) : OwnsV w.heap.size (w.alloc (.cells (boolV (List.replicate n false)).toArray 4)) 4 (.slice (some ⟨w.heap.size, 0, none⟩) n n) (boolV (List.replicate n false)) := by
  have h := OwnsV.new (w := w) (B := w.heap.size) (e := 4) (boolV (List.replicate n false)).toArray (Nat.le_refl _) (by rw [List.size_toArray, boolV_length, List.length_replicate]; unfold maxLen; omega)
  have e : (boolV (List.replicate n false)).toArray.size = n := by rw [List.size_toArray, boolV_length, List.length_replicate]
  rw [e] at h
  exact h
theorem OwnsV.apart2 {B : Nat} {w : World} {e e' : TypeId} {v v' : Value} {l l' : List Value} (h : OwnsV B w e v l) (h' : OwnsV B w e' v' l') (hne : e ≠ e') : v.ownBlock = none ∨ v.ownBlock ≠ v'.ownBlock := by
  rcases h.2 with ⟨rfl, _⟩ | ⟨g, cap, cur, rfl, _, hg, _⟩
  · left; rfl
  · right
    rcases h'.2 with ⟨rfl, _⟩ | ⟨g', cap', cur', rfl, _, hg', _⟩
    · intro h; cases h
    · intro h
      obtain rfl : g = g' := by simpa [Value.ownBlock] using h
      rw [hg] at hg'
      simp at hg'
      exact hne hg'.2
theorem none_of (b : Nat) (v : Bool) (h : nanB b = v) (w : World) : Calls Try.prog 98 #[.float .f64 b] w fun e w' => e = .returned (.bool v) ∧ w' = w := by
  have h' := isnan_of b
  rw [h] at h'
  clear h
  go_enter Try.func98, Try.ntmps98
  go_wp2
  go_ret
  exact ⟨rfl, rfl⟩
/-- What the document's loop comes to. -/
def rrankL (l : List Nat) : List Nat := selL (ltF l) l.length (List.range l.length)
theorem rank_same (l : List Nat) : rankL l = rrankL l := by
  have W : Weak (ltF l) (fun i => i < l.length) := by
    have key : ∀ a b, a < l.length → b < l.length → ltF l a b = lessB (l.getD a 0) (l.getD b 0) := by
      intro a b ha hb
      unfold ltF
      rw [List.getElem?_eq_getElem ha, List.getElem?_eq_getElem hb]
      simp [List.getD_eq_getElem?_getD, List.getElem?_eq_getElem ha, List.getElem?_eq_getElem hb]
    refine ⟨?_, ?_, ?_⟩
    · intro a ha
      rw [key a a ha ha]
      exact lessB_irr _
    · intro a b c ha hb hc h1 h2
      rw [key a b ha hb] at h1
      rw [key b c hb hc] at h2
      rw [key a c ha hc]
      exact lessB_tr _ _ _ h1 h2
    · intro a b c ha hb hc h1 h2
      rw [key a b ha hb] at h1
      rw [key b c hb hc] at h2
      rw [key a c ha hc]
      exact lessB_neg _ _ _ h1 h2
  exact sortL_selL W (fun x hx => List.mem_range.1 hx) List.pairwise_lt_range (by rw [List.length_range]; exact Nat.le_refl _)
theorem OwnsV.cell {B : Nat} {w : World} {e : TypeId} {g n c : Nat} {l : List Value} (h : OwnsV B w e (.slice (some ⟨g, 0, none⟩) n c) l) {i : Nat} {x : Value} (hx : l[i]? = some x) : w.cell? ⟨g, i, none⟩ = some x := by
  rcases h.head with ⟨e, _⟩ | ⟨g', cap, e, _, _, _, _, hc⟩
  · cases e
  · obtain ⟨e1, _, _⟩ := Value.slice.inj e
    obtain rfl : g = g' := by simpa using e1
    exact hc i x hx
theorem ReadsV.lit2 {w : World} {g : Nat} (cs : Array Value) (e : TypeId) (hg : w.heap.size = g) : ReadsV (w.alloc (.cells cs e)) (some ⟨g, 0, none⟩) cs.size cs.toList := by
  subst hg
  exact ReadsV.lit w cs e
def RRankPost (w : World) (l : List Nat) (e : Ending) (w' : World) : Prop := ∃ v, e = .returned v ∧ OwnsV w.heap.size w' 3 v (natV l) ∧ Below w.heap.size w w'
def allC (_ : Nat) : Bool := true
set_option maxHeartbeats 3000000 in
theorem rrank_is (l : List Nat) (a : Option Addr) (cap : Nat) (w : World) (hr : ReadsV w a l.length (fltsV l)) (hn : l.length ≤ 100000) :
    Calls Try.prog 37 #[.slice a l.length cap] w (RRankPost w (rrankL l)) := by
  have HR := Lib.hid hr
  obtain ⟨n, hnn⟩ : ∃ n, l.length = n := ⟨_, rfl⟩
  obtain ⟨M, hM⟩ : ∃ M, rrankL l = M := ⟨_, rfl⟩
  have hM0 : selL (ltF l) n (remL allC (List.replicate n false) n) = M := by
    rw [← hM, remL_none]
    unfold rrankL
    rw [hnn]
    congr 1
    exact List.filter_eq_self.2 (fun _ _ => rfl)
  have HM0 := Lib.hid hM0
  have hR0 : (remL allC (List.replicate n false) n).length = n := by
    rw [remL_none, show (List.range n).filter allC = List.range n from List.filter_eq_self.2 (fun _ _ => rfl), List.length_range]
  have HR0 := Lib.hid hR0
  rw [hM]
  rw [hnn] at hn ⊢
  have hmk := fun W => run_make_bools n hn W
  have hown := Lib.hid (made_bools w n hn)
  have HN := Lib.hid hnn
  have HIR : Hid ((List.replicate n false).length = n) := List.length_replicate
  clear hr hnn hM hM0 hR0
  obtain ⟨u0, hu0⟩ : ∃ u0, List.replicate n false = u0 := ⟨_, rfl⟩
  rw [hu0] at HM0 HR0 hown HIR
  simp only [hu0] at hmk
  clear hu0
  go_enter Try.func37, Try.ntmps37
  go_wp2
  go_loopg [3] n (fun gg v3 wr => ∃ (k : Nat) (acc : List Nat) (u : List Bool), k ≤ n ∧ n - k ≤ gg ∧ Hid (acc.length = k) ∧ Hid (u.length = n) ∧ Hid (OwnsV w.heap.size wr 3 v3 (natV acc)) ∧ Hid (OwnsV w.heap.size wr 4 (.slice (some ⟨w.heap.size, 0, none⟩) n n) (boolV u)) ∧ Hid (acc ++ selL (ltF l) (n - k) (remL allC u n) = M) ∧ Hid ((remL allC u n).length = n - k) ∧ Hid (Below w.heap.size w wr))
  case atStart => exact ⟨0, [], u0, Nat.zero_le _, by omega, rfl, HIR, OwnsV.nil _ _ _, hown.out, by show [] ++ selL _ _ _ = M; exact HM0.out, HR0, below_box _ _⟩
  case round =>
    obtain ⟨k, acc, u, hk, hg, HK, HU, HO, HB, HSel, HRem, HW⟩ := hrel
    obtain ⟨wo, rfl⟩ : ∃ wo : World, wo = wr := ⟨_, rfl⟩
    obtain ⟨gko, rfl⟩ : ∃ x, x = gk := ⟨_, rfl⟩
    by_cases hkn : k < n
    · have hHO := HO.out.reads
      obtain ⟨a3, c3, hv3, _, _, _⟩ := hHO
      rw [natV_length, HK.out] at hv3
      subst hv3
      have hx2 : (k : Int) < (n : Int) := by omega
      go_wp2
      go_loopg [5, 6] n (fun gg2 s5 s6 wj => ∃ i : Nat, i ≤ n ∧ n - i ≤ gg2 ∧ s6 = .int .i64 i ∧ s5 = .int .i64 (bestI (pickL (ltF l) (remL allC u i))) ∧ Hid (Below wo.heap.size wo wj))
      case atStart => exact ⟨0, Nat.zero_le _, by omega, rfl, rfl, Below.refl _ _⟩
      case round =>
        obtain ⟨i, hi, hg2, rfl, rfl, HJ⟩ := hrel
        by_cases hin : i < n
        · obtain ⟨ui, hui⟩ : ∃ x, u[i]? = some x := ⟨_, List.getElem?_eq_getElem (by rw [HU.out]; exact hin)⟩
          have cu := (HB.out.below HJ.out).cell (boolV_get hui)
          have hy1 : (0 : Int) ≤ (i : Int) := by omega
          have hy2 : (i : Int) < (n : Int) := by omega
          cases ui with
          | true =>
            have HS : Hid (bestI (pickL (ltF l) (remL allC u (i + 1))) = bestI (pickL (ltF l) (remL allC u i))) := pick_skip (by simp [List.getD_eq_getElem?_getD, hui])
            clear hui
            generalize bestI (pickL (ltF l) (remL allC u i)) = z at *
            go_wp2
            go_roundg (n - (i + 1))
            case measure => omega
            case rel => exact ⟨i + 1, by omega, by omega, by go_num, by rw [HS.out], HJ⟩
          | false =>
            have hcond : (allC i && !(u.getD i false)) = true := by simp [allC, List.getD_eq_getElem?_getD, hui]
            obtain ⟨x, hx⟩ : ∃ x, l[i]? = some x := ⟨_, List.getElem?_eq_getElem (by rw [HN.out]; exact hin)⟩
            obtain ⟨gl, ol, rfl, _, cx⟩ := (HR.out.below (below_next HW.out HJ.out)).at (fltsV_get hx)
            cases hp : pickL (ltF l) (remL allC u i) with
            | none =>
              have HS : Hid (bestI (pickL (ltF l) (remL allC u (i + 1))) = (i : Int)) := pick_first hp hcond
              have hb : decide ((-1 : Int) < 0) = true := by decide
              have hbn : bestI none = -1 := rfl
              rw [hbn]
              clear hui hcond hx hp hbn
              go_wp2_with fail
              go_quiet (fail)
              go_wp2
              go_roundg (n - (i + 1))
              case measure => omega
              case rel => exact ⟨i + 1, by omega, by omega, by go_num, by rw [HS.out], below_next HJ.out (below_drewN _ _)⟩
            | some b =>
              have hbs : bestI (some b) = (b : Int) := rfl
              rw [hbs]
              have hbi : b < i := (remL_mem (pickL_mem hp)).1
              obtain ⟨y, hy⟩ : ∃ y, l[b]? = some y := ⟨_, List.getElem?_eq_getElem (by rw [HN.out]; omega)⟩
              obtain ⟨gl', ol', e2, _, cy⟩ := (HR.out.below (below_next HW.out HJ.out)).at (fltsV_get hy)
              obtain ⟨rfl, rfl⟩ : gl = gl' ∧ ol = ol' := by simpa using e2
              have hb0 : ¬ (b : Int) < 0 := by omega
              have hb1 : decide ((b : Int) < 0) = false := decide_eq_false hb0
              have hb2 : (0 : Int) ≤ (b : Int) := by omega
              have hb3 : (b : Int) < (n : Int) := by omega
              have hlt : ltF l i b = lessB x y := by unfold ltF; rw [hx, hy]
              have hflt := lss_of x y
              cases hny : nanB y with
              | true =>
                cases hnx : nanB x with
                | false =>
                  have HS : Hid (bestI (pickL (ltF l) (remL allC u (i + 1))) = (i : Int)) := pick_better hp hcond (by rw [hlt]; unfold lessB; rw [hny, hnx]; simp)
                  have HY := Lib.hid hny
                  have HX := Lib.hid hnx
                  clear hui hcond hx hy hp hbs hlt hflt hny hnx e2 hbi
                  go_wp2_with fail
                  go_quiet ((first | (go_at_call 98; exact Calls.quiet_of_same (none_of y true HY.out _)) | (go_at_call 98; exact Calls.quiet_of_same (none_of x false HX.out _))))
                  go_wp2
                  go_roundg (n - (i + 1))
                  case measure => omega
                  case rel => exact ⟨i + 1, by omega, by omega, by go_num, by rw [HS.out], below_next HJ.out (below_drewN _ _)⟩
                | true =>
                  have hf : fltB x y = false := by unfold fltB; rw [hny, hnx]; rfl
                  rw [hf] at hflt
                  have HS : Hid (bestI (pickL (ltF l) (remL allC u (i + 1))) = (b : Int)) := pick_worse hp hcond (by rw [hlt]; unfold lessB; rw [hf, hny, hnx]; rfl)
                  have HY := Lib.hid hny
                  have HX := Lib.hid hnx
                  clear hui hcond hx hy hp hbs hlt hny hnx e2 hbi hf
                  go_wp2_with fail
                  go_quiet ((first | (go_at_call 98; exact Calls.quiet_of_same (none_of y true HY.out _)) | (go_at_call 98; exact Calls.quiet_of_same (none_of x true HX.out _))))
                  go_wp2
                  go_roundg (n - (i + 1))
                  case measure => omega
                  case rel => exact ⟨i + 1, by omega, by omega, by go_num, by rw [HS.out], below_next HJ.out (below_drewN _ _)⟩
              | false =>
                cases hf : fltB x y with
                | true =>
                  rw [hf] at hflt
                  have HS : Hid (bestI (pickL (ltF l) (remL allC u (i + 1))) = (i : Int)) := pick_better hp hcond (by rw [hlt]; unfold lessB; rw [hf]; rfl)
                  have HY := Lib.hid hny
                  clear hui hcond hx hy hp hbs hlt hny e2 hbi hf
                  go_wp2_with fail
                  go_quiet ((go_at_call 98; exact Calls.quiet_of_same (none_of y false HY.out _)))
                  go_wp2
                  go_roundg (n - (i + 1))
                  case measure => omega
                  case rel => exact ⟨i + 1, by omega, by omega, by go_num, by rw [HS.out], below_next HJ.out (below_drewN _ _)⟩
                | false =>
                  rw [hf] at hflt
                  have HS : Hid (bestI (pickL (ltF l) (remL allC u (i + 1))) = (b : Int)) := pick_worse hp hcond (by rw [hlt]; unfold lessB; rw [hf, hny]; rfl)
                  have HY := Lib.hid hny
                  clear hui hcond hx hy hp hbs hlt hny e2 hbi hf
                  go_wp2_with fail
                  go_quiet ((go_at_call 98; exact Calls.quiet_of_same (none_of y false HY.out _)))
                  go_wp2
                  go_roundg (n - (i + 1))
                  case measure => omega
                  case rel => exact ⟨i + 1, by omega, by omega, by go_num, by rw [HS.out], below_next HJ.out (below_drewN _ _)⟩
        · have hin2 : i = n := by omega
          subst hin2
          cases hp : pickL (ltF l) (remL allC u i) with
          | none =>
            exfalso
            have h1 := pickL_none hp
            have h2 := HRem.out
            rw [h1] at h2
            simp at h2
            omega
          | some b =>
            have hbs : bestI (some b) = (b : Int) := rfl
            rw [hbs]
            have hbi : b < i := (remL_mem (pickL_mem hp)).1
            obtain ⟨j, hj1, hj2, hj3⟩ := selL_next hp (k := i - k) (by rw [HRem.out]; exact Nat.le_refl _)
            have hj : j = i - (k + 1) := by omega
            subst hj
            have HSel2 : Hid ((acc ++ [b]) ++ selL (ltF l) (i - (k + 1)) (remL allC (u.set b true) i) = M) := by
              show _ = _
              rw [remL_set (by rw [HU.out]; exact Nat.le_refl _) hbi, ← HSel.out, hj2]
              simp
            have HRem2 : Hid ((remL allC (u.set b true) i).length = i - (k + 1)) := by
              show _ = _
              rw [remL_set (by rw [HU.out]; exact Nat.le_refl _) hbi, List.length_erase_of_mem (pickL_mem hp), HRem.out]
              omega
            have HK2 : Hid ((acc ++ [b]).length = k + 1) := by show _ = _; rw [List.length_append, HK.out]; rfl
            have HU2 : Hid ((u.set b true).length = i) := by show _ = _; rw [List.length_set, HU.out]
            have q1 := HB.out.below HJ.out
            have o1 := HO.out.below HJ.out
            have st := q1.stored (by rw [boolV_length, HU.out]) b (.bool true)
            rw [boolV_set] at st
            have hfr := q1.frozen (by rw [boolV_length, HU.out]) b
            obtain ⟨ub, hub⟩ : ∃ x, u[b]? = some x := ⟨_, List.getElem?_eq_getElem (by rw [HU.out]; exact hbi)⟩
            have hcb := q1.cell (boolV_get hub)
            clear hub
            have HST := Lib.hid st
            have O2 := Lib.hid (o1.kept st.2 (o1.apart2 q1 (by decide)))
            have W2 := Lib.hid (q1.grown (below_next HW.out HJ.out) (below_next HW.out HJ.out).size st.2)
            have hy1 : (0 : Int) ≤ (b : Int) := by omega
            have hy2 : (b : Int) < (i : Int) := by omega
            have hln : ¬ (b : Int) < 0 := by omega
            have HLn : Hid ((natV acc).length = k) := by show _ = _; rw [natV_length, HK.out]
            clear hp hbs hbi hj1 hj2 hj3 q1 o1 st
            go_wp2_with (at_builtin; refine wpList_append_vals rfl (.tmp 57) (.tmp 59) 69 rfl w.heap.size 3 (.int .i64 0) 8 Try.underlying69 info_int rfl _ (natV acc) rfl (O2.out.alloc _) _ 1 1 rfl _ (ReadsV.lit2 #[.int .i64 (b : Int)] 3 (by simp)) (by intro z hz; simp at hz; subst hz; rfl) (by rw [HLn.out]; omega) (by rw [HLn.out]; unfold maxLen; omega) (W2.out.alloc W2.out.size _).size ?_; intro v9 w9 ho9 hg9)
            go_roundg (i - (k + 1))
            case measure => omega
            case rel =>
              refine ⟨k + 1, acc ++ [b], u.set b true, by omega, Nat.le_refl _, HK2, HU2, ?_, ?_, HSel2, HRem2, ?_⟩
              · show OwnsV _ _ _ _ _
                rw [natV_append]
                exact ho9
              · exact ((HST.out.1).alloc (.cells #[.int .i64 (b : Int)] 3)).kept hg9 (((HST.out.1).alloc (.cells #[.int .i64 (b : Int)] 3)).apart2 (O2.out.alloc (.cells #[.int .i64 (b : Int)] 3)) (by decide))
              · exact (O2.out.alloc (.cells #[.int .i64 (b : Int)] 3)).grown (W2.out.alloc W2.out.size _) (W2.out.alloc W2.out.size _).size hg9
    · have hkn2 : k = n := by omega
      subst hkn2
      have HE : Hid (acc = M) := by
        have h1 := HSel.out
        rw [Nat.sub_self] at h1
        show acc = M
        rw [← h1]
        simp [selL]
      have hHO := HO.out.reads
      obtain ⟨a3, c3, hv3, _, _, _⟩ := hHO
      rw [natV_length, HK.out] at hv3
      subst hv3
      go_wp2
      go_ret
      refine ⟨_, rfl, ?_, HW.out⟩
      rw [← HE.out]
      exact HO.out
end Go.Proofs.Ytnlbjpnhepdicaa
