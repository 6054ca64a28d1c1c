/- usage.merged: two lists in their order as one, whatever is asked. -/
import Derived.Test.YtgakidimipipeaaGcgcppfff
import Derived.Test.YtgakidimipipeaaGplgdgmee
import Derived.Laws.MakeOwn
import Derived.Deep.LoopGhost
import Derived.IntWalk
namespace Go.Proofs.Ytgakidimipipeaa
open Go.RowKit Go.Sort
set_option linter.unusedVariables false
set_option linter.unusedSimpArgs false
set_option maxRecDepth 100000

theorem take_while_hit {p : Nat → Bool} : ∀ {s : List Nat} {j : Nat} {b : Nat}, (∀ x ∈ s.take j, p x = true) → s[j]? = some b → p b = false → s.takeWhile p = s.take j ∧ s.dropWhile p = s.drop j
  | [], j, b, _, h, _ => by simp at h
  | x :: s, 0, b, _, h, hb => by
    obtain rfl : x = b := by simpa using h
    simp [List.takeWhile_cons, List.dropWhile_cons, hb]
  | x :: s, j + 1, b, h, hj, hb => by
    have hx : p x = true := h x (by simp)
    have ih := take_while_hit (p := p) (s := s) (j := j) (b := b) (fun y hy => h y (by simp [hy])) (by simpa using hj) hb
    simp [List.takeWhile_cons, List.dropWhile_cons, hx, ih.1, ih.2]
theorem take_while_all {p : Nat → Bool} : ∀ {s : List Nat}, (∀ x ∈ s, p x = true) → s.takeWhile p = s ∧ s.dropWhile p = []
  | [], _ => ⟨rfl, rfl⟩
  | x :: s, h => by
    have hx : p x = true := h x (by simp)
    have ih := take_while_all (p := p) (s := s) (fun y hy => h y (by simp [hy]))
    simp [List.takeWhile_cons, List.dropWhile_cons, hx, ih.1, ih.2]
theorem mergeL_hit {lt : Nat → Nat → Bool} {a : Nat} {f s : List Nat} {j b : Nat} (h : ∀ x ∈ s.take j, lt x a = true) (hj : s[j]? = some b) (hb : lt b a = false) : mergeL lt (a :: f) s = s.take j ++ [a] ++ mergeL lt f (s.drop j) := by
  have hh := take_while_hit (p := fun b => lt b a) h hj hb
  rw [mergeL, hh.1, hh.2]
  simp
theorem mergeL_all {lt : Nat → Nat → Bool} {a : Nat} {f s : List Nat} (h : ∀ x ∈ s, lt x a = true) : mergeL lt (a :: f) s = s ++ [a] ++ mergeL lt f [] := by
  have hh := take_while_all (p := fun b => lt b a) h
  rw [mergeL, hh.1, hh.2]
  simp
theorem natV_take (l : List Nat) (k : Nat) : natV (l.take k) = (natV l).take k := by unfold natV; rw [List.map_take]
theorem natV_get {l : List Nat} {k x : Nat} (h : l[k]? = some x) : (natV l)[k]? = some (.int .i64 (x : Int)) := by unfold natV; rw [List.getElem?_map, h]; rfl
theorem ReadsV.drop {w : World} {b off len : Nat} {l : List Value} (h : ReadsV w (some ⟨b, off, none⟩) len l) (j : Nat) : ReadsV w (some ⟨b, off + j, none⟩) (len - j) (l.drop j) := by
  obtain ⟨h1, h2⟩ := h
  refine ⟨by rw [List.length_drop, h1], ?_⟩
  rcases h2 with rfl | ⟨b', off', e, hb, hc⟩
  · left; simp
  · obtain ⟨rfl, rfl⟩ : b = b' ∧ off = off' := by simpa using e
    refine .inr ⟨_, _, rfl, hb, fun i u hi => ?_⟩
    rw [List.getElem?_drop] at hi
    have := hc (j + i) u hi
    rw [Nat.add_assoc]
    exact this
/-- What is asked of a function value that holds two numbers against each other. -/
def LessV (g : Nat) (lb : Array Value) (S : Nat → Prop) (lt : Nat → Nat → Bool) (w : World) : Prop :=
  ∀ (W : World) (a b : Nat), S a → S b → Below w.heap.size w W → Calls Try.prog g (#[.int .i64 (a : Int), .int .i64 (b : Int)] ++ lb) W fun e w' => e = .returned (.bool (lt a b)) ∧ Below W.heap.size W w'
theorem LessV.below {g : Nat} {lb : Array Value} {S : Nat → Prop} {lt : Nat → Nat → Bool} {w w' : World} (h : LessV g lb S lt w) (b : Below w.heap.size w w') : LessV g lb S lt w' := fun W x y hx hy hB => h W x y hx hy (b.trans (hB.mono b.size))
def MergePost (w : World) (l : List Nat) (e : Ending) (w' : World) : Prop := ∃ v, e = .returned v ∧ OwnsV w.heap.size w' 3 v (natV l) ∧ Below w.heap.size w w'
theorem made_ints (w : World) (n : Nat) (hn : n ≤ 100000) (cs : Array Value) (hcs : cs.size = n) : OwnsV w.heap.size (w.alloc (.cells cs 3)) 3 (.slice (some ⟨w.heap.size, 0, none⟩) 0 n) [] :=
  ⟨rfl, .inr ⟨w.heap.size, n, cs, rfl, Nat.le_refl _, heap_alloc_new w _, Nat.zero_le _, by unfold maxLen; omega, by omega, rfl⟩⟩
theorem run_make_ints (n : Nat) (hn : n ≤ 100000) (w : World) :
    (Instr.makeSlice 45 (.int .i64 0) (.int .i64 (n : Int))).run Try.prog w = .ok (.slice (some ⟨w.heap.size, 0, none⟩) 0 n) (w.alloc (.cells (madeCells #[.int .i64 0] (n * 1)) 3)) := by
  obtain ⟨i0, hi, hz0, hz1, hz2⟩ := info_parts info_int
  have hr := run_make (P := Try.prog) w 45 3 i0 (.int .i64 0) Try.underlying45 hi hz0 .i64 .i64 0 n (by omega) (by omega) (by rw [hz2]; omega) (by omega)
  simp only [Int.toNat_natCast, hz1, Value.cells] at hr
  exact hr
def Rest (lt : Nat → Nat → Bool) (f : List Nat) (k : Nat) (acc s M : List Nat) : Prop := acc ++ mergeL lt (f.drop k) s = M
set_option maxHeartbeats 3000000 in
theorem merged_is (f s : List Nat) (a1 a2 : Option Addr) (cap1 cap2 : Nat) (w : World) (r1 : ReadsV w a1 f.length (natV f)) (r2 : ReadsV w a2 s.length (natV s)) (hn : f.length + s.length ≤ 100000) (hc2 : s.length ≤ cap2) (S : Nat → Prop) (hf : ∀ x ∈ f, S x) (hs : ∀ x ∈ s, S x) (lt : Nat → Nat → Bool)
    (g : Nat) (lb : Array Value) (eg : ∀ args w, (callFunc g args).run Try.prog w = .ok (.enter g args) w) (hp : LessV g lb S lt w) :
    Calls Try.prog 117 #[.slice a1 f.length cap1, .slice a2 s.length cap2, .func (.func g) #[] lb] w (MergePost w (mergeL lt f s)) := by
  have R1 := Lib.hid r1
  have R2 := Lib.hid r2
  have HF := Lib.hid hf
  have HS := Lib.hid hs
  have HP := Lib.hid hp
  clear r1 r2 hf hs hp
  obtain ⟨n, hnn⟩ : ∃ n, f.length = n := ⟨_, rfl⟩
  obtain ⟨m, hmm⟩ : ∃ m, s.length = m := ⟨_, rfl⟩
  rw [hnn, hmm] at hn
  rw [hmm] at hc2
  rw [hnn, hmm]
  have HN := Lib.hid hnn
  have HM := Lib.hid hmm
  have hmk := fun W => run_make_ints (n + m) hn W
  have e1 : ((n : Int) + (m : Int)) = ((n + m : Nat) : Int) := by omega
  have hown := made_ints w (n + m) hn (madeCells #[.int .i64 0] ((n + m) * 1)) (by rw [size_madeCells, Nat.mul_one])
  obtain ⟨cs, hcs⟩ : ∃ cs, madeCells #[.int .i64 0] ((n + m) * 1) = cs := ⟨_, rfl⟩
  rw [hcs] at hown
  have HOWN := Lib.hid hown
  have hmk2 : ∀ W : World, (Instr.makeSlice 45 (.int .i64 0) (.int .i64 ((n : Int) + (m : Int)))).run Try.prog W = .ok (.slice (some ⟨W.heap.size, 0, none⟩) 0 (n + m)) (W.alloc (.cells cs 3)) := fun W => by rw [e1, ← hcs]; exact hmk W
  obtain ⟨M, hM⟩ : ∃ M, mergeL lt f s = M := ⟨_, rfl⟩
  rw [hM]
  have HR0 : Hid (Rest lt f 0 [] s M) := by show [] ++ mergeL lt (f.drop 0) s = M; simpa using hM
  have HML : Hid (M.length = n + m) := by show M.length = n + m; rw [← hM, (mergeL_perm lt f s).length_eq, List.length_append, hnn, hmm]
  clear hnn hmm hmk e1 hown hcs hM
  go_enter Try.func117, Try.ntmps117
  go_wp2
  go_step3
  go_wp2
  go_step3
  go_wp2
  go_loopg [1, 7, 20] n (fun gg v2 v7 i wr => ∃ (k m' c2 : Nat) (s' acc : List Nat) (a2 : Option Addr), k ≤ n ∧ n - k ≤ gg ∧ i = .int .i64 k ∧ v2 = .slice a2 m' c2 ∧ m' ≤ c2 ∧ Hid (s'.length = m') ∧ Hid (ReadsV w a2 m' (natV s')) ∧ Hid (OwnsV w.heap.size wr 3 v7 (natV acc)) ∧ Hid (Rest lt f k acc s' M) ∧ Hid (∀ x ∈ s', S x) ∧ Hid (Below w.heap.size w wr))
  case atStart => exact ⟨0, m, cap2, s, [], a2, Nat.zero_le _, by omega, rfl, rfl, hc2, HM, (by show ReadsV _ _ _ _; rw [← HM.out]; exact R2.out), HOWN.out, HR0, HS, below_box _ _⟩
  case round =>
    obtain ⟨k, m', c2, s', acc, b2, hk, hg, rfl, rfl, hc1', HM', R2', HO, HRS, HS', HB⟩ := hrel
    obtain ⟨wo, rfl⟩ : ∃ wo : World, wo = wr := ⟨_, rfl⟩
    obtain ⟨gko, rfl⟩ : ∃ x, x = gk := ⟨_, rfl⟩
    obtain ⟨v7, rfl⟩ : ∃ x, x = u7 := ⟨_, rfl⟩
    by_cases hlt : k < n
    · obtain ⟨a, ha⟩ : ∃ a, f[k]? = some a := ⟨_, List.getElem?_eq_getElem (by rw [HN.out]; exact hlt)⟩
      have HA := Lib.hid ha
      have HAS := Lib.hid (HF.out a (List.mem_of_getElem? ha))
      obtain ⟨g1, o1, rfl, hg1, hca⟩ := (R1.out.below HB.out).at (natV_get ha)
      have hx1 : (0 : Int) ≤ (k : Int) := by omega
      have hx2 : (k : Int) < (n : Int) := by omega
      have hmb : m' ≤ 100000 := by
        have h1 := congrArg List.length HRS.out
        rw [HML.out, List.length_append, (mergeL_perm lt _ _).length_eq, List.length_append, HM'.out] at h1
        omega
      clear ha hg1
      go_wp2
      go_loopg [1, 7, 26] m' (fun gg2 y1 y7 j wj => ∃ q : Nat, q ≤ m' ∧ m' - q ≤ gg2 ∧ j = .int .i64 q ∧ y1 = .slice b2 m' c2 ∧ y7 = v7 ∧ Hid (∀ x ∈ s'.take q, lt x a = true) ∧ Hid (Below wo.heap.size wo wj))
      case atStart => exact ⟨0, Nat.zero_le _, by omega, rfl, rfl, rfl, (by show ∀ x ∈ s'.take 0, _; simp), Below.refl _ _⟩
      case round =>
        obtain ⟨q, hq, hg2, rfl, rfl, rfl, HT, HJ⟩ := hrel
        have HAcc : Hid (acc ++ mergeL lt (a :: f.drop (k + 1)) s' = M) := by
          have h1 := HRS.out
          unfold Rest at h1
          rwa [List.drop_eq_getElem_cons (by rw [HN.out]; exact hlt), show f[k]'(by rw [HN.out]; exact hlt) = a from Option.some.inj ((List.getElem?_eq_getElem _).symm.trans HA.out)] at h1
        by_cases hqt : q < m'
        · obtain ⟨b, hb⟩ : ∃ b, s'[q]? = some b := ⟨_, List.getElem?_eq_getElem (by rw [HM'.out]; exact hqt)⟩
          have HBq := Lib.hid hb
          have HBS := Lib.hid (HS'.out b (List.mem_of_getElem? hb))
          obtain ⟨gb, ob, rfl, hgb, hcb⟩ := (R2'.out.below (below_next HB.out HJ.out)).at (natV_get hb)
          have hy1 : (0 : Int) ≤ (q : Int) := by omega
          have hy2 : (q : Int) < (m' : Int) := by omega
          have hcall := fun W hW => HP.out W b a HBS.out HAS.out hW
          clear hb hgb
          cases hl : lt b a with
          | true =>
            simp only [hl] at hcall
            have HT2 : Hid (∀ x ∈ s'.take (q + 1), lt x a = true) := by
              intro x hx
              rw [List.take_add_one, HBq.out] at hx
              rcases List.mem_append.1 hx with hx | hx
              · exact HT.out x hx
              · obtain rfl : x = b := by simpa using hx
                exact hl
            clear hl
            go_wp2_with (go_at_fn g; refine (hcall _ (below_next HB.out HJ.out)).mono ?_; rintro e w1 ⟨rfl, b1⟩)
            go_roundg (m' - (q + 1))
            case measure => omega
            case rel => exact ⟨q + 1, by omega, by omega, by go_num, rfl, rfl, HT2, below_next HJ.out b1⟩
          | false =>
            simp only [hl] at hcall
            have HNext : Hid (Rest lt f (k + 1) (acc ++ s'.take q ++ [a]) (s'.drop q) M) := by
              show _ ++ _ = M
              rw [← HAcc.out, mergeL_hit HT.out HBq.out hl]
              simp only [List.append_assoc]
            have HLen : Hid (acc.length + q + 1 ≤ n + m) := by
              have h1 := congrArg List.length HNext.out
              rw [HML.out, List.length_append, List.length_append, List.length_append, List.length_take, HM'.out] at h1
              show _ ≤ _
              simp only [List.length_cons, List.length_nil] at h1
              omega
            have hy3 : (q : Int) ≤ (c2 : Int) := by omega
            have hy4 : (q : Int) < (c2 : Int) := by omega
            have hy5 : (m' : Int) ≤ (c2 : Int) := by omega
            have hy6 : (q : Int) ≤ (m' : Int) := by omega
            clear hl
            go_wp2_with (first
              | (go_at_fn g; refine (hcall _ (below_next HB.out HJ.out)).mono ?_; rintro e w1 ⟨rfl, b1⟩)
              | (at_builtin; refine wpList_append_vals rfl (.tmp 36) (.tmp 39) 45 rfl w.heap.size 3 (.int .i64 0) 8 Try.underlying45 info_int rfl _ (natV acc) rfl ((HO.out.below HJ.out).below b1) _ q _ rfl ((natV s').take q) ((R2'.out.below (below_next (below_next HB.out HJ.out) b1)).take (by omega)) (by rw [← natV_take]; exact natV_one _) (by have := HLen.out; rw [natV_length]; omega) (by have := HLen.out; unfold maxLen; rw [natV_length]; omega) (below_next (below_next HB.out HJ.out) b1).size ?_; intro v8 w8 ho8 hg8; have b8 := ((HO.out.below HJ.out).below b1).grown (below_next (below_next HB.out HJ.out) b1) (below_next (below_next HB.out HJ.out) b1).size hg8)
              | (at_builtin; refine wpList_append_vals rfl (.tmp 40) (.tmp 42) 45 rfl w.heap.size 3 (.int .i64 0) 8 Try.underlying45 info_int rfl _ (natV acc ++ (natV s').take q) rfl (ho8.alloc _) _ 1 1 rfl _ (ReadsV.lit w8 #[.int .i64 (a : Int)] 3) (by intro y hy; simp at hy; subst hy; rfl) (by have := HLen.out; rw [List.length_append, List.length_take, natV_length]; omega) (by have := HLen.out; unfold maxLen; rw [List.length_append, List.length_take, natV_length]; omega) (b8.alloc b8.size _).size ?_; intro v9 w9 ho9 hg9))
            go_roundg (n - (k + 1))
            case measure => omega
            case rel =>
              refine ⟨k + 1, m' - q, c2 - q, s'.drop q, acc ++ s'.take q ++ [a], some ⟨gb, ob + q, none⟩, by omega, by omega, by go_num, rfl, by omega, ?_, ?_, ?_, HNext, ?_, ?_⟩
              · show (s'.drop q).length = m' - q
                rw [List.length_drop, HM'.out]
              · show ReadsV _ _ _ _
                have := R2'.out.drop q
                unfold natV at this ⊢
                rw [← List.map_drop] at this
                exact this
              · show OwnsV _ _ _ _ _
                rw [natV_append, natV_append, natV_take]
                exact ho9
              · show ∀ x ∈ s'.drop q, S x
                exact fun x hx => HS'.out x (List.mem_of_mem_drop hx)
              · exact (ho8.alloc _).grown (b8.alloc b8.size _) (b8.alloc b8.size _).size hg9
        · have hqm : q = m' := by omega
          subst hqm
          have HT2 : Hid (∀ x ∈ s', lt x a = true) := by
            have := HT.out
            rw [List.take_of_length_le (by rw [HM'.out]; exact Nat.le_refl _)] at this
            exact this
          have HNext : Hid (Rest lt f (k + 1) (acc ++ s' ++ [a]) [] M) := by
            show _ ++ _ = M
            rw [← HAcc.out, mergeL_all HT2.out]
            simp only [List.append_assoc]
          have HLen : Hid (acc.length + q + 1 ≤ n + m) := by
            have h1 := congrArg List.length HNext.out
            rw [HML.out, List.length_append, List.length_append, List.length_append, HM'.out] at h1
            show _ ≤ _
            simp only [List.length_cons, List.length_nil] at h1
            omega
          go_wp2_with (first
            | (at_builtin; refine wpList_append_vals rfl (.tmp 48) (.tmp 49) 45 rfl w.heap.size 3 (.int .i64 0) 8 Try.underlying45 info_int rfl _ (natV acc) rfl (HO.out.below HJ.out) _ q _ rfl (natV s') (R2'.out.below (below_next HB.out HJ.out)) (natV_one _) (by have := HLen.out; rw [natV_length]; omega) (by have := HLen.out; unfold maxLen; rw [natV_length]; omega) (below_next HB.out HJ.out).size ?_; intro v8 w8 ho8 hg8; have b8 := (HO.out.below HJ.out).grown (below_next HB.out HJ.out) (below_next HB.out HJ.out).size hg8)
            | (at_builtin; refine wpList_append_vals rfl (.tmp 50) (.tmp 52) 45 rfl w.heap.size 3 (.int .i64 0) 8 Try.underlying45 info_int rfl _ (natV acc ++ natV s') rfl (ho8.alloc _) _ 1 1 rfl _ (ReadsV.lit w8 #[.int .i64 (a : Int)] 3) (by intro y hy; simp at hy; subst hy; rfl) (by have := HLen.out; have := HM'.out; rw [List.length_append, natV_length, natV_length]; omega) (by have := HLen.out; have := HM'.out; unfold maxLen; rw [List.length_append, natV_length, natV_length]; omega) (b8.alloc b8.size _).size ?_; intro v9 w9 ho9 hg9))
          go_roundg (n - (k + 1))
          case measure => omega
          case rel =>
            refine ⟨k + 1, 0, 0, [], acc ++ s' ++ [a], none, by omega, by omega, by go_num, rfl, by omega, rfl, ReadsV.nil _ _, ?_, HNext, ?_, ?_⟩
            · show OwnsV _ _ _ _ _
              rw [natV_append, natV_append]
              exact ho9
            · show ∀ x ∈ ([] : List Nat), S x
              simp
            · exact (ho8.alloc _).grown (b8.alloc b8.size _) (b8.alloc b8.size _).size hg9
    · have hkn : k = n := by omega
      subst hkn
      have HE : Hid (acc ++ s' = M) := by
        have := HRS.out
        unfold Rest at this
        rw [← HN.out, List.drop_length] at this
        exact this
      have HEL : Hid (acc.length + s'.length = k + m) := by show _ = _; rw [← HML.out, ← HE.out, List.length_append]
      go_wp2_with (at_builtin; refine wpList_append_vals rfl _ _ 45 rfl w.heap.size 3 (.int .i64 0) 8 Try.underlying45 info_int rfl _ (natV acc) rfl HO.out b2 m' c2 rfl (natV s') (R2'.out.below HB.out) (natV_one _) (by have := HEL.out; have := HM'.out; rw [natV_length]; omega) (by have := HEL.out; have := HM'.out; unfold maxLen; rw [natV_length]; omega) HB.out.size ?_; intro v8 w8 ho8 hg8)
      try rw [Exit.noGoto_ret]
      go_ret
      refine ⟨_, rfl, ?_, HO.out.grown HB.out HB.out.size hg8⟩
      rw [← HE.out, natV_append]
      exact ho8
end Go.Proofs.Ytgakidimipipeaa
