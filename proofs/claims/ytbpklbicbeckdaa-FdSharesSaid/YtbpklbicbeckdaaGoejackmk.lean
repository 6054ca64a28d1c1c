/- The document's open files: NewFiles, put, Is, Ref, Move. -/
import Derived.Test.YtbpklbicbeckdaaGhagcljcf
namespace Go.Proofs.Ytbpklbicbeckdaa
open Go.RowKit Go.Sort
set_option linter.unusedVariables false
set_option linter.unusedSimpArgs false
set_option maxRecDepth 100000

/-- The document's open files: a list by value. -/
def RFiles (B : Nat) (w : World) (v : Value) (fl : List FileD) : Prop := ∃ a c, v = .slice a fl.length c ∧ OwnsR' B w 77 5 v (filesV fl)
theorem RFiles.below {B : Nat} {w w' : World} {v : Value} {fl : List FileD} (h : RFiles B w v fl) (b : Below w.heap.size w w') : RFiles B w' v fl := by
  obtain ⟨a, c, e, h1⟩ := h
  exact ⟨a, c, e, h1.below b⟩
theorem RFiles.less {B B' : Nat} {w : World} {v : Value} {fl : List FileD} (h : RFiles B w v fl) (hB : B' ≤ B) : RFiles B' w v fl := by
  obtain ⟨a, c, e, h1⟩ := h
  exact ⟨a, c, e, h1.less hB⟩
theorem RFiles.reads {B : Nat} {w : World} {a : Option Addr} {n c : Nat} {fl : List FileD} (h : RFiles B w (.slice a n c) fl) : ReadsR w a 5 (filesV fl) ∧ fl.length = n ∧ n ≤ c := by
  obtain ⟨a', c', e, h1⟩ := h
  obtain ⟨a2, c2, e2, hr, hl, _⟩ := h1.reads
  rw [filesV_length] at e2 hl
  cases e
  cases e2
  exact ⟨hr, rfl, hl⟩
theorem ramong_is (n a b : Int) (w : World) (hm : a ≤ b) : Calls Try.prog 66 #[.int .i64 n, .int .i64 a, .int .i64 b] w fun e w' => e = .returned (.int .i64 (min (max n a) b)) ∧ w = w' := by
  by_cases h1 : n < a
  · have HE : Hid (min (max n a) b = a) := by show _ = _; omega
    go_enter Try.func66, Try.ntmps66
    go_wp2
    go_ret
    exact ⟨ret_int HE.out.symm, rfl⟩
  · by_cases h2 : b < n
    · have HE : Hid (min (max n a) b = b) := by show _ = _; omega
      go_enter Try.func66, Try.ntmps66
      go_wp2
      go_ret
      exact ⟨ret_int HE.out.symm, rfl⟩
    · have HE : Hid (min (max n a) b = n) := by show _ = _; omega
      go_enter Try.func66, Try.ntmps66
      go_wp2
      go_ret
      exact ⟨ret_int HE.out.symm, rfl⟩
theorem rfnew_is (n : Int) (w : World) (m : Nat) (hm : clampF 64 n = m) : Calls Try.prog 24 #[.int .i64 n] w fun e w' => ∃ v, e = .returned v ∧ RFiles w.heap.size w' v (List.replicate m zeroF) ∧ Below w.heap.size w w' := by
  have hm2 : m ≤ 64 := by unfold clampF at hm; omega
  have hm1 : 1 ≤ m := by unfold clampF at hm; omega
  have hmk := fun W => run_make_rowRF m (by omega) W
  have HM := Lib.hid hm
  clear hm
  go_enter Try.func24, Try.ntmps24
  go_wp2_with fail
  refine (ramong_is n 1 64 w (by decide)).mono ?_
  rintro e w' ⟨rfl, rfl⟩
  have hmm : min (max n 1) 64 = (m : Int) := HM.out
  rw [hmm]
  go_wp2
  go_ret
  have hl : (filesV (List.replicate m zeroF)).length = m := by rw [filesV_length, List.length_replicate]
  have hnew := OwnsR'.new (B := w.heap.size) (w := w) (e := 77) (k := 5) (l := filesV (List.replicate m zeroF)) (files_rows _) (Nat.le_refl _) (by rw [hl]; unfold maxLen; omega) (made_files m)
  rw [hl] at hnew
  exact ⟨.slice (some ⟨w.heap.size, 0, none⟩) m m, rfl, ⟨some ⟨w.heap.size, 0, none⟩, m, by rw [List.length_replicate], hnew⟩, (Below.refl _ _).alloc (Nat.le_refl _) _⟩
/-- Five cells of a row of one's own. -/
theorem rows_put5 {B : Nat} {w : World} {e : TypeId} {gs n c : Nat} {fl : List FileD} (h : OwnsR' B w e 5 (.slice (some ⟨gs, 0, none⟩) n c) (filesV fl)) (hn : fl.length = n) {i : Nat} {s : FileD} (hu : fl[i]? = some s) (s' : FileD) :
    OwnsR' B (put5 w gs i s') e 5 (.slice (some ⟨gs, 0, none⟩) n c) (filesV (fl.set i s')) ∧ w.grownBy (put5 w gs i s') (some gs) := by
  have hi := (List.getElem?_eq_some_iff.1 hu).1
  have one : ∀ (W : World) (L : List FileD) (o o' : FileD) (j : Nat) (x : Value), OwnsR' B W e 5 (.slice (some ⟨gs, 0, none⟩) n c) (filesV L) → L.length = n → L[i]? = some o → j < 5 → (fileV o).set j x = fileV o' →
      OwnsR' B (W.setCell ⟨gs, i * 5 + j, none⟩ x) e 5 (.slice (some ⟨gs, 0, none⟩) n c) (filesV (L.set i o')) ∧ W.grownBy (W.setCell ⟨gs, i * 5 + j, none⟩ x) (some gs) := by
    intro W L o o' j x hW hL ho hj hx
    have hs := hW.stored (by rw [filesV_length]; exact hL) (filesV_get ho) hj x
    rw [hx, filesV_set] at hs
    exact hs
  have l1 : ∀ o : FileD, (fl.set i o).length = n := fun o => by rw [List.length_set]; exact hn
  have g1 : ∀ o : FileD, (fl.set i o)[i]? = some o := fun o => List.getElem?_set_self hi
  have s1 := one w fl s ⟨s'.kind, s.num, s.at_, s.flags, s.refs⟩ 0 (.int .i64 s'.kind) h hn hu (by decide) rfl
  have s2 := one _ _ _ ⟨s'.kind, s'.num, s.at_, s.flags, s.refs⟩ 1 (.int .i64 s'.num) s1.1 (l1 _) (g1 _) (by decide) rfl
  rw [List.set_set] at s2
  have s3 := one _ _ _ ⟨s'.kind, s'.num, s'.at_, s.flags, s.refs⟩ 2 (.int .i64 s'.at_) s2.1 (l1 _) (g1 _) (by decide) rfl
  rw [List.set_set] at s3
  have s4 := one _ _ _ ⟨s'.kind, s'.num, s'.at_, s'.flags, s.refs⟩ 3 (.int .i64 s'.flags) s3.1 (l1 _) (g1 _) (by decide) rfl
  rw [List.set_set] at s4
  have s5 := one _ _ _ s' 4 (.int .i64 s'.refs) s4.1 (l1 _) (g1 _) (by decide) rfl
  rw [List.set_set] at s5
  exact ⟨s5.1, grown_transF (grown_transF (grown_transF (grown_transF s1.2 s2.2) s3.2) s4.2) s5.2⟩
theorem own_some {B : Nat} {w : World} {e : TypeId} {k : Nat} {v : Value} {l : List (List Value)} (h : OwnsR' B w e k v l) (hl : 1 ≤ l.length) : ∃ g c, v = .slice (some ⟨g, 0, none⟩) l.length c ∧ B ≤ g ∧ g < w.heap.size := by
  have hlt := h.lt
  obtain ⟨_, _, ⟨rfl, h2⟩ | ⟨g9, c9, cur9, rfl, hB, hg9, _⟩⟩ := h
  · omega
  · exact ⟨g9, c9, rfl, hlt g9 rfl⟩
theorem rfput_after {w w2 w3 : World} {g0 g1 n i : Nat} {fl : List FileD} {s : FileD} {v0 v1 v2 v3 v4 v : Value} (K2 : Below w.heap.size w w2) (o2 : OwnsR' w.heap.size w2 77 5 (.slice (some ⟨g1, 0, none⟩) 0 0) []) (n2 : w2.heap[g0]? = some (.cells #[v0, v1, v2, v3, v4] 77 (0, 0))) (hg : g0 < g1) (hn : fl.length = n) (h1 : 1 ≤ n) (hu : fl[i]? = some s) (o : FileD)
    (o3 : OwnsR' w.heap.size w3 77 5 v (filesV fl)) (g3 : w2.grownBy w3 (some g1)) :
    ∃ gq cq W4, v = .slice (some ⟨gq, 0, none⟩) n cq ∧ put5 w3 gq i o = W4 ∧ (w3.cell? ⟨g0, 0, none⟩ = some v0 ∧ w3.cell? ⟨g0, 1, none⟩ = some v1 ∧ w3.cell? ⟨g0, 2, none⟩ = some v2 ∧ w3.cell? ⟨g0, 3, none⟩ = some v3 ∧ w3.cell? ⟨g0, 4, none⟩ = some v4) ∧
      (w3.cell? ⟨gq, i * 5, none⟩ = some (.int .i64 s.kind) ∧ w3.cell? ⟨gq, i * 5 + 1, none⟩ = some (.int .i64 s.num) ∧ w3.cell? ⟨gq, i * 5 + 2, none⟩ = some (.int .i64 s.at_) ∧ w3.cell? ⟨gq, i * 5 + 3, none⟩ = some (.int .i64 s.flags) ∧ w3.cell? ⟨gq, i * 5 + 4, none⟩ = some (.int .i64 s.refs)) ∧
      (∀ j, w3.frozen? ⟨gq, j, none⟩ = false) ∧ Hid (OwnsR' w.heap.size W4 77 5 (.slice (some ⟨gq, 0, none⟩) n cq) (filesV (fl.set i o)) ∧ w3.grownBy W4 (some gq)) ∧ Hid (Below w.heap.size w w3) ∧ Hid (w.heap.size ≤ gq) := by
  have hnf : (filesV fl).length = n := by rw [filesV_length]; exact hn
  obtain ⟨gq, cq, rfl, hq1, hq2⟩ := own_some o3 (by rw [hnf]; exact h1)
  rw [hnf] at o3
  have n3 := (g3.block g0 (Array.getElem?_eq_some_iff.1 n2).1 (by intro e; have : g0 = g1 := Option.some.inj e; omega)).trans n2
  have hh := o3.head.2.2 i _ (filesV_get hu)
  have hl1 := (o2.lt g1 rfl).1
  refine ⟨gq, cq, _, by rw [hnf], rfl, ⟨cell_of_row n3 0, cell_of_row n3 1, cell_of_row n3 2, cell_of_row n3 3, cell_of_row n3 4⟩, ⟨hh 0 _ rfl, hh 1 _ rfl, hh 2 _ rfl, hh 3 _ rfl, hh 4 _ rfl⟩, fun j => o3.frozen hnf j, rows_put5 o3 hn hu o, K2.grown g3 K2.size (fun j hj => by obtain rfl := Option.some.inj hj; exact hl1), hq1⟩
set_option maxHeartbeats 1600000 in
theorem rfput_is (a : Option Addr) (c : Nat) (fl : List FileD) (i : Nat) (hi : i < fl.length) (hl : fl.length ≤ 64) (o : FileD) (w : World) (hr : ReadsR w a 5 (filesV fl)) :
    Calls Try.prog 70 #[.slice a fl.length c, .int .i64 (i : Int), fileA o] w fun e w' => ∃ v, e = .returned v ∧ RFiles w.heap.size w' v (fl.set i o) ∧ Below w.heap.size w w' := by
  obtain ⟨n, hn⟩ : ∃ n, fl.length = n := ⟨_, rfl⟩
  have hnf : (filesV fl).length = n := by rw [filesV_length]; exact hn
  have HNF := Lib.hid hnf
  have HN := Lib.hid hn
  rw [hn] at hi hl ⊢
  obtain ⟨s, hs⟩ : ∃ s, fl[i]? = some s := ⟨_, List.getElem?_eq_getElem (by rw [hn]; exact hi)⟩
  have HU := Lib.hid hs
  have HR := Lib.hid hr
  have hi2 : (i : Int) < (n : Int) := by omega
  have hi0 : (0 : Int) ≤ (i : Int) := by omega
  have HI := Lib.hid hi
  clear hr hn hs hi hnf
  unfold fileA
  have b1 := below_box w (.cells #[.int .i64 o.kind, .int .i64 o.num, .int .i64 o.at_, .int .i64 o.flags, .int .i64 o.refs] 77)
  have n1 := heap_alloc_new w (.cells #[.int .i64 o.kind, .int .i64 o.num, .int .i64 o.at_, .int .i64 o.flags, .int .i64 o.refs] 77)
  obtain ⟨w1, hw1⟩ : ∃ x, w.alloc (.cells #[.int .i64 o.kind, .int .i64 o.num, .int .i64 o.at_, .int .i64 o.flags, .int .i64 o.refs] 77) = x := ⟨_, rfl⟩
  rw [hw1] at b1 n1
  have b2 := below_box w1 (.cells #[] 77)
  obtain ⟨w2, hw2⟩ : ∃ x, w1.alloc (.cells #[] 77) = x := ⟨_, rfl⟩
  obtain ⟨g1, hg1⟩ : ∃ x, w1.heap.size = x := ⟨_, rfl⟩
  have o2 : OwnsR' w.heap.size w2 77 5 (.slice (some ⟨g1, 0, none⟩) 0 0) [] := by rw [← hw2, ← hg1]; exact OwnsR'.new (by simp) b1.size (by unfold maxLen; simp) rfl
  rw [hw2] at b2
  have O2 := Lib.hid o2
  have K2 := Lib.hid (below_next b1 b2)
  have HR2 := Lib.hid (HR.out.below (below_next b1 b2))
  obtain ⟨g0, hg0⟩ : ∃ x, w.heap.size = x := ⟨_, rfl⟩
  have HG0 := Lib.hid hg0
  rw [hg0] at n1
  have hg01 : g0 < g1 := by rw [← hg0, ← hg1]; exact Nat.lt_of_lt_of_le (by rw [← hw1]; simp) (Nat.le_refl _)
  have N2 := Lib.hid ((b2.block g0 (by rw [hg1]; omega)).trans n1)
  clear b1 b2 o2 n1
  go_enter Try.func70, Try.ntmps70
  go_wp2_with (at_builtin; refine wpList_append_rows' rfl _ _ 62 rfl w.heap.size 77 _ 5 40 Try.underlying62 info_rfile rfl (by decide) _ [] (by rfl) O2.out _ _ (filesV fl) (by rw [HNF.out]; rfl) HR2.out (filesV_one fl) (by rw [HNF.out]; simp; omega) (by rw [HNF.out]; unfold maxLen; simp; omega) K2.out.size ?_; intro v3 w3 o3 g3; rw [List.nil_append] at o3; obtain ⟨gq, cq, W4, rfl, hW4, ⟨x0, x1, x2, x3, x4⟩, ⟨q0, q1, q2, q3, q4⟩, fq, HP, K3, HQ1⟩ := rfput_after K2.out O2.out N2.out hg01 HN.out (by omega) HU.out o o3 g3; simp only [put5] at hW4; clear o3 g3)
  go_ret
  exact ⟨.slice (some ⟨gq, 0, none⟩) n cq, rfl, ⟨some ⟨gq, 0, none⟩, cq, by rw [List.length_set, HN.out], HP.out.1⟩, K3.out.grown HP.out.2 K3.out.size (fun j hj => by obtain rfl := Option.some.inj hj; exact HQ1.out)⟩
end Go.Proofs.Ytbpklbicbeckdaa
