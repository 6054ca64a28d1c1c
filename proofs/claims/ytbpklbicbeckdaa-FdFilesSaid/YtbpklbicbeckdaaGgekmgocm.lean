/- A disk's cache comes to it, or is lost: Arm, Flush, Crash, by their walks. -/
import Derived.Test.YtbpklbicbeckdaaGgimknaip
import Derived.Lib.MinMax
namespace Go.Proofs.Ytbpklbicbeckdaa
open Go.RowKit Go.Sort
set_option linter.unusedVariables false
set_option maxRecDepth 100000

/-- Nothing but the disk's own blocks has changed. -/
structure DKeeps (g gs : Nat) (cv : Value) (w w' : World) : Prop where
  os : w'.os = w.os
  tape : w'.tape = w.tape
  output : w'.output = w.output
  size : w.heap.size ≤ w'.heap.size
  block : ∀ k, k < w.heap.size → k ≠ g → k ≠ gs → cv.ownBlock ≠ some k → w'.heap[k]? = w.heap[k]?
theorem DKeeps.refl (g gs : Nat) (cv : Value) (w : World) : DKeeps g gs cv w w := ⟨rfl, rfl, rfl, Nat.le_refl _, fun _ _ _ _ _ => rfl⟩
theorem DKeeps.of_g {g gs : Nat} {cv : Value} {w w' : World} (o : Only g w w') : DKeeps g gs cv w w' := ⟨o.os, o.tape, o.output, by rw [o.size]; exact Nat.le_refl _, fun k _ h _ _ => o.block k h⟩
theorem DKeeps.of_gs {g gs : Nat} {cv : Value} {w w' : World} (o : Only gs w w') : DKeeps g gs cv w w' := ⟨o.os, o.tape, o.output, by rw [o.size]; exact Nat.le_refl _, fun k _ _ h _ => o.block k h⟩
theorem DKeeps.trans {g gs : Nat} {cv : Value} {a b c : World} (h : DKeeps g gs cv a b) (k : DKeeps g gs cv b c) : DKeeps g gs cv a c :=
  ⟨k.os.trans h.os, k.tape.trans h.tape, k.output.trans h.output, Nat.le_trans h.size k.size, fun i hi h1 h2 h3 => (k.block i (Nat.lt_of_lt_of_le hi h.size) h1 h2 h3).trans (h.block i hi h1 h2 h3)⟩
theorem DKeeps.below {B g gs : Nat} {cv : Value} {D : DiskD} {w w' : World} (h : DKeeps g gs cv w w') (hd : IsDisk B w g gs cv D) (hB : B ≤ w.heap.size) : Below B w w' :=
  ⟨h.os, h.tape, h.output, h.size, fun k hk => h.block k (by omega) (by have := hd.2.2.2.2.1; omega) (by have := hd.2.2.2.2.2; omega) (fun e => by have := World.ownsRow.lt hd.2.2.1 k e; omega)⟩

theorem IsDisk.head {B : Nat} {w w' : World} {g gs : Nat} {cv : Value} {D D' : DiskD} (h : IsDisk B w g gs cv D) (h1 : Head w' g gs cv D') (o : Only g w w') (hs : D'.secs = D.secs) (hc : D'.cache = D.cache) (hok : D'.ok) : IsDisk B w' g gs cv D' := by
  have hne := gs_ne_g h
  obtain ⟨k1, k2, k3, k4, k5, k6⟩ := h
  refine ⟨h1, by rw [o.block gs hne, hs]; exact k2, ?_, hok, k5, k6⟩
  rw [hc]
  obtain ⟨q1, q2⟩ := k3
  refine ⟨q1, ?_⟩
  rcases q2 with q2 | ⟨gc, cap, cur, hv, q3, q4, rest⟩
  · exact .inl q2
  · refine .inr ⟨gc, cap, cur, hv, q3, ?_, rest⟩
    rw [o.block gc ?_]
    · exact q4
    · rintro rfl; rw [q4] at k1; injection k1 with k1; injection k1 with _ k1; exact absurd k1 (by decide)
theorem strikeD_ok {D : DiskD} (h : D.ok) : (strikeD D).ok := by
  obtain ⟨m1, m2, m3, m4, m5, m6, m7⟩ := h
  refine ⟨m1, m2, m3, m4, m5, m6, ?_⟩
  show (if D.armed && !strikeB D then D.left - 1 else D.left) ≤ _
  split <;> omega
theorem deedD_ok {D : DiskD} (h : D.ok) (hd : D.deeds < 1000000) : (deedD D).ok := by
  unfold deedD
  split
  · exact strikeD_ok h
  · obtain ⟨m1, m2, m3, m4, m5, m6, m7⟩ := strikeD_ok h
    exact ⟨m1, m2, m3, m4, m5, hd, m7⟩
theorem deedD_secs (D : DiskD) : (deedD D).secs = D.secs := by unfold deedD; split <;> rfl
theorem deedD_cache (D : DiskD) : (deedD D).cache = D.cache := by unfold deedD; split <;> rfl

def settles (l : List (Nat × List Nat)) (s : List (List Nat)) : List (List Nat) := l.foldl (fun s p => s.set p.1 p.2) s
theorem settles_snoc (l : List (Nat × List Nat)) (s : List (List Nat)) (p : Nat × List Nat) : settles (l ++ [p]) s = (settles l s).set p.1 p.2 := by simp [settles]
/-- The cache is gone. -/
theorem IsDisk.empty {B : Nat} {w : World} {g gs : Nat} {cv : Value} {D : DiskD} (h : IsDisk B w g gs cv D) : IsDisk B (w.setCell ⟨g, 4, none⟩ (.slice none 0 0)) g gs (.slice none 0 0) { D with cache := [] } := by
  have hne := gs_ne_g h
  obtain ⟨k1, k2, k3, ⟨m1, m2, m3, m4, m5, m6, m7⟩, k5, k6⟩ := h
  refine ⟨?_, by rw [Below.heap_setCell _ _ _ _ hne]; exact k2, World.ownsRow_nil _ _ _ _, ⟨m1, (fun p hp => by cases hp), m3, m4, Nat.zero_le _, m6, m7⟩, k5, k6⟩
  rw [heap_setCell_same w g 4 _ _ _ k1]
  rfl

def flushD (D : DiskD) : DiskD := if strikeB D then strikeD D else { deedD D with secs := settles D.cache D.secs, cache := [] }

set_option maxHeartbeats 1600000 in
theorem dflush_is {B : Nat} {w : World} {g gs : Nat} {cv : Value} {D : DiskD} (h : IsDisk B w g gs cv D) (hd : D.deeds < 1000000) :
    Calls Try.prog 11 #[.pointer (some ⟨g, 0, none⟩)] w fun e w' => e = .returned (.int .i64 (deedE D)) ∧ (∃ cv', IsDisk B w' g gs cv' (flushD D) ∧ (cv' = cv ∨ cv' = .slice none 0 0)) ∧ DKeeps g gs cv w w' := by
  have hok := h.2.2.2.1
  have hleft := hok.2.2.2.2.2.2
  cases hs : strikeB D with
  | true =>
    have HE : Hid (flushD D = strikeD D) := if_pos hs
    have HE2 : Hid (deedD D = strikeD D) := if_pos hs
    have HDE : Hid (deedE D = 20) := by show _ = _; unfold deedE; rw [hs]; rfl
    have H := Lib.hid h
    have HOK := Lib.hid hok
    clear h hok hs
    go_enter Try.func11, Try.ntmps11
    go_wp2_with fail
    refine (deed_is H.out.1 hleft (by omega)).mono ?_
    rintro e w1 ⟨rfl, h1, o1⟩
    rw [HDE.out]
    go_wp2
    go_ret
    refine ⟨by rw [HDE.out]; rfl, ⟨cv, ?_, .inl rfl⟩, DKeeps.of_g o1⟩
    rw [HE2.out] at h1
    rw [HE.out]
    exact H.out.head h1 o1 rfl rfl (strikeD_ok HOK.out)
  | false =>
    have HE : Hid (flushD D = { deedD D with secs := settles D.cache D.secs, cache := [] }) := if_neg (by rw [hs]; decide)
    have HDE : Hid (deedE D = 0) := by show _ = _; unfold deedE; rw [hs]; rfl
    have H := Lib.hid h
    have HOK := Lib.hid hok
    clear h hok hs
    go_enter Try.func11, Try.ntmps11
    go_wp2_with fail
    refine (deed_is H.out.1 hleft (by omega)).mono ?_
    rintro e w1 ⟨rfl, h1, o1⟩
    rw [HDE.out]
    have hd1 := H.out.head h1 o1 (deedD_secs D) (deedD_cache D) (deedD_ok HOK.out hd)
    have ecs := deedD_secs D
    have ecc := deedD_cache D
    have hcl : D.cache.length ≤ 1000000 := HOK.out.2.2.2.2.1
    generalize deedD D = D1 at *
    have HES := Lib.hid ecs
    have HEC := Lib.hid ecc
    have H1 := Lib.hid hd1
    obtain ⟨c0, c1, c2, c3, c4, c5⟩ := head_facts h1
    obtain ⟨m, hm⟩ : ∃ m, D.cache.length = m := ⟨_, rfl⟩
    have hcl1 : D1.cache.length = m := by rw [ecc]; exact hm
    obtain ⟨ca, cc, hcv⟩ : ∃ ca cc, cv = .slice ca m cc := by
      obtain ⟨_, _, ⟨_, q⟩, _⟩ := H1.out
      rw [hcl1] at q
      rcases q with ⟨rfl, q⟩ | ⟨gc, cap, cur, rfl, _⟩
      · exact ⟨none, 0, by rw [q]⟩
      · exact ⟨_, _, rfl⟩
    subst hcv
    have HM := Lib.hid hcl1
    rw [hm] at hcl
    clear ecs ecc hd1 hcl1 hm h1 c0 c1 c2 c3 c5
    go_wp2_with fail
    go_loopw [4, 15] (fun _ i wr => ∃ k : Nat, k ≤ m ∧ i = .int .i64 k ∧ IsDisk B wr g gs (.slice ca m cc) { D1 with secs := settles (D1.cache.take k) D1.secs } ∧ Only gs w1 wr) (fun _ i _ => m - (intOf i).toNat)
    case atStart => exact ⟨0, by omega, rfl, H1.out, Only.refl _ _⟩
    case round =>
      obtain ⟨k, hk, rfl, hdk, ok⟩ := hrel
      by_cases hlt : k < m
      · obtain ⟨p, hp⟩ : ∃ p, D1.cache[k]? = some p := ⟨_, List.getElem?_eq_getElem (by have := HM.out; omega)⟩
        have hst := settle_is (D := { D1 with secs := settles (D1.cache.take k) D1.secs }) k p hp hdk
        have hes : (settles (D1.cache.take k) D1.secs).set p.1 p.2 = settles (D1.cache.take (k + 1)) D1.secs := by
          rw [List.take_add_one, hp]
          exact (settles_snoc _ _ _).symm
        have HST := Lib.hid hst
        have HS2 := Lib.hid hes
        clear hst hes hp hdk
        go_wp2_with fail
        refine HST.out.mono ?_
        rintro e w2 ⟨rfl, h2, o2⟩
        have h3 : IsDisk B w2 g gs (.slice ca m cc) { D1 with secs := settles (D1.cache.take (k + 1)) D1.secs } := by
          rw [← HS2.out]; exact h2
        have o3 := ok.trans o2
        clear h2 o2 ok HS2 HST
        go_wp2
        go_roundw
        case rel => exact ⟨k + 1, by omega, by go_num, h3, o3⟩
        case measure => simp [intOf]; omega
      · have hkm : D1.cache.take k = D1.cache := List.take_of_length_le (by have := HM.out; omega)
        rw [hkm] at hdk
        have hfin := hdk.empty
        obtain ⟨d0, d1, d2, d3, d4, d5⟩ := head_facts hdk.1
        have f4 := head_free hdk.1 4
        have HF := Lib.hid hfin
        have hgg := Lib.hid (gs_ne_g hdk)
        clear hkm hfin hdk d0 d1 d2 d3 d5
        go_wp2
        go_ret
        refine ⟨by rw [HDE.out]; rfl, ⟨_, ?_, .inr rfl⟩, ?_⟩
        · rw [HE.out, ← HEC.out, ← HES.out]
          exact HF.out
        · exact ((DKeeps.of_g o1).trans (DKeeps.of_gs ok)).trans (DKeeps.of_g ((Only.refl g wr).setCell 4 _))

def armD (D : DiskD) (n : Int) : DiskD := if D.dead then D else { D with dead := false, armed := decide (0 ≤ n), left := n.toNat }
theorem armD_ok {D : DiskD} (h : D.ok) {n : Int} (hn : n ≤ 9223372036854775807) : (armD D n).ok := by
  unfold armD
  split
  · exact h
  · obtain ⟨m1, m2, m3, m4, m5, m6, m7⟩ := h
    exact ⟨m1, m2, m3, m4, m5, m6, by show n.toNat ≤ _; omega⟩
theorem darm_is {B : Nat} {w : World} {g gs : Nat} {cv : Value} {D : DiskD} (n : Int) (h : IsDisk B w g gs cv D) (hn : n ≤ 9223372036854775807) :
    Calls Try.prog 13 #[.pointer (some ⟨g, 0, none⟩), .int .i64 n] w fun e w' => e = .returned (.tuple #[]) ∧ IsDisk B w' g gs cv (armD D n) ∧ Only g w w' := by
  obtain ⟨c0, c1, c2, c3, c4, c5⟩ := head_facts h.1
  have f0 := head_free h.1 0
  have f1 := head_free h.1 1
  have f2 := head_free h.1 2
  have o0 := Only.refl g w
  have HOK := Lib.hid (armD_ok h.2.2.2.1 hn)
  have H := Lib.hid h
  have hs : (armD D n).secs = D.secs := by unfold armD; split <;> rfl
  have hc : (armD D n).cache = D.cache := by unfold armD; split <;> rfl
  have HS := Lib.hid hs
  have HC := Lib.hid hc
  clear h hs hc
  cases hd : D.dead with
  | true =>
    have HE : Hid (armD D n = D) := if_pos hd
    rw [hd] at c0
    clear hd
    go_enter Try.func13, Try.ntmps13
    go_wp2
    refine bodyPost_ret (results_none rfl _ _ _) rfl ⟨rfl, by rw [HE.out]; exact H.out, o0⟩
  | false =>
    have HE : Hid (armD D n = { D with dead := false, armed := decide (0 ≤ n), left := n.toNat }) := if_neg (by rw [hd]; decide)
    rw [hd] at c0
    clear hd
    by_cases h0 : 0 ≤ n
    · have HF : Hid ((((((headV D gs cv).setIfInBounds 0 (.bool false)).setIfInBounds 1 (.bool false)).setIfInBounds 2 (.int .i64 0)).setIfInBounds 1 (.bool true)).setIfInBounds 2 (.int .i64 n) = headV (armD D n) gs cv) := by
        show _ = _
        rw [HE.out]
        unfold headV
        have e1 : decide (0 ≤ n) = true := decide_eq_true h0
        have e2 : ((n.toNat : Nat) : Int) = n := by omega
        simp only [e1, e2]
        rfl
      go_enter Try.func13, Try.ntmps13
      go_wp2
      go_end0
      have hh : Head _ g gs cv (armD D n) := (heap_setCell_same _ g 2 _ _ _ (heap_setCell_same _ g 1 _ _ _ (heap_setCell_same _ g 2 _ _ _ (heap_setCell_same _ g 1 _ _ _ (heap_setCell_same w g 0 _ _ _ H.out.1))))).trans (by rw [HF.out])
      have ho := ((((o0.setCell 0 (.bool false)).setCell 1 (.bool false)).setCell 2 (.int .i64 0)).setCell 1 (.bool true)).setCell 2 (.int .i64 n)
      exact ⟨rfl, H.out.head hh ho HS.out HC.out HOK.out, ho⟩
    · have HF : Hid ((((headV D gs cv).setIfInBounds 0 (.bool false)).setIfInBounds 1 (.bool false)).setIfInBounds 2 (.int .i64 0) = headV (armD D n) gs cv) := by
        show _ = _
        rw [HE.out]
        unfold headV
        have e1 : decide (0 ≤ n) = false := decide_eq_false h0
        have e2 : n.toNat = 0 := by omega
        simp only [e1, e2]
        rfl
      go_enter Try.func13, Try.ntmps13
      go_wp2
      go_end0
      have hh : Head _ g gs cv (armD D n) := (heap_setCell_same _ g 2 _ _ _ (heap_setCell_same _ g 1 _ _ _ (heap_setCell_same w g 0 _ _ _ H.out.1))).trans (by rw [HF.out])
      have ho := ((o0.setCell 0 (.bool false)).setCell 1 (.bool false)).setCell 2 (.int .i64 0)
      exact ⟨rfl, H.out.head hh ho HS.out HC.out HOK.out, ho⟩
end Go.Proofs.Ytbpklbicbeckdaa
