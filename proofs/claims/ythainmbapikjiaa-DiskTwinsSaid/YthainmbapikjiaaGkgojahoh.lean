/- A disk's cache comes to it, or is lost: Arm, Flush, Crash, by their walks. The document's disk, as a value: its small calls, told by their walks. A crash of the disk, by its walk. A disk is made, its queue told, and written to, by their walks. A disk's queue, told by its walk. Append of bytes at a step of a region that draws its order. -/
import Derived.Test.YthainmbapikjiaaGkkfggcmo
import Derived.Lib.MinMax
import Derived.Laws.MakeOwn
import Derived.Test.YthainmbapikjiaaMem
import Derived.Deep.RegionHeld3
import Derived.Deep.RegionLaw
namespace Go.Proofs.Ythainmbapikjiaa
open Go.RowKit Go.Sort
set_option linter.unusedVariables false
set_option maxRecDepth 100000

/-- Nothing but the disk's own blocks has changed. -/
structure DKeeps (g gs : Nat) (cv : Value) (w w' : World) : Prop where
  os : w'.os = w.os
  tape : w'.tape = w.tape
  output : w'.output = w.output
  size : w.heap.size ≤ w'.heap.size
  block : ∀ k, k < w.heap.size → k ≠ g → k ≠ gs → cv.ownBlock ≠ some k → w'.heap[k]? = w.heap[k]?
theorem DKeeps.refl (g gs : Nat) (cv : Value) (w : World) : DKeeps g gs cv w w := ⟨rfl, rfl, rfl, Nat.le_refl _, fun _ _ _ _ _ => rfl⟩
theorem DKeeps.of_g {g gs : Nat} {cv : Value} {w w' : World} (o : Only g w w') : DKeeps g gs cv w w' := ⟨o.os, o.tape, o.output, by rw [o.size]; exact Nat.le_refl _, fun k _ h _ _ => o.block k h⟩
theorem DKeeps.of_gs {g gs : Nat} {cv : Value} {w w' : World} (o : Only gs w w') : DKeeps g gs cv w w' := ⟨o.os, o.tape, o.output, by rw [o.size]; exact Nat.le_refl _, fun k _ _ h _ => o.block k h⟩
theorem DKeeps.trans {g gs : Nat} {cv : Value} {a b c : World} (h : DKeeps g gs cv a b) (k : DKeeps g gs cv b c) : DKeeps g gs cv a c :=
  ⟨k.os.trans h.os, k.tape.trans h.tape, k.output.trans h.output, Nat.le_trans h.size k.size, fun i hi h1 h2 h3 => (k.block i (Nat.lt_of_lt_of_le hi h.size) h1 h2 h3).trans (h.block i hi h1 h2 h3)⟩
theorem DKeeps.below {B g gs : Nat} {cv : Value} {D : DiskD} {w w' : World} (h : DKeeps g gs cv w w') (hd : IsDisk B w g gs cv D) (hB : B ≤ w.heap.size) : Below B w w' :=
  ⟨h.os, h.tape, h.output, h.size, fun k hk => h.block k (by omega) (by have := hd.2.2.2.2.1; omega) (by have := hd.2.2.2.2.2; omega) (fun e => by have := World.ownsRow.lt hd.2.2.1 k e; omega)⟩

theorem deedD_junk (D : DiskD) : (deedD D).junk = D.junk := by unfold deedD; split <;> rfl
theorem deedD_room (D : DiskD) : (deedD D).room = D.room := by unfold deedD; split <;> rfl
theorem IsDisk.head {B : Nat} {w w' : World} {g gs : Nat} {cv : Value} {D D' : DiskD} (h : IsDisk B w g gs cv D) (h1 : Head w' g gs cv D') (o : Only g w w') (hs : D'.secs = D.secs) (hc : D'.cache = D.cache) (hok : D'.ok) (hj : D'.junk = D.junk := by first | rfl | exact deedD_junk _) : IsDisk B w' g gs cv D' := by
  have hne := gs_ne_g h
  obtain ⟨k1, k2, k3, k4, k5, k6⟩ := h
  refine ⟨h1, by rw [o.block gs hne, hs, hj]; exact k2, ?_, hok, k5, k6⟩
  rw [hc]
  obtain ⟨q1, q2⟩ := k3
  refine ⟨q1, ?_⟩
  rcases q2 with q2 | ⟨gc, cap, cur, hv, q3, q4, rest⟩
  · exact .inl q2
  · refine .inr ⟨gc, cap, cur, hv, q3, ?_, rest⟩
    rw [o.block gc ?_]
    · exact q4
    · rintro rfl; rw [q4] at k1; injection k1 with k1; injection k1 with _ k1; exact absurd k1 (by decide)
theorem strikeD_ok {D : DiskD} (h : D.ok) : (strikeD D).ok := by
  obtain ⟨m1, m2, m3, m4, m5, m6, m7⟩ := h
  refine ⟨m1, m2, m3, m4, m5, m6, ?_⟩
  show (if D.armed && !strikeB D then D.left - 1 else D.left) ≤ _
  split <;> omega
theorem deedD_ok {D : DiskD} (h : D.ok) (hd : D.deeds < 1000000) : (deedD D).ok := by
  unfold deedD
  split
  · exact strikeD_ok h
  · obtain ⟨m1, m2, m3, m4, m5, m6, m7⟩ := strikeD_ok h
    exact ⟨m1, m2, m3, m4, m5, hd, m7⟩
theorem deedD_secs (D : DiskD) : (deedD D).secs = D.secs := by unfold deedD; split <;> rfl
theorem deedD_cache (D : DiskD) : (deedD D).cache = D.cache := by unfold deedD; split <;> rfl

def settles (l : List (Nat × List Nat)) (s : List (List Nat)) : List (List Nat) := l.foldl (fun s p => s.set p.1 p.2) s
theorem settles_snoc (l : List (Nat × List Nat)) (s : List (List Nat)) (p : Nat × List Nat) : settles (l ++ [p]) s = (settles l s).set p.1 p.2 := by simp [settles]
/-- The cache is gone. -/
theorem IsDisk.empty {B : Nat} {w : World} {g gs : Nat} {cv : Value} {D : DiskD} (h : IsDisk B w g gs cv D) : IsDisk B (w.setCell ⟨g, 4, none⟩ (.slice none 0 0)) g gs (.slice none 0 0) { D with cache := [] } := by
  have hne := gs_ne_g h
  obtain ⟨k1, k2, k3, ⟨m1, m2, m3, m4, m5, m6, m7⟩, k5, k6⟩ := h
  refine ⟨?_, by rw [Below.heap_setCell _ _ _ _ hne]; exact k2, World.ownsRow_nil _ _ _ _, ⟨m1, (fun p hp => by cases hp), m3, m4, Nat.zero_le _, m6, m7⟩, k5, k6⟩
  rw [heap_setCell_same w g 4 _ _ _ k1]
  rfl

def flushD (D : DiskD) : DiskD := if strikeB D then strikeD D else { deedD D with secs := settles D.cache D.secs, cache := [] }

set_option maxHeartbeats 1600000 in
theorem dflush_is {B : Nat} {w : World} {g gs : Nat} {cv : Value} {D : DiskD} (h : IsDisk B w g gs cv D) (hd : D.deeds < 1000000) :
    Calls Try.prog 59 #[.pointer (some ⟨g, 0, none⟩)] w fun e w' => e = .returned (.int .i64 (deedE D)) ∧ (∃ cv', IsDisk B w' g gs cv' (flushD D) ∧ (cv' = cv ∨ cv' = .slice none 0 0)) ∧ DKeeps g gs cv w w' := by
  have hok := h.2.2.2.1
  have hleft := hok.2.2.2.2.2.2
  cases hs : strikeB D with
  | true =>
    have HE : Hid (flushD D = strikeD D) := if_pos hs
    have HE2 : Hid (deedD D = strikeD D) := if_pos hs
    have HDE : Hid (deedE D = 20) := by show _ = _; unfold deedE; rw [hs]; rfl
    have H := Lib.hid h
    have HOK := Lib.hid hok
    clear h hok hs
    go_enter Try.func59, Try.ntmps59
    go_wp2_with fail
    refine (deed_is H.out.1 hleft (by omega)).mono ?_
    rintro e w1 ⟨rfl, h1, o1⟩
    rw [HDE.out]
    go_wp2
    go_ret
    refine ⟨by rw [HDE.out]; rfl, ⟨cv, ?_, .inl rfl⟩, DKeeps.of_g o1⟩
    rw [HE2.out] at h1
    rw [HE.out]
    exact H.out.head h1 o1 rfl rfl (strikeD_ok HOK.out)
  | false =>
    have HE : Hid (flushD D = { deedD D with secs := settles D.cache D.secs, cache := [] }) := if_neg (by rw [hs]; decide)
    have HDE : Hid (deedE D = 0) := by show _ = _; unfold deedE; rw [hs]; rfl
    have H := Lib.hid h
    have HOK := Lib.hid hok
    clear h hok hs
    go_enter Try.func59, Try.ntmps59
    go_wp2_with fail
    refine (deed_is H.out.1 hleft (by omega)).mono ?_
    rintro e w1 ⟨rfl, h1, o1⟩
    rw [HDE.out]
    have hd1 := H.out.head h1 o1 (deedD_secs D) (deedD_cache D) (deedD_ok HOK.out hd)
    have ecs := deedD_secs D
    have ecc := deedD_cache D
    have hcl : D.cache.length ≤ 1000000 := HOK.out.2.2.2.2.1
    generalize deedD D = D1 at *
    have HES := Lib.hid ecs
    have HEC := Lib.hid ecc
    have H1 := Lib.hid hd1
    obtain ⟨c0, c1, c2, c3, c4, c5⟩ := head_facts h1
    obtain ⟨m, hm⟩ : ∃ m, D.cache.length = m := ⟨_, rfl⟩
    have hcl1 : D1.cache.length = m := by rw [ecc]; exact hm
    obtain ⟨ca, cc, hcv⟩ : ∃ ca cc, cv = .slice ca m cc := by
      obtain ⟨_, _, ⟨_, q⟩, _⟩ := H1.out
      rw [hcl1] at q
      rcases q with ⟨rfl, q⟩ | ⟨gc, cap, cur, rfl, _⟩
      · exact ⟨none, 0, by rw [q]⟩
      · exact ⟨_, _, rfl⟩
    subst hcv
    have HM := Lib.hid hcl1
    rw [hm] at hcl
    clear ecs ecc hd1 hcl1 hm h1 c0 c1 c2 c3 c5
    go_wp2_with fail
    go_loopw [4, 15] (fun _ i wr => ∃ k : Nat, k ≤ m ∧ i = .int .i64 k ∧ IsDisk B wr g gs (.slice ca m cc) { D1 with secs := settles (D1.cache.take k) D1.secs } ∧ Only gs w1 wr) (fun _ i _ => m - (intOf i).toNat)
    case atStart => exact ⟨0, by omega, rfl, H1.out, Only.refl _ _⟩
    case round =>
      obtain ⟨k, hk, rfl, hdk, ok⟩ := hrel
      by_cases hlt : k < m
      · obtain ⟨p, hp⟩ : ∃ p, D1.cache[k]? = some p := ⟨_, List.getElem?_eq_getElem (by have := HM.out; omega)⟩
        have hst := settle_is (D := { D1 with secs := settles (D1.cache.take k) D1.secs }) k p hp hdk
        have hes : (settles (D1.cache.take k) D1.secs).set p.1 p.2 = settles (D1.cache.take (k + 1)) D1.secs := by
          rw [List.take_add_one, hp]
          exact (settles_snoc _ _ _).symm
        have HST := Lib.hid hst
        have HS2 := Lib.hid hes
        clear hst hes hp hdk
        go_wp2_with fail
        refine HST.out.mono ?_
        rintro e w2 ⟨rfl, h2, o2⟩
        have h3 : IsDisk B w2 g gs (.slice ca m cc) { D1 with secs := settles (D1.cache.take (k + 1)) D1.secs } := by
          rw [← HS2.out]; exact h2
        have o3 := ok.trans o2
        clear h2 o2 ok HS2 HST
        go_wp2
        go_roundw
        case rel => exact ⟨k + 1, by omega, by go_num, h3, o3⟩
        case measure => simp [intOf]; omega
      · have hkm : D1.cache.take k = D1.cache := List.take_of_length_le (by have := HM.out; omega)
        rw [hkm] at hdk
        have hfin := hdk.empty
        obtain ⟨d0, d1, d2, d3, d4, d5⟩ := head_facts hdk.1
        have f4 := head_free hdk.1 4
        have HF := Lib.hid hfin
        have hgg := Lib.hid (gs_ne_g hdk)
        clear hkm hfin hdk d0 d1 d2 d3 d5
        go_wp2
        go_ret
        refine ⟨by rw [HDE.out]; rfl, ⟨_, ?_, .inr rfl⟩, ?_⟩
        · rw [HE.out, ← HEC.out, ← HES.out]
          exact HF.out
        · exact ((DKeeps.of_g o1).trans (DKeeps.of_gs ok)).trans (DKeeps.of_g ((Only.refl g wr).setCell 4 _))

def armD (D : DiskD) (n : Int) : DiskD := if D.dead then D else { D with dead := false, armed := decide (0 ≤ n), left := n.toNat }
theorem armD_junk (D : DiskD) (n : Int) : (armD D n).junk = D.junk := by unfold armD; split <;> rfl
theorem armD_ok {D : DiskD} (h : D.ok) {n : Int} (hn : n ≤ 9223372036854775807) : (armD D n).ok := by
  unfold armD
  split
  · exact h
  · obtain ⟨m1, m2, m3, m4, m5, m6, m7⟩ := h
    exact ⟨m1, m2, m3, m4, m5, m6, by show n.toNat ≤ _; omega⟩
theorem darm_is {B : Nat} {w : World} {g gs : Nat} {cv : Value} {D : DiskD} (n : Int) (h : IsDisk B w g gs cv D) (hn : n ≤ 9223372036854775807) :
    Calls Try.prog 61 #[.pointer (some ⟨g, 0, none⟩), .int .i64 n] w fun e w' => e = .returned (.tuple #[]) ∧ IsDisk B w' g gs cv (armD D n) ∧ Only g w w' := by
  obtain ⟨c0, c1, c2, c3, c4, c5⟩ := head_facts h.1
  have f0 := head_free h.1 0
  have f1 := head_free h.1 1
  have f2 := head_free h.1 2
  have o0 := Only.refl g w
  have HOK := Lib.hid (armD_ok h.2.2.2.1 hn)
  have H := Lib.hid h
  have hs : (armD D n).secs = D.secs := by unfold armD; split <;> rfl
  have hc : (armD D n).cache = D.cache := by unfold armD; split <;> rfl
  have HS := Lib.hid hs
  have HC := Lib.hid hc
  clear h hs hc
  cases hd : D.dead with
  | true =>
    have HE : Hid (armD D n = D) := if_pos hd
    rw [hd] at c0
    clear hd
    go_enter Try.func61, Try.ntmps61
    go_wp2
    refine bodyPost_ret (results_none rfl _ _ _) rfl ⟨rfl, by rw [HE.out]; exact H.out, o0⟩
  | false =>
    have HE : Hid (armD D n = { D with dead := false, armed := decide (0 ≤ n), left := n.toNat }) := if_neg (by rw [hd]; decide)
    rw [hd] at c0
    clear hd
    by_cases h0 : 0 ≤ n
    · have HF : Hid ((((((headV D gs cv).setIfInBounds 0 (.bool false)).setIfInBounds 1 (.bool false)).setIfInBounds 2 (.int .i64 0)).setIfInBounds 1 (.bool true)).setIfInBounds 2 (.int .i64 n) = headV (armD D n) gs cv) := by
        show _ = _
        rw [HE.out]
        unfold headV
        have e1 : decide (0 ≤ n) = true := decide_eq_true h0
        have e2 : ((n.toNat : Nat) : Int) = n := by omega
        simp only [e1, e2]
        rfl
      go_enter Try.func61, Try.ntmps61
      go_wp2
      go_end0
      have hh : Head _ g gs cv (armD D n) := (heap_setCell_same _ g 2 _ _ _ (heap_setCell_same _ g 1 _ _ _ (heap_setCell_same _ g 2 _ _ _ (heap_setCell_same _ g 1 _ _ _ (heap_setCell_same w g 0 _ _ _ H.out.1))))).trans (by rw [HF.out])
      have ho := ((((o0.setCell 0 (.bool false)).setCell 1 (.bool false)).setCell 2 (.int .i64 0)).setCell 1 (.bool true)).setCell 2 (.int .i64 n)
      exact ⟨rfl, H.out.head hh ho HS.out HC.out HOK.out (armD_junk D n), ho⟩
    · have HF : Hid ((((headV D gs cv).setIfInBounds 0 (.bool false)).setIfInBounds 1 (.bool false)).setIfInBounds 2 (.int .i64 0) = headV (armD D n) gs cv) := by
        show _ = _
        rw [HE.out]
        unfold headV
        have e1 : decide (0 ≤ n) = false := decide_eq_false h0
        have e2 : n.toNat = 0 := by omega
        simp only [e1, e2]
        rfl
      go_enter Try.func61, Try.ntmps61
      go_wp2
      go_end0
      have hh : Head _ g gs cv (armD D n) := (heap_setCell_same _ g 2 _ _ _ (heap_setCell_same _ g 1 _ _ _ (heap_setCell_same w g 0 _ _ _ H.out.1))).trans (by rw [HF.out])
      have ho := ((o0.setCell 0 (.bool false)).setCell 1 (.bool false)).setCell 2 (.int .i64 0)
      exact ⟨rfl, H.out.head hh ho HS.out HC.out HOK.out (armD_junk D n), ho⟩
end Go.Proofs.Ythainmbapikjiaa

namespace Go.Proofs.Ythainmbapikjiaa
open Go.RowKit Go.Sort
set_option linter.unusedVariables false
set_option maxRecDepth 100000

/-- The document's disk by value. -/
def refV (sa : Option Addr) (sn sc : Nat) (qa : Option Addr) (qn qc : Nat) (dead : Bool) (arm deeds : Int) : Value := .agg #[.slice sa sn sc, .slice qa qn qc, .bool dead, .int .i64 arm, .int .i64 deeds]
def mayR (dead : Bool) (n : Nat) (at_ : Int) : Int := if at_ < 0 ∨ (n : Int) ≤ at_ then 1 else if dead then 20 else 0

theorem rmay_is (sa : Option Addr) (sn sc : Nat) (qa : Option Addr) (qn qc : Nat) (dead : Bool) (arm deeds at_ : Int) (w : World) :
    Calls Try.prog 117 #[refV sa sn sc qa qn qc dead arm deeds, .int .i64 at_] w fun e w' => e = .returned (.int .i64 (mayR dead sn at_)) ∧ Below w.heap.size w w' := by
  unfold refV
  have hb := below_box w (.cells #[.slice sa sn sc, .slice qa qn qc, .bool dead, .int .i64 arm, .int .i64 deeds] 28)
  by_cases h1 : at_ < 0
  · have HE : Hid (mayR dead sn at_ = 1) := if_pos (.inl h1)
    go_enter Try.func117, Try.ntmps117
    go_wp2
    go_ret
    exact ⟨ret_int HE.out.symm, hb⟩
  by_cases h2 : (sn : Int) ≤ at_
  · have HE : Hid (mayR dead sn at_ = 1) := if_pos (.inr h2)
    go_enter Try.func117, Try.ntmps117
    go_wp2
    go_ret
    exact ⟨ret_int HE.out.symm, hb⟩
  have hno : ¬ (at_ < 0 ∨ (sn : Int) ≤ at_) := by omega
  have e2 : mayR dead sn at_ = if dead then 20 else 0 := if_neg hno
  cases dead with
  | true =>
    have HE : Hid (mayR true sn at_ = 20) := e2
    clear e2 hno
    go_enter Try.func117, Try.ntmps117
    go_wp2
    go_ret
    exact ⟨ret_int HE.out.symm, hb⟩
  | false =>
    have HE : Hid (mayR false sn at_ = 0) := e2
    clear e2 hno
    go_enter Try.func117, Try.ntmps117
    go_wp2
    go_ret
    exact ⟨ret_int HE.out.symm, hb⟩
end Go.Proofs.Ythainmbapikjiaa

namespace Go.Proofs.Ythainmbapikjiaa
open Go.RowKit Go.Sort
set_option linter.unusedVariables false
set_option maxRecDepth 100000

/-- The slice's elements are these truths. -/
def ReadsB (w : World) (a : Option Addr) (len : Nat) (l : List Bool) : Prop :=
  l.length = len ∧ (l = [] ∨ ∃ b off, a = some ⟨b, off, none⟩ ∧ b < w.heap.size ∧ ∀ i, i < len → w.cell? ⟨b, off + i, none⟩ = some (.bool (l.getD i false)))
/-- They lie in none of the disk's own blocks. -/
theorem ReadsB.keeps {g gs : Nat} {cv : Value} {w w' : World} {a : Option Addr} {len : Nat} {l : List Bool} (h : ReadsB w a len l) (k : DKeeps g gs cv w w') (hne : l ≠ [] → ∀ x, a = some x → x.block ≠ g ∧ x.block ≠ gs ∧ cv.ownBlock ≠ some x.block) : ReadsB w' a len l := by
  by_cases h0 : l = []
  · exact ⟨h.1, .inl h0⟩
  replace hne := hne h0
  obtain ⟨h1, h2⟩ := h
  refine ⟨h1, ?_⟩
  rcases h2 with h2 | ⟨b, off, rfl, hb, hc⟩
  · exact .inl h2
  · obtain ⟨n1, n2, n3⟩ := hne _ rfl
    exact .inr ⟨b, off, rfl, Nat.lt_of_lt_of_le hb k.size, fun i hi => (World.cell?_of_block (w := w) (a := ⟨b, off + i, none⟩) (k.block b hb n1 n2 n3)).trans (hc i hi)⟩

def keepsZ (z : List ((Nat × List Nat) × Bool)) : List (Nat × List Nat) := z.filterMap fun x => if x.2 then some x.1 else none
theorem keepsZ_snoc (z : List ((Nat × List Nat) × Bool)) (p : Nat × List Nat) (b : Bool) : keepsZ (z ++ [(p, b)]) = keepsZ z ++ (if b then [p] else []) := by
  cases b <;> simp [keepsZ]
def crashD (D : DiskD) (ks : List Bool) : DiskD := { D with dead := false, armed := false, left := 0, secs := settles (keepsZ (D.cache.zip ks)) D.secs, cache := [] }
theorem zip_take_succ {α β : Type} {l : List α} {m : List β} {k : Nat} {x : α} {y : β} (hx : l[k]? = some x) (hy : m[k]? = some y) : (l.zip m).take (k + 1) = (l.zip m).take k ++ [(x, y)] := by
  rw [List.take_add_one]
  congr 1
  have : (l.zip m)[k]? = some (x, y) := by
    rw [List.getElem?_zip_eq_some]
    exact ⟨hx, hy⟩
  rw [this]
  rfl

set_option maxHeartbeats 1600000 in
theorem dcrash_is {B : Nat} {w : World} {g gs : Nat} {cv : Value} {D : DiskD} (a : Option Addr) (len cap : Nat) (ks : List Bool) (h : IsDisk B w g gs cv D) (hk : ReadsB w a len ks) (hl : len ≤ 9223372036854775807) (hne : ks ≠ [] → ∀ x, a = some x → x.block ≠ g ∧ x.block ≠ gs ∧ cv.ownBlock ≠ some x.block) :
    Calls Try.prog 54 #[.pointer (some ⟨g, 0, none⟩), .slice a len cap] w fun e w' => e = .returned (.tuple #[]) ∧ IsDisk B w' g gs (.slice none 0 0) (crashD D ks) ∧ DKeeps g gs cv w w' := by
  have H1 := Lib.hid h
  have hcl : D.cache.length ≤ 1000000 := h.2.2.2.1.2.2.2.2.1
  obtain ⟨c0, c1, c2, c3, c4, c5⟩ := head_facts h.1
  obtain ⟨m, hm⟩ : ∃ m, D.cache.length = m := ⟨_, rfl⟩
  obtain ⟨ca, cc, hcv⟩ : ∃ ca cc, cv = .slice ca m cc := by
    obtain ⟨_, _, ⟨_, q⟩, _⟩ := H1.out
    rw [hm] at q
    rcases q with ⟨rfl, q⟩ | ⟨gc, cap, cur, rfl, _⟩
    · exact ⟨none, 0, by rw [q]⟩
    · exact ⟨_, _, rfl⟩
  subst hcv
  have HM := Lib.hid hm
  rw [hm] at hcl
  have HK := Lib.hid hk
  have HKL := Lib.hid hk.1
  clear hm h hk c0 c1 c2 c3 c5
  go_enter Try.func54, Try.ntmps54
  go_wp2_with fail
  go_loopw [4, 13] (fun _ i wr => ∃ k : Nat, k ≤ len ∧ k ≤ m ∧ i = .int .i64 k ∧ IsDisk B wr g gs (.slice ca m cc) { D with secs := settles (keepsZ ((D.cache.zip ks).take k)) D.secs } ∧ Only gs w wr) (fun _ i _ => m - (intOf i).toNat)
  case atStart => exact ⟨0, by omega, by omega, rfl, H1.out, Only.refl _ _⟩
  case round =>
    obtain ⟨k, hk1, hk2, rfl, hdk, ok⟩ := hrel
    by_cases hlt : k < len ∧ k < m
    · obtain ⟨hlt1, hlt2⟩ := hlt
      obtain ⟨p, hp⟩ : ∃ p, D.cache[k]? = some p := ⟨_, List.getElem?_eq_getElem (by have := HM.out; omega)⟩
      obtain ⟨b, hb⟩ : ∃ b, ks[k]? = some b := ⟨_, List.getElem?_eq_getElem (by have := HKL.out; omega)⟩
      have hz := zip_take_succ hp hb
      have hkk := HK.out.keeps (DKeeps.of_gs ok) hne
      obtain ⟨bb, off, rfl, hcell⟩ : ∃ bb off, a = some ⟨bb, off, none⟩ ∧ wr.cell? ⟨bb, off + k, none⟩ = some (.bool b) := by
        obtain ⟨_, h2⟩ := hkk
        rcases h2 with rfl | ⟨bb, off, rfl, _, hc⟩
        · simp at hb
        · exact ⟨bb, off, rfl, by rw [hc k hlt1]; simp [List.getD, hb]⟩
      have hmin : decide ((k : Int) < min (len : Int) (m : Int)) = true := decide_eq_true (by omega)
      have hi : (0 : Int) ≤ (k : Int) ∧ (k : Int) < (len : Int) := by omega
      have HZ := Lib.hid hz
      clear hkk hb hz
      cases b with
      | true =>
        have hst := settle_is (D := { D with secs := settles (keepsZ ((D.cache.zip ks).take k)) D.secs }) k p hp hdk
        have hes : (settles (keepsZ ((D.cache.zip ks).take k)) D.secs).set p.1 p.2 = settles (keepsZ ((D.cache.zip ks).take (k + 1))) D.secs := by
          rw [HZ.out, keepsZ_snoc]
          exact (settles_snoc _ _ _).symm
        have HST := Lib.hid hst
        have HS2 := Lib.hid hes
        clear hst hes hp hdk
        go_wp2_with fail
        refine HST.out.mono ?_
        rintro e w2 ⟨rfl, h2, o2⟩
        have h3 : IsDisk B w2 g gs (.slice ca m cc) { D with secs := settles (keepsZ ((D.cache.zip ks).take (k + 1))) D.secs } := by
          rw [← HS2.out]; exact h2
        have o3 := ok.trans o2
        clear h2 o2 ok HS2 HST hcell
        go_wp2
        go_roundw
        case rel => exact ⟨k + 1, by omega, by omega, by go_num, h3, o3⟩
        case measure => simp [intOf]; omega
      | false =>
        have hes : keepsZ ((D.cache.zip ks).take (k + 1)) = keepsZ ((D.cache.zip ks).take k) := by
          rw [HZ.out, keepsZ_snoc]
          simp
        rw [← hes] at hdk
        clear hes hp
        go_wp2
        go_roundw
        case rel => exact ⟨k + 1, by omega, by omega, by go_num, hdk, ok⟩
        case measure => simp [intOf]; omega
    · have hkm : (D.cache.zip ks).take k = D.cache.zip ks := List.take_of_length_le (by rw [List.length_zip, HM.out, HKL.out]; omega)
      rw [hkm] at hdk
      have hmin : decide ((k : Int) < min (len : Int) (m : Int)) = false := decide_eq_false (by omega)
      have hfin := hdk.empty
      obtain ⟨d0, d1, d2, d3, d4, d5⟩ := head_facts hdk.1
      have f0 := head_free hdk.1 0
      have f1 := head_free hdk.1 1
      have f2 := head_free hdk.1 2
      have f4 := head_free hdk.1 4
      have HF := Lib.hid hfin
      clear hkm hfin hdk d3 d5
      go_wp2
      go_end0
      have ho := (((Only.refl g (wr.setCell ⟨g, 4, none⟩ (.slice none 0 0))).setCell 0 (.bool false)).setCell 1 (.bool false)).setCell 2 (.int .i64 0)
      have hh : Head _ g gs (.slice none 0 0) (crashD D ks) := (heap_setCell_same _ g 2 _ _ _ (heap_setCell_same _ g 1 _ _ _ (heap_setCell_same _ g 0 _ _ _ HF.out.1))).trans rfl
      have hok : (crashD D ks).ok := by
        obtain ⟨m1, m2, m3, m4, m5, m6, m7⟩ := HF.out.2.2.2.1
        exact ⟨m1, m2, m3, m4, m5, m6, Nat.zero_le _⟩
      exact ⟨rfl, HF.out.head hh ho rfl rfl hok, ((DKeeps.of_gs ok).trans (DKeeps.of_g ((Only.refl g wr).setCell 4 _))).trans (DKeeps.of_g ho)⟩
end Go.Proofs.Ythainmbapikjiaa

namespace Go.Proofs.Ythainmbapikjiaa
open Go.RowKit Go.Sort
set_option linter.unusedVariables false
set_option maxRecDepth 100000

/-- A list of numbers that the call made. -/
def OwnsI (B : Nat) (w : World) (a : Option Addr) (l : List Int) : Prop := (l = [] ∨ ∃ b, a = some ⟨b, 0, none⟩ ∧ B ≤ b ∧ w.heap[b]? = some (.cells (l.map (Value.int .i64)).toArray 3 (0, 0)))

def newD (n : Nat) : DiskD := ⟨false, false, 0, List.replicate n noughts, [], 0, n, []⟩
theorem info_sec : (Try.prog.info? 106).map (fun i => (i.zero, i.size, i.bytes)) = some (some (.agg (cells noughts)), 128, 128) := by kernel_rfl
theorem run_make_rowN {P : Program} (t e : TypeId) (i : TypeInfo) (z : Value) (ht : P.underlying t = some (.slice e)) (hi : P.info? e = some i) (hz : i.zero = some z)
    (kl kc : IntKind) (n c : Nat) (hnc : n ≤ c) (hbytes : i.bytes * c ≤ 281474976710656) (h63 : c ≤ 9223372036854775807) (w : World) :
    (Instr.makeSlice t (.int kl (n : Int)) (.int kc (c : Int))).run P w = .ok (.slice (some ⟨w.heap.size, 0, none⟩) n c) (w.alloc (.cells (madeCells z.cells (c * i.size)) e)) := by
  have hb : (i.bytes : Int) * (c : Int) ≤ 281474976710656 := by
    have h : ((i.bytes * c : Nat) : Int) ≤ 281474976710656 := by omega
    rwa [Int.natCast_mul] at h
  have hr := run_make (P := P) w t e i z ht hi hz kl kc n c (by omega) (by omega) hb (by omega)
  simp only [Int.toNat_natCast] at hr
  exact hr

theorem made_noughts (n : Nat) : madeCells (cells noughts) (n * 128) = (secV (List.replicate n noughts)).toArray := by
  apply Array.ext_getElem?
  intro k
  have hl : (secV (List.replicate n noughts)).length = n * 128 := by
    have := flat_length (fun s => s.map byteV) 128 (List.replicate n noughts) (fun x hx => by rw [List.eq_of_mem_replicate hx]; rfl)
    rw [List.length_replicate] at this
    exact this
  have hall : ∀ u ∈ secV (List.replicate n noughts), u = byteV 0 := by
    intro u hu
    simp only [secV, List.mem_flatMap] at hu
    obtain ⟨s, hs, hu⟩ := hu
    rw [List.eq_of_mem_replicate hs] at hu
    simp only [noughts, List.map_replicate] at hu
    exact List.eq_of_mem_replicate hu
  by_cases hk : k < n * 128
  · have h1 : (secV (List.replicate n noughts)).toArray[k]? = some (byteV 0) := by
      rw [List.getElem?_toArray, List.getElem?_eq_getElem (by omega)]
      congr 1
      exact hall _ (List.getElem_mem _)
    rw [h1]
    unfold madeCells
    rw [Array.getElem?_map, Array.getElem?_range, if_pos hk]
    have hs : (cells noughts).size = 128 := rfl
    have hm : k % (cells noughts).size < (cells noughts).size := by rw [hs]; exact Nat.mod_lt _ (by decide)
    simp only [Option.map_some]
    rw [getElem!_pos (cells noughts) _ hm]
    congr 1
    have hz : ∀ u ∈ (cells noughts).toList, u = byteV 0 := by
      intro u hu
      have hu' : u ∈ noughts.map byteV := hu
      simp only [noughts, List.map_replicate] at hu'
      exact List.eq_of_mem_replicate hu'
    exact hz _ (by simp)
  · rw [Array.getElem?_eq_none (by rw [size_madeCells]; omega), Array.getElem?_eq_none (by simp; omega)]

theorem newD_ok {n : Nat} (h1 : 1 ≤ n) (h2 : n ≤ 65536) : (newD n).ok := by
  refine ⟨fun s hs => ?_, fun p hp => (by cases hp), ?_, ?_, Nat.zero_le _, Nat.zero_le _, Nat.zero_le _⟩
  · rw [List.eq_of_mem_replicate hs]
    exact ⟨rfl, by intro x hx; have := List.eq_of_mem_replicate hx; omega⟩
  · show 1 ≤ (List.replicate n noughts).length; simp; omega
  · show (List.replicate n noughts).length ≤ 65536; simp; omega

set_option maxHeartbeats 1600000 in
theorem dnew_is (n : Nat) (w : World) (h1 : 1 ≤ n) (h2 : n ≤ 65536) :
    Calls Try.prog 51 #[.int .i64 n] w fun e w' => ∃ g gs, e = .returned (.tuple #[.pointer (some ⟨g, 0, none⟩), .int .i64 0]) ∧ IsDisk w.heap.size w' g gs (.slice none 0 0) (newD n) ∧ Below w.heap.size w w' := by
  obtain ⟨i0, hi, hz0, hz1, hz2⟩ := info_parts info_sec
  have hmk := fun W => run_make_rowN (P := Try.prog) 123 106 i0 (.agg (cells noughts)) Try.underlying123 hi hz0 .i64 .i64 n n (Nat.le_refl _) (by rw [hz2]; omega) (by omega) W
  simp only [hz1, Value.cells, made_noughts] at hmk
  have hok := newD_ok h1 h2
  have HOK := Lib.hid hok
  clear hok hi hz0 hz1 hz2
  go_enter Try.func51, Try.ntmps51
  go_wp2
  go_ret2
  refine ⟨w.heap.size + 1, w.heap.size, rfl, ⟨?_, ?_, World.ownsRow_nil _ _ _ _, HOK.out, Nat.le_succ _, Nat.le_refl _⟩, ((Below.refl _ _).alloc (Nat.le_refl _) _).alloc (by simp) _⟩
  · rw [heap_alloc2_new]
    unfold headV newD
    simp only [List.length_replicate]
    rfl
  · rw [Below.heap_alloc _ _ _ (by simp)]
    show _ = some (Obj.cells (secV (List.replicate n noughts) ++ []).toArray _ _)
    rw [List.append_nil]
    exact heap_alloc_new w _
theorem dnew_no (n : Int) (w : World) (h : n < 1 ∨ 65536 < n) :
    Calls Try.prog 51 #[.int .i64 n] w fun e w' => e = .returned (.tuple #[.pointer none, .int .i64 1]) ∧ w = w' := by
  rcases h with h | h
  · go_enter Try.func51, Try.ntmps51
    go_wp2
    go_ret2
    exact ⟨rfl, rfl⟩
  · have h1 : ¬ n < 1 := by omega
    go_enter Try.func51, Try.ntmps51
    go_wp2
    go_ret2
    exact ⟨rfl, rfl⟩
end Go.Proofs.Ythainmbapikjiaa

namespace Go.Proofs.Ythainmbapikjiaa
open Go.RowKit Go.Sort
set_option linter.unusedVariables false
set_option maxRecDepth 100000

def queueV (l : List (Nat × List Nat)) (k : Nat) : Array Value := ((l.take k).map (fun p => Value.int .i64 p.1) ++ List.replicate (l.length - k) (Value.int .i64 0)).toArray
theorem queueV_size {l : List (Nat × List Nat)} {k : Nat} (hk : k ≤ l.length) : (queueV l k).size = l.length := by simp [queueV]; omega
theorem queueV_step {l : List (Nat × List Nat)} {k : Nat} {p : Nat × List Nat} (hp : l[k]? = some p) : (queueV l k).setIfInBounds k (.int .i64 p.1) = queueV l (k + 1) := by
  have hk : k < l.length := (List.getElem?_eq_some_iff.1 hp).1
  have hlen : ((l.take k).map (fun p => Value.int .i64 p.1)).length = k := by simp; omega
  unfold queueV
  apply Array.ext'
  rw [Array.toList_setIfInBounds]
  simp only
  rw [List.set_append_right _ _ (by omega), hlen, Nat.sub_self, List.take_add_one, hp]
  rw [show l.length - k = (l.length - (k + 1)) + 1 by omega, List.replicate_succ]
  simp
theorem info_int : (Try.prog.info? 3).map (fun i => (i.zero, i.size, i.bytes)) = some (some (.int .i64 0), 1, 8) := by kernel_rfl

set_option maxHeartbeats 1600000 in
theorem dqueue_is {B : Nat} {w : World} {g gs : Nat} {cv : Value} {D : DiskD} (h : IsDisk B w g gs cv D) :
    Calls Try.prog 71 #[.pointer (some ⟨g, 0, none⟩)] w fun e w' => ∃ gq, e = .returned (.slice (some ⟨gq, 0, none⟩) D.cache.length D.cache.length) ∧ w.heap.size ≤ gq ∧ w'.heap[gq]? = some (.cells (queueV D.cache D.cache.length) 3 (0, 0)) ∧ Below w.heap.size w w' := by
  have H := Lib.hid h
  have hcl : D.cache.length ≤ 1000000 := h.2.2.2.1.2.2.2.2.1
  obtain ⟨c0, c1, c2, c3, c4, c5⟩ := head_facts h.1
  have hgl : g < w.heap.size := (Array.getElem?_eq_some_iff.1 h.1).1
  obtain ⟨m, hm⟩ : ∃ m, D.cache.length = m := ⟨_, rfl⟩
  obtain ⟨ca, cc, hcv⟩ : ∃ ca cc, cv = .slice ca m cc := by
    obtain ⟨_, _, ⟨_, q⟩, _⟩ := H.out
    rw [hm] at q
    rcases q with ⟨rfl, q⟩ | ⟨gc, cap, cur, rfl, _⟩
    · exact ⟨none, 0, by rw [q]⟩
    · exact ⟨_, _, rfl⟩
  subst hcv
  obtain ⟨i0, hi, hz0, hz1, hz2⟩ := info_parts info_int
  have hmk := fun W => run_make_rowN (P := Try.prog) 72 3 i0 (.int .i64 0) Try.underlying72 hi hz0 .i64 .i64 m m (Nat.le_refl _) (by rw [hz2]; omega) (by omega) W
  have hq0 : madeCells #[.int .i64 0] (m * 1) = queueV D.cache 0 := by
    apply Array.ext'
    rw [toList_madeCells_one, Nat.mul_one]
    simp [queueV, hm]
  simp only [hz1, Value.cells, hq0] at hmk
  have HM := Lib.hid hm
  rw [hm] at hcl
  have hg0 := heap_alloc_new w (.cells (queueV D.cache 0) 3)
  have hb0 := below_box w (.cells (queueV D.cache 0) 3)
  rw [hm]
  have HG0 := Lib.hid hg0
  clear h hm c0 c1 c2 c3 c5 hi hz0 hz1 hz2 hq0 hg0
  go_enter Try.func71, Try.ntmps71
  go_wp2_with fail
  go_loopw [4, 16] (fun _ i wr => ∃ k : Nat, k ≤ m ∧ i = .int .i64 k ∧ wr.heap[w.heap.size]? = some (.cells (queueV D.cache k) 3 (0, 0)) ∧ Below w.heap.size w wr) (fun _ i _ => m - (intOf i).toNat)
  case atStart => exact ⟨0, by omega, rfl, HG0.out, hb0⟩
  case round =>
    obtain ⟨k, hk, rfl, hg, hb⟩ := hrel
    by_cases hlt : k < m
    · obtain ⟨p, hp⟩ : ∃ p, D.cache[k]? = some p := ⟨_, List.getElem?_eq_getElem (by have := HM.out; omega)⟩
      obtain ⟨gc, cap, hcv, hlc, hcm, hBc, hgcl, _, _, hcell, _⟩ := cache_at H.out hp
      injection hcv with q1 q2 q3
      subst q1 q3
      clear q2
      have d4 := (hb.cell (p := ⟨g, 4, none⟩) hgl).trans c4
      have e0 := (hb.cell (p := ⟨gc, k * 129, none⟩) hgcl).trans hcell
      have hst := queueV_step hp
      have hi : (0 : Int) ≤ (k : Int) ∧ (k : Int) < (m : Int) := by omega
      have hu : ∃ u, wr.cell? ⟨w.heap.size, k, none⟩ = some u := by
        have hs := queueV_size (l := D.cache) (k := k) (by have := HM.out; omega)
        have := HM.out
        refine ⟨(queueV D.cache k)[k]'(by omega), ?_⟩
        unfold World.cell?
        rw [hg]
        simp
      obtain ⟨u, hu⟩ := hu
      have hfz := frozen_of_row wr w.heap.size k _ _ hg
      have hg2 : (wr.setCell ⟨w.heap.size, k, none⟩ (.int .i64 p.1)).heap[w.heap.size]? = some (.cells (queueV D.cache (k + 1)) 3 (0, 0)) := by
        rw [heap_setCell_same _ _ _ _ _ _ hg, hst]
      have hb2 := hb.setCell (p := ⟨w.heap.size, k, none⟩) (Nat.le_refl _) (.int .i64 p.1)
      have HG2 := Lib.hid hg2
      clear hp hg hst hb hcell hg2
      go_wp2
      go_roundw
      case rel => exact ⟨k + 1, by omega, by go_num, HG2.out, hb2⟩
      case measure => simp [intOf]; omega
    · have hkm : k = D.cache.length := by have := HM.out; omega
      rw [hkm] at hg
      have hgf : wr.heap[w.heap.size]? = some (.cells (queueV D.cache m) 3 (0, 0)) := by rw [← HM.out]; exact hg
      have HGF := Lib.hid hgf
      clear hg hkm hgf
      go_wp2
      go_ret
      exact ⟨_, rfl, Nat.le_refl _, HGF.out, hb⟩
end Go.Proofs.Ythainmbapikjiaa

namespace Go.Proofs.Ythainmbapikjiaa
open Go.RowKit
set_option linter.unusedVariables false
set_option maxRecDepth 100000

theorem add_none (b off i : Nat) : (⟨b, off, none⟩ : Addr).add i = ⟨b, off + i, none⟩ := by unfold Addr.add; split <;> simp_all

/-- 'append(own, bytes...)' at a step of a region that draws its order. -/
theorem step_append_bytes {w : World} {ops : Array Oper} {o : Oper} {a : Act} {K : Act → World → Prop} {Q : Exit → Act → World → Prop} {E : Prop} (hgd : Region.wanted o (yielded ops a.tmps) = true) (s x : Operand)
    (ho : o.op = .call { callee := .builtin .append, args := #[s, x], argTypes := #[33, 33] })
    (B : Nat) (v : Value) (l : List Nat) (hs : a.eval s = v) (hown : Owns B w v l) (g off m c : Nat) (hx : a.eval x = .slice (some ⟨g, off, none⟩) m c) (news : List Nat) (hr : Reads w (some ⟨g, off, none⟩) m news) (hm0 : 0 < m)
    (hb : l.length + m ≤ 100000) (hB : B ≤ w.heap.size)
    (h : ∀ v' w', Owns B w' v' (l ++ news) → w.grownBy w' v.ownBlock → K (a.put o.dst v') w') :
    if Region.wanted o (yielded ops a.tmps) = true then Oper.wp Try.prog o a w K Q else E := by
  rw [if_pos hgd]
  obtain ⟨hl, hown⟩ := hown
  obtain ⟨hlen, hbs, hr⟩ := hr
  obtain ⟨i0, hi, hz0, hz1, hz2⟩ := info_parts info_u8
  refine wp_append_own w s x 33 ho B 5 i0 (.int .u8 0) 1 1 Try.underlying33 hi hz0 hz1 hz2 rfl (by decide) v l.length (l.map byteV) hs hown ⟨g, off, none⟩ m c (news.map byteV) hx (by simp [hlen])
      ?_ (byteV_oneCell _) (by unfold maxLen; omega) (by omega) hB (fun v' w' h1 h2 _ => h v' w' ⟨hl.append hbs, by rw [List.length_append, hlen, List.map_append]; exact h1⟩ h2)
  intro j u hu
  rcases hr with rfl | ⟨b', off', he, _, hc⟩
  · simp at hu
  · cases he
    simp only [List.getElem?_map, Option.map_eq_some_iff] at hu
    obtain ⟨y, hy, rfl⟩ := hu
    have hj : j < m := by rw [← hlen]; exact (List.getElem?_eq_some_iff.1 hy).1
    rw [add_none, hc j hj]
    simp [List.getD, hy, byteV]

theorem Reads.some_of {w : World} {a : Option Addr} {len : Nat} {l : List Nat} (h : Reads w a len l) (h0 : 0 < len) : ∃ b off, a = some ⟨b, off, none⟩ := by
  obtain ⟨h1, _, h3⟩ := h
  rcases h3 with rfl | ⟨b, off, rfl, _⟩
  · simp at h1; omega
  · exact ⟨b, off, rfl⟩
theorem Owns.mono {B B' : Nat} {w : World} {v : Value} {l : List Nat} (h : Owns B w v l) (hB : B' ≤ B) : Owns B' w v l := by
  obtain ⟨h1, h2, h3⟩ := h
  refine ⟨h1, h2, ?_⟩
  rcases h3 with h3 | ⟨g, cap, cur, hv, hb, rest⟩
  · exact .inl h3
  · exact .inr ⟨g, cap, cur, hv, Nat.le_trans hB hb, rest⟩
end Go.Proofs.Ythainmbapikjiaa
