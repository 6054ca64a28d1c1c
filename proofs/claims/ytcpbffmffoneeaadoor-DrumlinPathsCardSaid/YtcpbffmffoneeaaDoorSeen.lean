/- Was it asked of the same ahead of now? The program's closure over a map of needs. -/
import Derived.Test.YtcpbffmffoneeaaDoorNeeds
import Derived.Maps.OwnOps
import Derived.Maps.Views
import Derived.DeepKeys4
import Derived.WideKeyEntry
import Derived.RegionTactic
import Derived.ChangeAlike
namespace Go.Proofs.YtcpbffmffoneeaaDoor
open Go.RowKit Go.Sort Go.Maps Go.ChangeMaps
set_option linter.unusedVariables false
set_option linter.unusedSimpArgs false
set_option maxRecDepth 100000

def aggN (p : Int × Int) : Value := .agg #[.int .i64 p.1, .int .i64 p.2]
def SmallP (p : Int × Int) : Prop := (0 ≤ p.1 ∧ p.1 ≤ 3) ∧ (0 ≤ p.2 ∧ p.2 ≤ 1063)
def keyN (p : Int × Int) : Lit := .string (keyBytes [.int .i64 p.1, .int .i64 p.2])
theorem law_need : WideMaps.KeyLaw Tryd.prog 52 := deep_law_laid laidOut (m := 2) (by decide) (of_decide_eq_true (by kernel_rfl)) (by kernel_rfl) (by kernel_rfl)
theorem keyed_need : Keyed Tryd.prog 52 := Keyed.of_law law_need
theorem wf_small {n : Int} (h0 : 0 ≤ n) (h1 : n ≤ 1063) : (Lit.int .i64 n).wf = true := by
  simp [Lit.wf, IntKind.min, IntKind.max, IntKind.signed, IntKind.bits]; omega
theorem lits_need (d : Nat) (a b : Int) (ha : (Lit.int .i64 a).wf = true) (hb : (Lit.int .i64 b).wf = true) : Tryd.prog.keyLits (d + 2) 52 [.int .i64 a, .int .i64 b] = some [.int .i64 a, .int .i64 b] := by
  have c2 : Tryd.prog.cellsOf 52 = 2 := by kernel_rfl
  have c1 : Tryd.prog.cellsOf 3 = 1 := by kernel_rfl
  unfold Program.keyLits
  rw [Tryd.underlying52]
  simp only [c2, c1]
  unfold Program.keyLits
  simp [Tryd.underlying3, ha, hb, c1]
theorem key_need {p : Int × Int} (hp : SmallP p) : keyOf Tryd.prog 52 (aggN p) = some (keyN p) := by
  obtain ⟨⟨a0, a1⟩, b0, b1⟩ := hp
  have kt : Tryd.prog.keyType 52 = true := by kernel_rfl
  have c2 : Tryd.prog.cellsOf 52 = 2 := by kernel_rfl
  have e : Tryd.prog.types.size + 1 = (Tryd.prog.types.size - 1) + 2 := by kernel_rfl
  have hl := lits_need (Tryd.prog.types.size - 1) p.1 p.2 (wf_small a0 (by omega)) (wf_small b0 b1)
  rw [← e] at hl
  have hf : (Value.agg #[.int .i64 p.1, .int .i64 p.2]).formed Tryd.prog 52 = true := by
    unfold Value.formed
    rw [Tryd.underlying52]
    simp [c2]
  unfold keyOf aggN
  rw [Tryd.underlying52]
  simp only [kt, hf, Bool.and_self, if_true]
  show Option.map _ (Tryd.prog.keyLits (Tryd.prog.types.size + 1) 52 [.int .i64 p.1, .int .i64 p.2]) = _
  rw [hl]
  rfl
theorem keyN_inj {p q : Int × Int} (hp : SmallP p) (hq : SmallP q) (h : keyN p = keyN q) : p = q := by
  have e := law_need.inj (key_need hp) (h ▸ key_need hq)
  unfold aggN at e
  simp at e
  exact Prod.ext e.1 e.2
theorem keyN_is (p : Int × Int) : WideAt.IsKeyLit (keyN p) := by unfold keyN; trivial

/-- The map: how often it was asked of each. -/
def Asked (w : World) (b m n : Nat) (asked : List (Int × Int)) : Prop :=
  w.heap[b]? = some (.cells #[.map (some m)] 61 (0, 0)) ∧ b ≠ m ∧ ∃ D : DataW Unit, w.ownsMap Tryd.prog 52 (plainElem Tryd.prog 3) m n D ∧ IsMap D ∧ ∀ p, SmallP p → D.atKey (keyN p) (.lit (.int .i64 0)) = .lit (.int .i64 (asked.count p : Int))
theorem zero_int (w : World) : (zeroValue 3).run Tryd.prog w = .ok (.int .i64 0) w := by kernel_rfl

/-- What mapEntry and entryStore do, between which the map is read. -/
theorem bump {w : World} {m n : Nat} {D : DataW Unit} (hIs : IsMap D) (h : w.ownsMap Tryd.prog 52 (plainElem Tryd.prog 3) m n D) (hn : n < maxLen) {p : Int × Int} (hp : SmallP p) (c : Int) (hc : D.atKey (keyN p) (.lit (.int .i64 0)) = .lit (.int .i64 c)) (hwf : (Lit.int .i64 (c + 1)).wf = true) :
    ∃ v0 st w1, (Instr.mapEntry 61 (.map (some m)) (aggN p)).run Tryd.prog w = .ok (.tuple #[v0, .int .i64 st]) w1 ∧ w.grownBy w1 (some m) ∧ w1.heap.size = w.heap.size ∧
      (Instr.lookup 61 (.map (some m)) (aggN p) false).run Tryd.prog w1 = .ok (.int .i64 c) w1 ∧
      ∃ w2, (Instr.entryStore 61 (.map (some m)) (.int .i64 st) (.int .i64 (c + 1))).run Tryd.prog w1 = .ok () w2 ∧ w2.ownsMap Tryd.prog 52 (plainElem Tryd.prog 3) m (n + 1) (D.put (keyN p) (.lit (.int .i64 (c + 1)))) ∧ w.grownBy w2 (some m) ∧ w2.heap.size = w.heap.size := by
  have ht := Tryd.underlying61
  have hkey := key_need hp
  have hl0 := h.lookup_int keyed_need ht Tryd.underlying3 (zero_int w) hkey
  have hw0 : (Lit.int .i64 0).wf = true := by decide
  have hup0 := h.update keyed_need ht hn hkey (plainElem_int Tryd.underlying3 hw0)
  obtain ⟨wz, hz1, hz2, hz3⟩ := hup0
  obtain ⟨wf', hf1, hf2, hf3⟩ := h.update keyed_need ht hn hkey (plainElem_int Tryd.underlying3 hwf)
  have hsave := h
  obtain ⟨es, clock, hb, F, hs, hD⟩ := h
  obtain ⟨v0, st, es1, clock1, hrun1, hv0, hst⟩ := WideElems.entry_then_store law_need ht zero_int hb F hkey
  have hset : (setBlock w m (.map es1 clock1)).heap[m]? = some (.map es1 clock1) := heap_setBlock_same hb _
  obtain ⟨es', clock', hs1, hs2⟩ := hst (setBlock w m (.map es1 clock1)) (.int .i64 (c + 1)) hset
  have e1 : wf' = setBlock w m (.map es' clock') := by
    rw [hs2] at hf1
    exact (Result.ok.inj hf1).2.symm
  have e2 : setBlock (setBlock w m (.map es1 clock1)) m (.map es' clock') = setBlock w m (.map es' clock') := by
    unfold setBlock
    simp
  rw [e2] at hs1
  have hg1 : w.grownBy (setBlock w m (.map es1 clock1)) (some m) := ⟨rfl, rfl, rfl, by simp [setBlock], fun i _ hi => heap_setBlock_other hb _ (fun e => hi (by rw [e]))⟩
  obtain ⟨c0, hc0, hc1, hc2⟩ := hl0
  have hcc : c0 = c := by
    rw [hc] at hc1
    simpa using hc1.symm
  subst hcc
  refine ⟨v0, st, setBlock w m (.map es1 clock1), hrun1, hg1, by simp [setBlock], ?_, setBlock w m (.map es' clock'), hs1, e1 ▸ hf2, e1 ▸ hf3, by simp [setBlock]⟩
  -- the look-up behind mapEntry
  rcases law_need.find w hkey es.toList F.keys with ⟨h1, h2⟩ | ⟨j, e0, h1, h2, h3⟩
  · have hm : (Instr.mapUpdate 61 (.map (some m)) (aggN p) (.int .i64 0)).run Tryd.prog w = .ok () (setBlock w m (.map (es.push ⟨aggN p, .int .i64 0, clock⟩) (clock + 1))) := by
      simp [Instr.mapUpdate, run_underlying ht, MapKept.run_getObj_map hb, law_need.check w false hkey, h1, MapKept.run_setObj_map _ hb, Result.andThen, setBlock]
    have hr : (Instr.mapEntry 61 (.map (some m)) (aggN p)).run Tryd.prog w = .ok (.tuple #[.int .i64 0, goInt clock]) (setBlock w m (.map (es.push ⟨aggN p, .int .i64 0, clock⟩) (clock + 1))) := by
      simp [Instr.mapEntry, run_underlying ht, MapKept.run_getObj_map hb, law_need.check w false hkey, h1, zero_int, MapKept.run_setObj_map _ hb, Result.andThen, setBlock]
    have e3 : setBlock w m (.map es1 clock1) = wz := by
      rw [hr] at hrun1
      rw [hm] at hz1
      exact (Result.ok.inj hrun1).2.symm.trans (Result.ok.inj hz1).2
    have hc3 : c0 = 0 := by
      have hrun0 : (Instr.lookup 61 (.map (some m)) (aggN p) false).run Tryd.prog w = .ok (.int .i64 0) w := by
        simp [Instr.lookup, run_underlying ht, MapKept.run_getObj_map hb, law_need.check w _ hkey, h1, zero_int, Result.andThen]
      rw [hrun0] at hc0
      have := (Result.ok.inj hc0).1
      simpa using this.symm
    rw [e3]
    obtain ⟨c4, hc4, hc5, _⟩ := hz2.lookup_int keyed_need ht Tryd.underlying3 (zero_int wz) hkey
    rw [hc4, hc3]
    rw [atKey_put_same hIs (keyN_is p)] at hc5
    have : c4 = 0 := by simpa using hc5.symm
    rw [this]
  · have hj : es[j]? = some e0 := by simpa using h2
    have e3 : setBlock w m (.map es1 clock1) = setBlock w m (.map es clock) := by
      have hsame : es.modify j (fun e => { e with key := aggN p }) = es := by
        apply Array.ext'
        rw [Array.toList_modify, modify_eq_set _ _ _ _ h2]
        have e5 : ({ e0 with key := aggN p } : MapEntry) = e0 := by rw [← h3]
        rw [e5]
        exact WideElems.set_self _ _ _ h2
      have hr : (Instr.mapEntry 61 (.map (some m)) (aggN p)).run Tryd.prog w = .ok (.tuple #[e0.val, goInt e0.born]) (setBlock w m (.map es clock)) := by
        simp [Instr.mapEntry, run_underlying ht, MapKept.run_getObj_map hb, law_need.check w false hkey, h1, hj, h3, law_need.stays w hkey, hsame, MapKept.run_setObj_map _ hb, Result.andThen, setBlock]
      rw [hr] at hrun1
      exact (Result.ok.inj hrun1).2.symm
    have hown1 : (setBlock w m (.map es1 clock1)).ownsMap Tryd.prog 52 (plainElem Tryd.prog 3) m n D := by
      rw [e3]
      exact ⟨es, clock, heap_setBlock_same hb _, F, hs, hD⟩
    obtain ⟨c4, hc4, hc5, _⟩ := hown1.lookup_int keyed_need ht Tryd.underlying3 (zero_int _) hkey
    rw [hc4]
    rw [hc] at hc5
    have : c4 = c0 := by simpa using hc5.symm
    rw [this]

def memB (p : Int × Int) (l : List (Int × Int)) : Bool := decide (p ∈ l)
/-- What a call of the closure leaves. -/
def SeenPost (p : Int × Int) (w : World) (b m n : Nat) (asked : List (Int × Int)) (e : Ending) (w' : World) : Prop :=
  e = .returned (.bool (memB p asked)) ∧ Asked w' b m (n + 1) (asked ++ [p]) ∧ w.grownBy w' (some m)
set_option maxHeartbeats 1600000 in
theorem seen_is (p : Int × Int) (hp : SmallP p) (w : World) (b m n : Nat) (asked : List (Int × Int)) (h : Asked w b m n asked) (hl : asked.length ≤ n) (hn : n < 1000000000000000000) :
    Calls Tryd.prog 21 #[.agg #[.int .i64 p.1, .int .i64 p.2], .pointer (some ⟨b, 0, none⟩)] w (SeenPost p w b m n asked) := by
  obtain ⟨hb, hbm, D, hown, hIs, hat⟩ := h
  obtain ⟨c, hc⟩ : ∃ c, (asked.count p : Int) = c := ⟨_, rfl⟩
  have hcp := hat p hp
  rw [hc] at hcp
  have hcb : 0 ≤ c ∧ c < 1000000000000000000 := by
    have := List.count_le_length (a := p) (l := asked)
    omega
  have hwf : (Lit.int .i64 (c + 1)).wf = true := by simp [Lit.wf, IntKind.min, IntKind.max, IntKind.signed, IntKind.bits]; omega
  have hmax : n < maxLen := by unfold maxLen; omega
  obtain ⟨p1, p2⟩ := p
  have h0 : ((w.alloc (.cells #[.int .i64 p1, .int .i64 p2] 52)).drew).ownsMap Tryd.prog 52 (plainElem Tryd.prog 3) m n D := (hown.alloc _).drew
  obtain ⟨c0, l1, l2, _⟩ := h0.lookup_int keyed_need Tryd.underlying61 Tryd.underlying3 (zero_int _) (key_need hp)
  have e0 : c0 = c := by rw [hcp] at l2; simpa using l2.symm
  subst e0
  obtain ⟨v0, st, w1, r1, g1, s1, r2, w2, r3, o3, g3, s3⟩ := bump hIs h0 hmax hp c0 hcp hwf
  obtain ⟨c5, r5, l5, _⟩ := o3.lookup_int keyed_need Tryd.underlying61 Tryd.underlying3 (zero_int _) (key_need hp)
  rw [atKey_put_same hIs (keyN_is _)] at l5
  have e5 : c5 = c0 + 1 := by simpa using l5.symm
  subst e5
  unfold aggN at l1 r1 r2 r5
  have k0 : w.cell? ⟨b, 0, none⟩ = some (.map (some m)) := by unfold World.cell?; rw [hb]; rfl
  have hbl : b < w.heap.size := (Array.getElem?_eq_some_iff.1 hb).1
  have hb2 : w2.heap[b]? = some (.cells #[.map (some m)] 61 (0, 0)) := by
    have e1 := g3.block b (show b < (w.alloc _).heap.size by simp; omega) (fun e => hbm (Option.some.inj e))
    refine e1.trans ?_
    show (w.alloc _).heap[b]? = _
    rw [Below.heap_alloc _ _ _ hbl]
    exact hb
  have hmlt := hown.lt
  have hk2 : w2.heap[w.heap.size]? = some (.cells #[.int .i64 p1, .int .i64 p2] 52 (0, 0)) := by
    have e1 := g3.block w.heap.size (show w.heap.size < (w.alloc _).heap.size by simp) (fun e => by have := Option.some.inj e; omega)
    refine e1.trans ?_
    show (w.alloc _).heap[w.heap.size]? = _
    exact heap_alloc_new w _
  have q0 : w2.cell? ⟨b, 0, none⟩ = some (.map (some m)) := by unfold World.cell?; rw [hb2]; rfl
  have q1 : w2.cell? ⟨w.heap.size, 0, none⟩ = some (.int .i64 p1) := by unfold World.cell?; rw [hk2]; rfl
  have q2 : w2.cell? ⟨w.heap.size, 1, none⟩ = some (.int .i64 p2) := by unfold World.cell?; rw [hk2]; rfl
  have hgrow : w.grownBy w2 (some m) := by
    refine ⟨g3.os, g3.tape, g3.output, ?_, fun i hi hne => ?_⟩
    · have := g3.size; exact Nat.le_trans (by show w.heap.size ≤ (w.alloc _).heap.size; simp) this
    · refine (g3.block i (show i < (w.alloc _).heap.size by simp; omega) hne).trans ?_
      show (w.alloc _).heap[i]? = _
      exact Below.heap_alloc _ _ _ hi
  have hAsk : Asked w2 b m (n + 1) (asked ++ [(p1, p2)]) := by
    refine ⟨hb2, hbm, _, o3, hIs.put _ _, fun q hq => ?_⟩
    by_cases e : q = (p1, p2)
    · subst e
      rw [atKey_put_same hIs (keyN_is _), List.count_append]
      have : List.count (p1, p2) [(p1, p2)] = 1 := by simp
      rw [this]
      push_cast
      rw [hc]
    · rw [atKey_put_other (fun hh => e (keyN_inj hq hp hh)), hat q hq, List.count_append]
      have : List.count q [(p1, p2)] = 0 := by
        rw [List.count_eq_zero]; simpa using e
      rw [this]
      rfl
  have HA := Lib.hid (And.intro hAsk hgrow)
  have hmem : memB (p1, p2) asked = decide (1 < c0 + 1) := by
    unfold memB
    have := List.count_pos_iff (a := (p1, p2)) (l := asked)
    exact decide_eq_decide.2 ⟨fun hh => by have := this.2 hh; omega, fun hh => this.1 (by omega)⟩
  have HM := Lib.hid hmem
  clear hAsk hgrow hmem hb2 hk2 hat hIs hown h0 o3 g3 g1 hb hp hc hcp l2 l5 hwf
  obtain ⟨hcb1, hcb2⟩ := hcb
  go_enter Tryd.func21, Tryd.ntmps21
  go_wp2
  go_region
  go_wp2
  go_ret
  refine ⟨?_, HA.out⟩
  rw [HM.out]
  rfl
end Go.Proofs.YtcpbffmffoneeaaDoor
