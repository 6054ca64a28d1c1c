/- The document's Rank. -/
import Derived.Test.YtplkglepbedhoaaRank
import Derived.Test.YtplkglepbedhoaaSelMath
import Derived.Deep.LoopGhost
namespace Go.Proofs.Ytplkglepbedhoaa
open Go.RowKit Go.Sort
set_option linter.unusedVariables false
set_option linter.unusedSimpArgs false
set_option maxRecDepth 100000

def boolV (l : List Bool) : List Value := l.map Value.bool
theorem boolV_get {l : List Bool} {i : Nat} {b : Bool} (h : l[i]? = some b) : (boolV l)[i]? = some (.bool b) := by unfold boolV; rw [List.getElem?_map, h]; rfl
theorem boolV_length (l : List Bool) : (boolV l).length = l.length := by unfold boolV; rw [List.length_map]
theorem boolV_set (l : List Bool) (i : Nat) (b : Bool) : (boolV l).set i (.bool b) = boolV (l.set i b) := by unfold boolV; rw [List.map_set]
theorem info_bool : (Try.prog.info? 4).map (fun i => (i.zero, i.size, i.bytes)) = some (some (.bool false), 1, 1) := by kernel_rfl
theorem run_make_bools (n : Nat) (hn : n ≤ 100000) (w : World) :
    (Instr.makeSlice 129 (.int .i64 (n : Int)) (.int .i64 (n : Int))).run Try.prog w = .ok (.slice (some ⟨w.heap.size, 0, none⟩) n n) (w.alloc (.cells (boolV (List.replicate n false)).toArray 4)) := by
  obtain ⟨i0, hi, hz0, hz1, hz2⟩ := info_parts info_bool
  have hr := run_make (P := Try.prog) w 129 4 i0 (.bool false) Try.underlying129 hi hz0 .i64 .i64 n n (by omega) (by omega) (by rw [hz2]; omega) (by omega)
  simp only [Int.toNat_natCast, hz1, Value.cells] at hr
  have e : madeCells #[Value.bool false] (n * 1) = (boolV (List.replicate n false)).toArray := by
    apply Array.ext_getElem?
    intro k
    unfold madeCells boolV
    rw [Array.getElem?_map, Array.getElem?_range, List.getElem?_toArray, List.getElem?_map, List.getElem?_replicate, Nat.mul_one]
    by_cases hk : k < n
    · rw [if_pos hk, if_pos hk]
      simp only [Option.map_some]
      have : k % (#[Value.bool false] : Array Value).size = 0 := Nat.mod_one k
      rw [this]
      rfl
    · rw [if_neg hk, if_neg hk]; rfl
  rw [e] at hr
  exact hr
theorem made_bools (w : World) (n : Nat) (hn : n ≤ 100000) : OwnsV w.heap.size (w.alloc (.cells (boolV (List.replicate n false)).toArray 4)) 4 (.slice (some ⟨w.heap.size, 0, none⟩) n n) (boolV (List.replicate n false)) := by
  have h := OwnsV.new (w := w) (B := w.heap.size) (e := 4) (boolV (List.replicate n false)).toArray (Nat.le_refl _) (by rw [List.size_toArray, boolV_length, List.length_replicate]; unfold maxLen; omega)
  have e : (boolV (List.replicate n false)).toArray.size = n := by rw [List.size_toArray, boolV_length, List.length_replicate]
  rw [e] at h
  exact h
theorem OwnsV.apart2 {B : Nat} {w : World} {e e' : TypeId} {v v' : Value} {l l' : List Value} (h : OwnsV B w e v l) (h' : OwnsV B w e' v' l') (hne : e ≠ e') : v.ownBlock = none ∨ v.ownBlock ≠ v'.ownBlock := by
  rcases h.2 with ⟨rfl, _⟩ | ⟨g, cap, cur, rfl, _, hg, _⟩
  · left; rfl
  · right
    rcases h'.2 with ⟨rfl, _⟩ | ⟨g', cap', cur', rfl, _, hg', _⟩
    · intro h; cases h
    · intro h
      obtain rfl : g = g' := by simpa [Value.ownBlock] using h
      rw [hg] at hg'
      simp at hg'
      exact hne hg'.2
/-- What the document's loop comes to. -/
def rrankL (l : List Nat) : List Nat := selL (ltF l) l.length (List.range l.length)
theorem rank_same (l : List Nat) : rankL l = rrankL l := by
  have W : Weak (ltF l) (fun i => i < l.length) := by
    have key : ∀ a b, a < l.length → b < l.length → ltF l a b = lessB (l.getD a 0) (l.getD b 0) := by
      intro a b ha hb
      unfold ltF
      rw [List.getElem?_eq_getElem ha, List.getElem?_eq_getElem hb]
      simp [List.getD_eq_getElem?_getD, List.getElem?_eq_getElem ha, List.getElem?_eq_getElem hb]
    refine ⟨?_, ?_, ?_⟩
    · intro a ha
      rw [key a a ha ha]
      exact lessB_irr _
    · intro a b c ha hb hc h1 h2
      rw [key a b ha hb] at h1
      rw [key b c hb hc] at h2
      rw [key a c ha hc]
      exact lessB_tr _ _ _ h1 h2
    · intro a b c ha hb hc h1 h2
      rw [key a b ha hb] at h1
      rw [key b c hb hc] at h2
      rw [key a c ha hc]
      exact lessB_neg _ _ _ h1 h2
  exact sortL_selL W (fun x hx => List.mem_range.1 hx) List.pairwise_lt_range (by rw [List.length_range]; exact Nat.le_refl _)
theorem OwnsV.cell {B : Nat} {w : World} {e : TypeId} {g n c : Nat} {l : List Value} (h : OwnsV B w e (.slice (some ⟨g, 0, none⟩) n c) l) {i : Nat} {x : Value} (hx : l[i]? = some x) : w.cell? ⟨g, i, none⟩ = some x := by
  rcases h.head with ⟨e, _⟩ | ⟨g', cap, e, _, _, _, _, hc⟩
  · cases e
  · obtain ⟨e1, _, _⟩ := Value.slice.inj e
    obtain rfl : g = g' := by simpa using e1
    exact hc i x hx
theorem ReadsV.lit2 {w : World} {g : Nat} (cs : Array Value) (e : TypeId) (hg : w.heap.size = g) : ReadsV (w.alloc (.cells cs e)) (some ⟨g, 0, none⟩) cs.size cs.toList := by
  subst hg
  exact ReadsV.lit w cs e
def RRankPost (w : World) (l : List Nat) (e : Ending) (w' : World) : Prop := ∃ v, e = .returned v ∧ OwnsV w.heap.size w' 3 v (natV l) ∧ Below w.heap.size w w'
def allC (_ : Nat) : Bool := true
end Go.Proofs.Ytplkglepbedhoaa
