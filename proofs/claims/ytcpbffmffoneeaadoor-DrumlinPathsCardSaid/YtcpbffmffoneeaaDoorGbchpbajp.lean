/- Paths, blocks and what they cost: what the walk needs. -/
import Derived.Test.YtcpbffmffoneeaaDoorGdiinlaim
import Derived.Test.YtcpbffmffoneeaaDoorGomchbfdb
import Derived.Test.YtcpbffmffoneeaaDoorCut
import Derived.Test.YtcpbffmffoneeaaDoorPathMath
import Derived.Test.YtcpbffmffoneeaaDoorIntsV
namespace Go.Proofs.YtcpbffmffoneeaaDoor
open Go.RowKit Go.Sort
set_option linter.unusedVariables false
set_option linter.unusedSimpArgs false
set_option maxRecDepth 100000

/-- What a parse leaves, told apart. -/
def PathPost (ab di : Bool) (Q : List Bs) (E : Int) (w : World) (e : Ending) (w' : World) : Prop := ∃ a cp, e = .returned (.tuple #[.agg #[.bool ab, .bool di, .slice a Q.length cp], .int .i64 E]) ∧ ReadsV w' a Q.length (strsV Q) ∧ Q.length ≤ cp ∧ cp ≤ maxLen ∧ Below w.heap.size w w'
theorem parse_path (s : ByteArray) (w : World) : Calls Tryd.prog 5 #[.string s] w (PathPost (pAbs s.data.toList) (pDir s.data.toList) (pParts s.data.toList) (parseE s.data.toList) w) := by
  refine (pparse_is s w).mono ?_
  rintro e w' ⟨v, he, ho, hb⟩
  obtain ⟨a, cp, hv, hr, h1, h2⟩ := ho.reads
  rw [strsV_length] at hv hr h1
  exact ⟨a, cp, by rw [he, hv], hr, h1, h2, hb⟩
theorem parts_few (l : Bs) : (pParts l).length ≤ 32 := by
  unfold pParts
  split
  · rename_i h0
    exact (okParts_iff.1 (parseE_ok h0).2.2.2).2
  · simp
theorem parts_good {l : Bs} (h : parseE l = 0) : ∀ p ∈ pParts l, goodE p = 0 ∧ p.length ≤ 26 := by
  intro p hp
  rw [(parse_yes h).2.2] at hp
  obtain ⟨k1, k2, k3, k4⟩ := partsOf_mem hp
  obtain ⟨z1, _, z3, z4⟩ := parseE_ok h
  have hpl := (okParts_iff.1 z4).1 p hp
  refine ⟨?_, hpl⟩
  have hb : badB p = false := by
    cases hb : badB p with
    | false => rfl
    | true =>
      rcases badB_iff.1 hb with h0 | h0
      · exact absurd (k4 _ h0) z1
      · exact absurd h0 k3
  unfold goodE
  rw [hb, if_neg (by decide), if_neg k1, if_neg (by omega)]
theorem csE_put {X : List Ent} {j : Nat} (hj : j < X.length) (x : Ent) : ((csE X).setIfInBounds (j * 2) (.int .i64 x.1)).setIfInBounds (j * 2 + 1) (.string x.2) = csE (X.set j x) := by
  have e1 : X = X.take j ++ X[j] :: X.drop (j + 1) := by rw [← List.drop_eq_getElem_cons hj, List.take_append_drop]
  have hl : (X.take j).length = j := by rw [List.length_take]; omega
  have hs := csE_set (X.take j) (X.drop (j + 1)) X[j] x
  rw [hl, ← e1] at hs
  rw [hs]
  congr 1
  rw [List.set_eq_take_append_cons_drop, if_pos hj]
theorem may_set {X : List Ent} (h : X.all mayD = true) {x : Ent} (hx : mayD x = true) (j : Nat) : (X.set j x).all mayD = true := List.all_eq_true.2 fun y hy => by
  rcases List.mem_or_eq_of_mem_set hy with h1 | rfl
  · exact List.all_eq_true.1 h y h1
  · exact hx
theorem zeroE_may : zeroE.all mayD = true := by decide
theorem part_may {p : Bs} (h : goodE p = 0) {k : Nat} (hk : k < 100) : mayD ((1 + (k : Int)), ⟨p.toArray⟩) = true := by
  unfold mayD
  dsimp only
  rw [if_neg (by omega), decide_eq_true (by omega), h]
  rfl
/-- Rows of three, as they lie. -/
theorem rows_at {B : Nat} {w : World} {v : Value} {T : TypeId} {l : List (List Int)} (h : OwnsR B w T 3 v l) : ∃ v2 cp, v = .slice v2 l.length cp ∧ ∀ q r, l[q]? = some r →
    ∃ g, v2 = some ⟨g, 0, none⟩ ∧ g < w.heap.size ∧ w.cell? ⟨g, q * 3, none⟩ = some (.int .i64 (r[0]?.getD 0)) ∧ w.cell? ⟨g, q * 3 + 1, none⟩ = some (.int .i64 (r[1]?.getD 0)) ∧ w.cell? ⟨g, q * 3 + 2, none⟩ = some (.int .i64 (r[2]?.getD 0)) := by
  rcases h.head with ⟨rfl, hnil⟩ | ⟨g, cp, rfl, hg1, hg2, hc1, hc2, hcells⟩
  · subst hnil
    exact ⟨none, 0, rfl, fun q r hq => by simp at hq⟩
  · refine ⟨some ⟨g, 0, none⟩, cp, rfl, fun q r hq => ⟨g, rfl, hg2, ?_, ?_, ?_⟩⟩
    · have hlt := (List.getElem?_eq_some_iff.1 hq).1
      have := hcells q 0 hlt (by omega)
      rw [hq] at this
      simpa using this
    · have hlt := (List.getElem?_eq_some_iff.1 hq).1
      have := hcells q 1 hlt (by omega)
      rw [hq] at this
      simpa using this
    · have hlt := (List.getElem?_eq_some_iff.1 hq).1
      have := hcells q 2 hlt (by omega)
      rw [hq] at this
      simpa using this
/-- The pieces, as cells. -/
theorem pieces_at {B : Nat} {w : World} {v : Value} {T : TypeId} {a e : Int} (h : OwnsR B w T 3 v (cutR a e)) : ∃ v2 cp, v = .slice v2 (cutN a e) cp ∧ ∀ q, q < cutN a e →
    ∃ g, v2 = some ⟨g, 0, none⟩ ∧ g < w.heap.size ∧ w.cell? ⟨g, q * 3, none⟩ = some (.int .i64 (pieceP a e q).1) ∧ w.cell? ⟨g, q * 3 + 1, none⟩ = some (.int .i64 (pieceP a e q).2.1) ∧ w.cell? ⟨g, q * 3 + 2, none⟩ = some (.int .i64 (pieceP a e q).2.2) := by
  obtain ⟨v2, cp, hv, hc⟩ := rows_at h
  rw [cutR_length] at hv
  exact ⟨v2, cp, hv, fun q hq => hc q _ (cutR_get hq)⟩
theorem run_neq_blk2 {E : List Ent} (hE : E.length = 4) (w : World) : (binOp .neq 31 (.agg (csE E)) (.agg (csE E))).run Tryd.prog w = .ok (.bool false) w := by
  simp only [binOp]
  simp [Op.equal, Op.maxDepth, run_equalIn_blk hE 9997 w]
theorem piece_facts {a e : Int} (ha : 0 ≤ a) (he : e ≤ 136192) {k : Nat} (h : k < cutN a e) :
    (pieceP a e k).1 = a / 128 + k ∧ (0 ≤ (pieceP a e k).1 ∧ (pieceP a e k).1 ≤ 1063) ∧ (0 ≤ (pieceP a e k).2.1 ∧ (pieceP a e k).2.1 < (pieceP a e k).2.2 ∧ (pieceP a e k).2.2 ≤ 128) ∧
    (0 < k → (pieceP a e k).2.1 = 0) ∧ (k + 1 < cutN a e → (pieceP a e k).2.2 = 128) ∧ posI a e k + ((pieceP a e k).2.2 - (pieceP a e k).2.1) = posI a e (k + 1) ∧ (a ≤ posI a e k ∧ posI a e k ≤ e) := by
  obtain ⟨h1, h2, h3⟩ := pieceP_small ha he h
  have h4 := posI_step ha h
  obtain ⟨h5, h6⟩ := cutA_in ha h
  refine ⟨rfl, h1, ⟨h2.1, h2.2, h3⟩, fun h0 => ?_, fun h0 => ?_, ?_, by rw [posI_in h]; omega⟩
  · unfold pieceP
    exact if_neg (by omega)
  · unfold pieceP
    refine if_neg ?_
    unfold cutN at h0
    split at h0 <;> omega
  · rw [posI_in h, ← h4, pieceP_is ha h]
theorem blocks_last {a e : Int} (ha : 0 ≤ a) (h : a < e) : 0 < cutN a e ∧ blocksI e = a / 128 + ((cutN a e : Int) - 1) + 1 := by
  unfold cutN blocksI
  rw [if_pos h, if_neg (by omega)]
  omega
theorem cutE_zero {a m : Int} (hm : 0 ≤ m) (h : cutE a m = 0) : 0 ≤ a ∧ a + m ≤ 136192 := by
  unfold cutE at h
  split at h
  · omega
  · split at h <;> omega
theorem cutE_not {a m : Int} (hm : 0 ≤ m) (h : cutE a m ≠ 0) : a < 0 ∨ 136192 - m < a := by
  unfold cutE at h
  split at h
  · omega
  · split at h <;> omega
theorem cut_room {a e : Int} (ha : 0 ≤ a) (he : e ≤ 136192) (hae : a ≤ e) : a / 128 + (cutN a e : Int) ≤ 1064 := by
  unfold cutN
  split <;> omega
theorem loadRowWant {ops : Array Oper} {rest : List Oper} {op : Oper} {a : Act} {w : World} {Q : Exit → Act → World → Prop} (hw : Region.wanted op (yielded ops a.tmps) = true) (ty : TypeId) (x : Operand) (ho : op.op = .load ty x)
    (b o : Nat) (hx : a.eval x = .pointer (some ⟨b, o, none⟩)) (cs : List Value) (d : TypeDesc) (hc : w.rangeAt b o cs)
    (hu : Tryd.prog.underlying ty = some d) (hd : d.isRow = true) (hi : (Tryd.prog.info? ty).map (·.size) = some cs.length)
    (h : wpList Tryd.prog ops Q rest (a.put op.dst (.agg cs.toArray)) w) : wpList Tryd.prog ops Q (op :: rest) a w :=
  BigFrame.wpList_want hw fun _ hK => wp_load_mid ty x ho b o hx cs d hc hu hd hi (hK _ _ h)
end Go.Proofs.YtcpbffmffoneeaaDoor
