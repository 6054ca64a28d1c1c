/- A path parsed, by the program's walk. A path parsed, by the program's walk: its parts. A path parsed, by the program's walk: the whole. -/
import Derived.Test.YtcpbffmffoneeaaDoorGjfapmbfi
import Derived.Test.YtcpbffmffoneeaaDoorNameMath
import Derived.Test.YtcpbffmffoneeaaDoorVals
import Derived.RegionTactic
namespace Go.Proofs.YtcpbffmffoneeaaDoor
open Go.RowKit Go.Sort
set_option linter.unusedVariables false
set_option linter.unusedSimpArgs false
set_option maxRecDepth 100000

def strV (l : Bs) : Value := .string ⟨l.toArray⟩
def strsV (Q : List Bs) : List Value := Q.map strV
theorem strV_of (x : ByteArray) : strV x.data.toList = .string x := by unfold strV; rw [Lib.mk_data]
theorem strsV_length (Q : List Bs) : (strsV Q).length = Q.length := List.length_map ..
theorem strsV_append (P Q : List Bs) : strsV (P ++ Q) = strsV P ++ strsV Q := List.map_append
theorem strsV_one (Q : List Bs) : OneCells (strsV Q) := by
  intro u hu
  unfold strsV at hu
  rw [List.mem_map] at hu
  obtain ⟨x, _, rfl⟩ := hu
  rfl
theorem strsV_get {Q : List Bs} {i : Nat} {p : Bs} (h : Q[i]? = some p) : (strsV Q)[i]? = some (strV p) := by unfold strsV; rw [List.getElem?_map, h]; rfl
theorem info_str : (Tryd.prog.info? 9).map (fun i => (i.zero, i.size, i.bytes)) = some (some (.string ByteArray.empty), 1, 16) := by kernel_rfl
theorem indexByte_mem : ∀ (l : Bs) (c : UInt8), decide (0 ≤ Lib.indexByte l c) = decide (c ∈ l)
  | [], c => by simp [Lib.indexByte]
  | b :: l, c => by
    have ih := indexByte_mem l c
    have hge := Lib.indexByte_ge l c
    rw [Lib.indexByte]
    by_cases h : b = c
    · subst h; simp
    · have h1 : (b == c) = false := by simp [h]
      have h2 : ¬ c = b := fun e => h e.symm
      rw [h1]
      by_cases hm : Lib.indexByte l c = -1
      · rw [hm] at ih
        simp [hm, h2]
        simpa using ih
      · have e1 : (Lib.indexByte l c == -1) = false := by simp [hm]
        have h3 : decide (0 ≤ Lib.indexByte l c + 1) = decide (0 ≤ Lib.indexByte l c) := decide_eq_decide.2 (by omega)
        simp only [e1, Bool.false_eq_true, if_false]
        rw [h3, ih]
        simp [h2]
theorem index_one : ∀ (l : Bs) (c : UInt8), Lib.index l [c] = Lib.indexByte l c
  | [], c => rfl
  | b :: l, c => by
    have ih := index_one l c
    rw [Lib.index, Lib.indexByte, ih]
    by_cases h : b = c
    · subst h; simp [List.isPrefixOf]
    · have h2 : ¬ c = b := fun e => h e.symm
      simp [List.isPrefixOf, h, h2]
/-- The library's Split at a slash: the pieces. -/
def bits (s : ByteArray) : List ByteArray := Lib.splitB ⟨#[47]⟩ 0 (Lib.countB s ⟨#[47]⟩) s
theorem bits_pieces (s : ByteArray) : (bits s).map (·.data.toList) = pieces s.data.toList := by
  unfold bits
  rw [Lib.splitB_data]
  exact splitK_slash _
theorem bits_vals (s : ByteArray) : (bits s).map Value.string = strsV (pieces s.data.toList) := by
  rw [← bits_pieces]
  unfold strsV
  rw [List.map_map]
  exact List.map_congr_left fun x _ => (strV_of x).symm
theorem split_core (s : ByteArray) (w : World) (hs : Fit s) : Calls Tryd.prog 24 #[.string s, .string ⟨#[47]⟩, .int .i64 0, .int .i64 (-1)] w fun e w' =>
    e = .returned (.slice (some ⟨w.heap.size, 0, none⟩) (pieces s.data.toList).length (pieces s.data.toList).length) ∧ w' = w.alloc (.cells (strsV (pieces s.data.toList)).toArray 9) := by
  have hle := Lib.countB_le ⟨#[47]⟩ (by decide) s.size s (Nat.le_refl _)
  have hlen : (bits s).length = Lib.countB s ⟨#[47]⟩ + 1 := Lib.splitB_all ⟨#[47]⟩ (by decide) 0 _ s rfl
  have hpl : (pieces s.data.toList).length = Lib.countB s ⟨#[47]⟩ + 1 := by rw [← bits_pieces, List.length_map]; exact hlen
  have c := Any.strings_genSplit_core Tryd.lays221 (by kernel_rfl) s ⟨#[47]⟩ 0 (-1) (Lib.countB s ⟨#[47]⟩ + 1) w hs (by decide) (Nat.zero_le _)
    (fun x c _ => (Tryd.strings_Index_one x 47 _).mono fun e w' ⟨h1, h2⟩ => ⟨by rw [h1]; exact congrArg _ (congrArg _ (index_one _ _).symm), h2⟩)
    ((Tryd.strings_Count_one s 47 w).mono fun e w' ⟨h1, h2⟩ => ⟨by rw [h1]; exact congrArg _ (congrArg _ (congrArg Int.ofNat (Lib.count_one 47 s.data.toList).symm)), h2⟩)
    (by decide) (by decide) (by rw [if_pos (by decide)]; omega)
  rw [Nat.add_sub_cancel] at c
  refine c.mono ?_
  rintro e w' ⟨h1, h2⟩
  have hb : Lib.splitB ⟨#[47]⟩ 0 (Lib.countB s ⟨#[47]⟩) s = bits s := rfl
  rw [hb] at h1 h2
  refine ⟨by rw [h1, hlen, hpl], ?_⟩
  rw [h2, ← hlen, Lib.cellsOf_full, bits_vals]
  rfl
theorem split_is (s : ByteArray) (w : World) (hs : Fit s) : Calls Tryd.prog 14 #[.string s, .string ⟨#[47]⟩] w fun e w' =>
    e = .returned (.slice (some ⟨w.heap.size, 0, none⟩) (pieces s.data.toList).length (pieces s.data.toList).length) ∧ w' = w.alloc (.cells (strsV (pieces s.data.toList)).toArray 9) := by
  have HC := Lib.hid (split_core s w hs)
  go_enter Tryd.func14, Tryd.ntmps14
  go_wp2_with fail
  refine HC.out.mono ?_
  rintro e w' ⟨rfl, hw⟩
  rw [hw]
  go_wp2
  go_ret
  exact ⟨rfl, rfl⟩
/-- Why a text can't be a path. -/
def refE (l : Bs) : Int := if (0 : UInt8) ∈ l then 1 else if l = [] then 4 else if 255 < l.length then 9 else 0
theorem refE_bad {l : Bs} (h : refE l ≠ 0) : parseE l = refE l := by
  unfold refE at h ⊢
  unfold parseE
  by_cases h1 : (0 : UInt8) ∈ l
  · rw [if_pos h1, if_pos h1]
  · rw [if_neg h1, if_neg h1]
    by_cases h2 : l = []
    · rw [if_pos h2, if_pos h2]
    · rw [if_neg h2, if_neg h2]
      by_cases h3 : 255 < l.length
      · rw [if_pos h3, if_pos h3]
      · rw [if_neg h1, if_neg h2, if_neg h3] at h; exact absurd rfl h
theorem refE_good {l : Bs} (h : refE l = 0) : (0 : UInt8) ∉ l ∧ l ≠ [] ∧ l.length ≤ 255 := by
  unfold refE at h
  split at h
  · cases h
  · split at h
    · cases h
    · split at h
      · cases h
      · exact ⟨‹_›, ‹_›, by omega⟩
theorem refusal_is (s : ByteArray) (w : World) : Calls Tryd.prog 13 #[.string s] w fun e w' => e = .returned (.int .i64 (refE s.data.toList)) ∧ w = w' := by
  have hsz := Lib.size_eq s
  have htl := Lib.toList_data s
  have him := indexByte_mem s.data.toList 0
  have HIM := Lib.hid him
  clear him
  by_cases h1 : (0 : UInt8) ∈ s.data.toList
  · have E : Hid (refE s.data.toList = 1) := if_pos h1
    have hd : Hid (decide ((0 : UInt8) ∈ s.data.toList) = true) := decide_eq_true h1
    clear hsz htl h1
    go_enter Tryd.func13, Tryd.ntmps13
    go_wp2_with fail
    refine (Tryd.strings_Contains_one s 0 _).mono ?_
    rintro e w' ⟨rfl, rfl⟩
    rw [HIM.out, hd.out]
    go_wp2
    go_ret
    exact ⟨by rw [E.out]; rfl, rfl⟩
  · have hd : Hid (decide ((0 : UInt8) ∈ s.data.toList) = false) := decide_eq_false h1
    by_cases h0 : s.data.toList = []
    · have E : Hid (refE s.data.toList = 4) := by show _ = _; unfold refE; rw [if_neg h1, if_pos h0]
      have e1 : s.toList = [] := htl.trans h0
      have e2 : s.toList.isEmpty = true := by rw [e1]; rfl
      clear hsz htl h0 h1
      go_enter Tryd.func13, Tryd.ntmps13
      go_wp2_with fail
      refine (Tryd.strings_Contains_one s 0 _).mono ?_
      rintro e w' ⟨rfl, rfl⟩
      rw [HIM.out, hd.out]
      go_wp2
      go_ret
      exact ⟨by rw [E.out]; rfl, rfl⟩
    · have e1 : ¬ s.toList = [] := by rw [htl]; exact h0
      have e2 : s.toList.isEmpty = false := by cases h : s.toList with | nil => exact absurd h e1 | cons => rfl
      by_cases h26 : 255 < s.size
      · have E : Hid (refE s.data.toList = 9) := by show _ = _; unfold refE; rw [if_neg h1, if_neg h0, if_pos (by omega)]
        have h26' : (255 : Int) < (s.size : Int) := by omega
        clear hsz htl h0 h1
        go_enter Tryd.func13, Tryd.ntmps13
        go_wp2_with fail
        refine (Tryd.strings_Contains_one s 0 _).mono ?_
        rintro e w' ⟨rfl, rfl⟩
        rw [HIM.out, hd.out]
        go_wp2
        go_ret
        exact ⟨by rw [E.out]; rfl, rfl⟩
      · have E : Hid (refE s.data.toList = 0) := by show _ = _; unfold refE; rw [if_neg h1, if_neg h0, if_neg (by omega)]
        have h26' : ¬ (255 : Int) < (s.size : Int) := by omega
        clear hsz htl h0 h1
        go_enter Tryd.func13, Tryd.ntmps13
        go_wp2_with fail
        refine (Tryd.strings_Contains_one s 0 _).mono ?_
        rintro e w' ⟨rfl, rfl⟩
        rw [HIM.out, hd.out]
        go_wp2
        go_ret
        exact ⟨by rw [E.out]; rfl, rfl⟩
end Go.Proofs.YtcpbffmffoneeaaDoor

namespace Go.Proofs.YtcpbffmffoneeaaDoor
open Go.RowKit Go.Sort
set_option linter.unusedVariables false
set_option linter.unusedSimpArgs false
set_option maxRecDepth 100000

def pAbs (l : Bs) : Bool := if parseE l = 0 then absB l else false
def pDir (l : Bs) : Bool := if parseE l = 0 then dirB l else false
def pParts (l : Bs) : List Bs := if parseE l = 0 then partsOf l else []
/-- What a call leaves that answers a path and its error. -/
def ParsePost (l : Bs) (w : World) (e : Ending) (w' : World) : Prop :=
  ∃ v, e = .returned (.tuple #[.agg #[.bool (pAbs l), .bool (pDir l), v], .int .i64 (parseE l)]) ∧ OwnsV w.heap.size w' 9 v (strsV (pParts l)) ∧ Below w.heap.size w w'
theorem parse_no {l : Bs} (h : parseE l ≠ 0) : pAbs l = false ∧ pDir l = false ∧ pParts l = [] := ⟨if_neg h, if_neg h, if_neg h⟩
theorem parse_yes {l : Bs} (h : parseE l = 0) : pAbs l = absB l ∧ pDir l = dirB l ∧ pParts l = partsOf l := ⟨if_pos h, if_pos h, if_pos h⟩
theorem fin_no {l : Bs} {w w' : World} {x : Int} (h : parseE l = x) (hx : x ≠ 0) (hb : Below w.heap.size w w') : ParsePost l w (.returned (.tuple #[.agg #[.bool false, .bool false, .slice none 0 0], .int .i64 x])) w' := by
  have h0 : parseE l ≠ 0 := by rw [h]; exact hx
  obtain ⟨h1, h2, h3⟩ := parse_no h0
  exact ⟨_, by rw [h1, h2, h], by rw [h3]; exact OwnsV.nil _ _ _, hb⟩
theorem fin_yes {l : Bs} {w w' : World} {ab di : Bool} {v : Value} (h : parseE l = 0) (ha : absB l = ab) (hd : dirB l = di) (ho : OwnsV w.heap.size w' 9 v (strsV (partsOf l))) (hb : Below w.heap.size w w') :
    ParsePost l w (.returned (.tuple #[.agg #[.bool ab, .bool di, v], .int .i64 0])) w' := by
  obtain ⟨h1, h2, h3⟩ := parse_yes h
  exact ⟨_, by rw [h1, h2, h, ha, hd], by rw [h3]; exact ho, hb⟩

set_option maxHeartbeats 1600000 in
theorem pparse_refused (s : ByteArray) (w : World) (h : refE s.data.toList ≠ 0) : Calls Tryd.prog 5 #[.string s] w (ParsePost s.data.toList w) := by
  have E := refE_bad h
  obtain ⟨x, hx⟩ : ∃ x, refE s.data.toList = x := ⟨_, rfl⟩
  rw [hx] at E h
  have HE := Lib.hid E
  have HX := Lib.hid hx
  have HNE := Lib.hid h
  have hb : (x != 0) = true := by simp [h]
  clear E hx h
  go_enter Tryd.func5, Tryd.ntmps5
  go_wp2_with fail
  refine (refusal_is s _).mono ?_
  rintro e w' ⟨rfl, rfl⟩
  rw [HX.out]
  go_wp2
  refine bodyPost_ret (v := .tuple #[.agg #[.bool false, .bool false, .slice none 0 0], .int .i64 x]) (by simp [results, Tryd.results5, go_sem]) rfl (fin_no HE.out HNE.out ?_)
  exact below_box w _

theorem hasPrefix_abs (l : Bs) : Lib.hasPrefix l [47] = absB l := by
  unfold Lib.hasPrefix absB
  cases l with
  | nil => rfl
  | cons c l =>
    simp only [List.isPrefixOf, List.head?_cons, Bool.and_true]
    by_cases h : c = 47
    · subst h; rfl
    · have h2 : ¬ (47 : UInt8) = c := fun e => h e.symm
      have a1 : ((47 : UInt8) == c) = false := by simp [h2]
      have a2 : (some c == some (47 : UInt8)) = false := by simp [h]
      rw [a1, a2]
/-- Where the loop over the pieces stands. -/
def InLoop (T : TypeId) (w1 wr : World) (ab di : Bool) (v : Value) (D : List Bs) : Prop :=
  wr.heap[w1.heap.size]? = some (.cells #[.bool ab, .bool di, v] T (0, 0)) ∧ OwnsV (w1.heap.size + 1) wr 9 v (strsV (keepL D)) ∧ Below w1.heap.size w1 wr ∧ ∀ p ∈ keepL D, p.length ≤ 26
theorem inLoop_start (T : TypeId) (w1 : World) (ab di : Bool) : InLoop T w1 (w1.alloc (.cells #[.bool ab, .bool di, .slice none 0 0] T)) ab di (.slice none 0 0) [] :=
  ⟨heap_alloc_new w1 _, OwnsV.nil _ _ _, below_box w1 _, by simp [keepL]⟩
theorem inLoop_below {T : TypeId} {w1 wr w2 : World} {ab di : Bool} {v : Value} {D : List Bs} (h : InLoop T w1 wr ab di v D) (b : Below wr.heap.size wr w2) : InLoop T w1 w2 ab di v D := by
  obtain ⟨h1, h2, h3, h4⟩ := h
  exact ⟨by rw [b.block _ (Array.getElem?_eq_some_iff.1 h1).1]; exact h1, h2.below b, h3.trans (b.mono h3.size), h4⟩
theorem inLoop_skip {T : TypeId} {w1 wr : World} {ab di : Bool} {v : Value} {D : List Bs} {p : Bs} (h : InLoop T w1 wr ab di v D) (hp : keptB p = false) : InLoop T w1 wr ab di v (D ++ [p]) := by
  obtain ⟨h1, h2, h3, h4⟩ := h
  unfold InLoop
  rw [keepL_snoc_no hp]
  exact ⟨h1, h2, h3, h4⟩
theorem inLoop_add {T : TypeId} {w1 wr w' : World} {ab di : Bool} {v v' : Value} {D : List Bs} {p : Bs} (h : InLoop T w1 wr ab di v D) (hp : keptB p = true) (h26 : p.length ≤ 26) (ho : OwnsV (w1.heap.size + 1) w' 9 v' (strsV (keepL D) ++ strsV [p])) (hg : wr.grownBy w' v.ownBlock) :
    InLoop T w1 (w'.setCell ⟨w1.heap.size, 2, none⟩ v') ab di v' (D ++ [p]) := by
  obtain ⟨h1, h2, h3, h4⟩ := h
  have hlt := (Array.getElem?_eq_some_iff.1 h1).1
  have hne : some w1.heap.size ≠ v.ownBlock := fun e => by have := (h2.lt _ e.symm).1; omega
  have hb : w'.heap[w1.heap.size]? = some (.cells #[.bool ab, .bool di, v] T (0, 0)) := by rw [hg.block _ hlt hne]; exact h1
  refine ⟨?_, ?_, ?_, ?_⟩
  · have := heap_setCell_same w' w1.heap.size 2 #[.bool ab, .bool di, v] T v' hb
    simpa using this
  · rw [keepL_snoc_yes hp, strsV_append]
    refine ho.kept (row := some w1.heap.size) ⟨rfl, rfl, rfl, by simp, fun k _ hk => heap_setCell_other w' ⟨w1.heap.size, 2, none⟩ k v' (fun e => hk (by simp [e]))⟩ (.inr fun e => ?_)
    have := (ho.lt _ e).1
    omega
  · refine Below.setCell (h3.grown hg h3.size fun k hk => ?_) (Nat.le_refl _) _
    have := (h2.lt k hk).1
    omega
  · rw [keepL_snoc_yes hp]
    intro q hq
    rcases List.mem_append.1 hq with hq | hq
    · exact h4 q hq
    · simp at hq; subst hq; exact h26
/-- A box of three cells, written over: what it reads. -/
theorem box_over {w : World} {g : Nat} {x y z : Value} {T : TypeId} (h : w.heap[g]? = some (.cells #[x, y, z] T (0, 0))) (a b c : Value) :
    (w.setCell ⟨g, 0, none⟩ a).cell? ⟨g, 0, none⟩ = some a ∧ ((w.setCell ⟨g, 0, none⟩ a).setCell ⟨g, 1, none⟩ b).cell? ⟨g, 1, none⟩ = some b ∧ (((w.setCell ⟨g, 0, none⟩ a).setCell ⟨g, 1, none⟩ b).setCell ⟨g, 2, none⟩ c).cell? ⟨g, 2, none⟩ = some c := by
  have h0 := heap_setCell_same w g 0 #[x, y, z] T a h
  have h1 := heap_setCell_same _ g 1 _ T b h0
  have h2 := heap_setCell_same _ g 2 _ T c h1
  refine ⟨?_, ?_, ?_⟩
  · unfold World.cell?; rw [h0]; simp
  · unfold World.cell?; rw [h1]; simp
  · unfold World.cell?; rw [h2]; simp
theorem below_over {w0 w : World} {B g : Nat} (h : Below B w0 w) (hg : B ≤ g) (a b c : Value) : Below B w0 (((w.setCell ⟨g, 0, none⟩ a).setCell ⟨g, 1, none⟩ b).setCell ⟨g, 2, none⟩ c) :=
  ((h.setCell hg _).setCell hg _).setCell hg _
theorem row_grown {T : TypeId} {w1 wr w' : World} {ab di : Bool} {v : Value} {D : List Bs} (h : InLoop T w1 wr ab di v D) (hg : wr.grownBy w' v.ownBlock) : w'.heap[w1.heap.size]? = some (.cells #[.bool ab, .bool di, v] T (0, 0)) := by
  obtain ⟨h1, h2, _⟩ := h
  rw [hg.block _ (Array.getElem?_eq_some_iff.1 h1).1 (fun e => by have := (h2.lt _ e.symm).1; omega)]
  exact h1
theorem owns_over {B : Nat} {w : World} {e : TypeId} {v : Value} {L : List Value} (h : OwnsV B w e v L) {g : Nat} (hg : g < B) (a b c : Value) : OwnsV B (((w.setCell ⟨g, 0, none⟩ a).setCell ⟨g, 1, none⟩ b).setCell ⟨g, 2, none⟩ c) e v L := by
  have one : ∀ (W : World) (k : Nat) (u : Value), OwnsV B W e v L → OwnsV B (W.setCell ⟨g, k, none⟩ u) e v L := fun W k u hh =>
    hh.kept (row := some g) ⟨rfl, rfl, rfl, by simp, fun i _ hi => heap_setCell_other W ⟨g, k, none⟩ i u (fun e => hi (by simp [e]))⟩ (.inr fun e => by have := (hh.lt _ e).1; omega)
  exact one _ _ _ (one _ _ _ (one _ _ _ h))
end Go.Proofs.YtcpbffmffoneeaaDoor

namespace Go.Proofs.YtcpbffmffoneeaaDoor
open Go.RowKit Go.Sort
set_option linter.unusedVariables false
set_option linter.unusedSimpArgs false
set_option maxRecDepth 100000

theorem fit_of {s : ByteArray} (h : s.data.toList.length ≤ 255) : Fit s := by unfold Fit; rw [Lib.size_eq]; omega
theorem goodE_piece {l p : Bs} (h0 : (0 : UInt8) ∉ l) (hp : p ∈ pieces l) (hk : keptB p = true) : goodE p = if 26 < p.length then 9 else 0 := by
  obtain ⟨h1, h2⟩ := pieces_mem hp
  have hb : badB p = false := badB_no.2 ⟨fun h => h0 (h2 0 h), h1⟩
  obtain ⟨h3, _⟩ := keptB_iff.1 hk
  unfold goodE
  rw [hb, if_neg (by decide), if_neg h3]
theorem parse_long {l p : Bs} (h : refE l = 0) (hp : p ∈ pieces l) (hk : keptB p = true) (h26 : 26 < p.length) : parseE l = 9 := by
  obtain ⟨h1, h2, h3⟩ := refE_good h
  refine parseE_bad h1 h2 h3 ?_
  cases hok : okParts (partsOf l) with
  | false => rfl
  | true =>
    have := (okParts_iff.1 hok).1 p (List.mem_filter.2 ⟨hp, hk⟩)
    omega
theorem parse_many {l : Bs} (h : refE l = 0) (h32 : 32 < (partsOf l).length) : parseE l = 9 := by
  obtain ⟨h1, h2, h3⟩ := refE_good h
  refine parseE_bad h1 h2 h3 ?_
  cases hok : okParts (partsOf l) with
  | false => rfl
  | true =>
    have := (okParts_iff.1 hok).2
    omega
theorem parse_ok {l : Bs} (h : refE l = 0) (h26 : ∀ p ∈ partsOf l, p.length ≤ 26) (h32 : (partsOf l).length ≤ 32) : parseE l = 0 := by
  obtain ⟨h1, h2, h3⟩ := refE_good h
  exact parseE_of h1 h2 h3 (okParts_iff.2 ⟨h26, h32⟩)
/-- How the last piece decides. -/
theorem last_ways (l : Bs) : (lastP l = [] ∧ dirB l = true) ∨ (lastP l = [46] ∧ dirB l = true) ∨ (lastP l = [46, 46] ∧ dirB l = true) ∨ (lastP l ≠ [] ∧ lastP l ≠ [46] ∧ lastP l ≠ [46, 46] ∧ dirB l = false) := by
  unfold dirB
  by_cases h1 : lastP l = []
  · left; simp [h1]
  · by_cases h2 : lastP l = [46]
    · right; left; simp [h2]
    · by_cases h3 : lastP l = [46, 46]
      · right; right; left; simp [h3]
      · right; right; right; simp [h1, h2, h3]
/-- A text's tests. -/
theorem txt_tests {x : ByteArray} {p : Bs} (h : x.data.toList = p) : x.toList = p := (Lib.toList_data x).trans h

set_option maxHeartbeats 12800000 in
theorem pparse_good (s : ByteArray) (w : World) (h : refE s.data.toList = 0) : Calls Tryd.prog 5 #[.string s] w (ParsePost s.data.toList w) := by
  obtain ⟨l, hl⟩ : ∃ l, s.data.toList = l := ⟨_, rfl⟩
  rw [hl] at h ⊢
  have HL := Lib.hid hl
  have HX := Lib.hid h
  have hfit : Fit s := fit_of (by rw [hl]; exact (refE_good h).2.2)
  have HFIT := Lib.hid hfit
  obtain ⟨P, hP⟩ : ∃ P, pieces l = P := ⟨_, rfl⟩
  obtain ⟨D, hD⟩ := pieces_split l
  obtain ⟨M, hM⟩ : ∃ M, D.length = M := ⟨_, rfl⟩
  have hPl : P.length = M + 1 := by rw [← hP, hD, List.length_append, hM]; rfl
  have hPlast : P[M]? = some (lastP l) := by rw [← hP, hD, ← hM]; simp
  have hbound : M ≤ 255 := by
    have h1 := pieces_weigh l
    have h2 : ∀ Q : List Bs, Q.length ≤ weighL Q := by
      intro Q; induction Q with
      | nil => exact Nat.le_refl _
      | cons q Q ih => rw [weighL_cons, List.length_cons]; omega
    have h3 := h2 (pieces l)
    have h4 := (refE_good h).2.2
    rw [hP, hPl] at h3
    rw [hP] at h1
    omega
  have HP := Lib.hid hP
  have HPL := Lib.hid hPl
  have HPLAST := Lib.hid hPlast
  have HAB := Lib.hid (hasPrefix_abs l)
  clear hl h hfit hP hD hM hPl hPlast
  go_enter Tryd.func5, Tryd.ntmps5
  go_wp2_with fail
  refine (refusal_is s _).mono ?_
  rintro e w' ⟨rfl, rfl⟩
  rw [HL.out, HX.out]
  go_wp2_with fail
  refine (split_is s _ HFIT.out).mono ?_
  rintro e w1 ⟨rfl, hw1⟩
  rw [HL.out, HP.out, HPL.out]
  rw [HL.out, HP.out] at hw1
  have hrow : ∀ k p, P[k]? = some p → w1.cell? ⟨w.heap.size + 1, k, none⟩ = some (strV p) := fun k p hk => by
    have h1 := (ReadsV.lit (w.alloc (.cells #[.bool false, .bool false, .slice none 0 0] 25)) (strsV P).toArray 9)
    rw [hw1]
    have h2 := heap_alloc_new (w.alloc (.cells #[.bool false, .bool false, .slice none 0 0] 25)) (.cells (strsV P).toArray 9)
    have h3 : (w.alloc (.cells #[.bool false, .bool false, .slice none 0 0] 25)).heap.size = w.heap.size + 1 := by simp
    rw [h3] at h2
    unfold World.cell?
    rw [h2]
    simpa using strsV_get hk
  have hkeep : w1.heap[w.heap.size]? = some (.cells #[.bool false, .bool false, .slice none 0 0] 25 (0, 0)) := by
    rw [hw1, Below.heap_alloc _ _ _ (by simp)]
    exact heap_alloc_new w _
  have hsz : w1.heap.size = w.heap.size + 2 := by rw [hw1]; simp
  have hB1 : Below w.heap.size w w1 := by rw [hw1]; exact (below_box w _).alloc (by simp) _
  have hsg : (w.alloc (.cells #[.bool false, .bool false, .slice none 0 0] 25)).heap.size = w.heap.size + 1 := by simp
  rw [hsg]
  have HROW := Lib.hid hrow
  have HKEEP := Lib.hid hkeep
  have HSZ := Lib.hid hsz
  have HB1 := Lib.hid hB1
  have hz1 : w.heap.size + 1 < w1.heap.size := by omega
  have hz2 : w.heap.size < w1.heap.size := by omega
  clear hw1 hrow hkeep hsz hB1 hsg
  go_wp2_with fail
  refine (Tryd.strings_HasPrefix s ⟨#[47]⟩ _).mono ?_
  rintro e w' ⟨rfl, rfl⟩
  have e47 : (⟨#[47]⟩ : ByteArray).data.toList = [47] := rfl
  rw [HL.out, e47, HAB.out]
  clear e47
  obtain ⟨ab, hab⟩ : ∃ ab, absB l = ab := ⟨_, rfl⟩
  obtain ⟨x, hx⟩ : ∃ x : ByteArray, x = ⟨(lastP l).toArray⟩ := ⟨_, rfl⟩
  have hxl : x.data.toList = lastP l := by rw [hx]
  have hlast : w'.cell? ⟨w.heap.size + 1, M, none⟩ = some (.string x) := by rw [hx]; exact HROW.out M _ HPLAST.out
  have htx := txt_tests hxl
  rw [hab]
  have HABB := Lib.hid hab
  clear hab hx hxl
  have HW := Lib.hid (last_ways l)
  have hways : ∃ di, dirB l = di ∧ ((di = true ∧ (x.toList = [] ∨ x.toList = [46] ∨ x.toList = [46, 46])) ∨ (di = false ∧ x.toList ≠ [] ∧ x.toList ≠ [46] ∧ x.toList ≠ [46, 46])) := by
    rw [htx]
    rcases HW.out with ⟨a, b⟩ | ⟨a, b⟩ | ⟨a, b⟩ | ⟨a1, a2, a3, b⟩
    · exact ⟨_, b, .inl ⟨rfl, .inl a⟩⟩
    · exact ⟨_, b, .inl ⟨rfl, .inr (.inl a)⟩⟩
    · exact ⟨_, b, .inl ⟨rfl, .inr (.inr a)⟩⟩
    · exact ⟨_, b, .inr ⟨rfl, a1, a2, a3⟩⟩
  clear htx HW
  obtain ⟨di, hdi, hways⟩ := hways
  have HDI := Lib.hid hdi
  clear hdi
  have t4 : (di = true ∧ x.toList = [] ∧ x.toList.isEmpty = true) ∨ (di = true ∧ x.toList.isEmpty = false ∧ ¬ x.toList = [] ∧ (x.toList == [46]) = true) ∨ (di = true ∧ x.toList.isEmpty = false ∧ ¬ x.toList = [] ∧ (x.toList == [46]) = false ∧ (x.toList == [46, 46]) = true) ∨ (di = false ∧ x.toList.isEmpty = false ∧ ¬ x.toList = [] ∧ (x.toList == [46]) = false ∧ (x.toList == [46, 46]) = false) := by
    rcases hways with ⟨rfl, h1 | h1 | h1⟩ | ⟨rfl, h1, h2, h3⟩
    · left; rw [h1]; exact ⟨rfl, rfl, rfl⟩
    · right; left; rw [h1]; exact ⟨rfl, rfl, by simp, rfl⟩
    · right; right; left; rw [h1]; exact ⟨rfl, rfl, by simp, rfl, rfl⟩
    · right; right; right; exact ⟨rfl, by simp [h1], h1, by simp [h2], by simp [h3]⟩
  clear hways
  rcases t4 with ⟨rfl, q1, q2⟩ | ⟨rfl, q1, q2, q3⟩ | ⟨rfl, q1, q2, q3, q4⟩ | ⟨rfl, q1, q2, q3, q4⟩
  all_goals
    go_wp2_with fail
    try clear q4
    try clear q3
    clear q1 q2 hlast
    go_loopw [34] (fun k wr => ∃ (j : Nat) (v : Value) (b : Bool), j ≤ M + 1 ∧ k = .int .i64 j ∧ dirB l = b ∧ InLoop 25 w' wr ab b v (P.take j)) (fun k _ => M + 1 - (intOf k).toNat)
    case atStart => exact ⟨0, _, _, by omega, rfl, HDI.out, inLoop_start _ w' ab _⟩
    case round =>
      obtain ⟨j, v, b, hj, rfl, hb, hI⟩ := hrel
      have HI := Lib.hid hI
      have HB := Lib.hid hb
      obtain ⟨a, cp, hv, _, hcp1, hcp2⟩ := hI.2.1.reads
      rw [strsV_length] at hv hcp1
      subst hv
      obtain ⟨c0, c1, c2, f0, f1, f2, hz⟩ := kept3_of (t := 25) hI.1
      have hrw : wr.heap[w.heap.size]? = some (.cells #[.bool false, .bool false, .slice none 0 0] 25 (0, 0)) := by rw [hI.2.2.1.block _ hz2]; exact HKEEP.out
      have HRW := Lib.hid hrw
      obtain ⟨r0, r1, r2, g0, g1, g2, hzr⟩ := kept3_of (t := 25) hrw
      clear hrw
      clear hI hb
      have hz' : w'.heap.size < wr.heap.size := hz
      have hzr' : w.heap.size < wr.heap.size := hzr
      have hBW : Below w.heap.size w wr := HB1.out.trans (HI.out.2.2.1.mono (Nat.le_of_lt hz2))
      have HBW := Lib.hid hBW
      clear hBW hz hzr
      by_cases hlt : j < M + 1
      · obtain ⟨p, hp⟩ : ∃ p, P[j]? = some p := ⟨_, List.getElem?_eq_getElem (by have := HPL.out; omega)⟩
        obtain ⟨y, hy⟩ : ∃ y : ByteArray, y = ⟨p.toArray⟩ := ⟨_, rfl⟩
        have hyl : y.data.toList = p := by rw [hy]
        have hcell : wr.cell? ⟨w.heap.size + 1, j, none⟩ = some (.string y) := by
          rw [HI.out.2.2.1.cell (p := ⟨w.heap.size + 1, j, none⟩) hz1, hy]; exact HROW.out j p hp
        have hty := txt_tests hyl
        have hmem : p ∈ pieces l := by rw [HP.out]; exact List.mem_of_getElem? hp
        have htk : P.take (j + 1) = P.take j ++ [p] := by rw [List.take_add_one, hp]; rfl
        have hlt2 : (j : Int) < (M : Int) + 1 := by omega
        have hysz : y.size = p.length := by rw [Lib.size_eq, hyl]
        have HY := Lib.hid hy
        have HYL := Lib.hid hyl
        have HTK := Lib.hid htk
        have HMEM := Lib.hid hmem
        have HYS := Lib.hid hysz
        clear hp hy hyl htk hmem hysz
        cases hk : keptB p with
        | false =>
          have HSK := Lib.hid (inLoop_skip HI.out hk)
          have hk2 : y.toList = [] ∨ (y.toList.isEmpty = false ∧ ¬ y.toList = [] ∧ (y.toList == [46]) = true) := by
            rw [hty]
            unfold keptB at hk
            by_cases h1 : p = []
            · exact .inl h1
            · right
              have : p = [46] := by simpa [h1] using hk
              rw [this]; exact ⟨rfl, by simp, rfl⟩
          clear hk hty
          rcases hk2 with k1 | ⟨k1, k2, k3⟩
          all_goals
            go_wp2
            go_roundw
            case rel => exact ⟨j + 1, _, b, by omega, by go_num, HB.out, by rw [HTK.out]; exact HSK.out⟩
            case measure => simp [intOf]; omega
        | true =>
          obtain ⟨k1, k2⟩ := keptB_iff.1 hk
          have t1 : ¬ y.toList = [] := by rw [hty]; exact k1
          have t2 : y.toList.isEmpty = false := by cases h : y.toList with | nil => exact absurd h t1 | cons => rfl
          have t3 : (y.toList == [46]) = false := by rw [hty]; simp [k2]
          have hge := goodE_piece (refE_good HX.out).1 HMEM.out hk
          have HK := Lib.hid hk
          clear k1 k2 hk hty
          have hfy : Fit y := by
            have h1 := (pieces_mem HMEM.out).2
            have h2 : p.length ≤ 255 := by
              have h3 := pieces_weigh l
              have h4 : p.length + 1 ≤ weighL (pieces l) := by
                have := weighL_sub (P := [p]) (Q := pieces l) (List.singleton_sublist.2 HMEM.out)
                rw [weighL_cons, weighL_nil] at this; omega
              have h5 := (refE_good HX.out).2.2
              omega
            unfold Fit; rw [HYS.out]; omega
          have HFY := Lib.hid hfy
          clear hfy
          by_cases h26 : 26 < p.length
          · rw [if_pos h26] at hge
            have HGE := Lib.hid hge
            have HPE := Lib.hid (parse_long HX.out HMEM.out HK.out h26)
            clear hge
            go_wp2_with fail
            refine (good_is y _ HFY.out).mono ?_
            rintro e w3 ⟨rfl, c3⟩
            rw [HYL.out, HGE.out]
            have HB3 : Hid (Below w.heap.size w w3) := HBW.out.trans (c3.mono HBW.out.size)
            obtain ⟨s0, s1, s2, v0, v1, v2, vz⟩ := (Kept3.below ⟨r0, r1, r2, g0, g1, g2, hzr'⟩ c3)
            have hrw3 : w3.heap[w.heap.size]? = some (.cells #[.bool false, .bool false, .slice none 0 0] 25 (0, 0)) := by rw [c3.block _ hzr']; exact HRW.out
            obtain ⟨o0, o1, o2⟩ := box_over hrw3 (.bool false) (.bool false) (.slice none 0 0)
            clear c3 r0 r1 r2 g0 g1 g2 c0 c1 c2 f0 f1 f2 hrw3
            go_wp2
            refine bodyPost_ret (v := .tuple #[.agg #[.bool false, .bool false, .slice none 0 0], .int .i64 9]) (by simp [results, Tryd.results5, go_sem, o0, o1, o2]) rfl (fin_no HPE.out (by decide) ?_)
            exact below_over HB3.out (Nat.le_refl _) _ _ _
          · rw [if_neg h26] at hge
            have HGE := Lib.hid hge
            clear hge
            go_wp2_with fail
            refine (good_is y _ HFY.out).mono ?_
            rintro e w3 ⟨rfl, c3⟩
            rw [HYL.out, HGE.out]
            have hI3 := inLoop_below HI.out c3
            obtain ⟨d0, d1, d2, k0, k1, k2, kz⟩ := kept3_of (t := 25) hI3.1
            have kz' : w'.heap.size < w3.heap.size := kz
            have HI3 := Lib.hid (inLoop_below hI3 (below_box w3 (.cells #[.string y] 9)))
            have HRD : Hid (ReadsV (w3.alloc (.cells #[.string y] 9)) (some ⟨w3.heap.size, 0, none⟩) 1 (strsV [p])) := by
              have h1 := ReadsV.lit w3 #[.string y] 9
              rw [HY.out] at h1 ⊢
              exact h1
            have hlen : (keepL (P.take j)).length ≤ 256 := by
              have h1 : (keepL (P.take j)).length ≤ (P.take j).length := List.length_filter_le _ _
              rw [List.length_take] at h1; omega
            have HLEN := Lib.hid hlen
            have HBS : Hid (w'.heap.size + 1 ≤ (w3.alloc (.cells #[.string y] 9)).heap.size) := by show _ ≤ _; simp; omega
            clear c3 r0 r1 r2 g0 g1 g2 c0 c1 c2 f0 f1 f2 hI3 kz hlen
            go_wp2_with (at_builtin; refine wpList_append_vals rfl _ _ _ rfl (w'.heap.size + 1) 9 _ 16 Tryd.underlying23 info_str rfl _ (strsV (keepL (P.take j))) rfl HI3.out.2.1 (some ⟨w3.heap.size, 0, none⟩) 1 1 rfl (strsV [p]) HRD.out (strsV_one [p]) (by have := HLEN.out; rw [strsV_length]; omega) (by have := HLEN.out; unfold maxLen; rw [strsV_length]; omega) HBS.out ?_; intro v4 w4 h1' h2'; have hadd := inLoop_add HI3.out HK.out (by omega) h1' h2'; have hrow4 := row_grown HI3.out h2'; obtain ⟨a4, cp4, hv4, _, _, _⟩ := OwnsV.reads h1'; obtain ⟨n4, hn4⟩ : ∃ n4, (strsV (keepL (P.take j)) ++ strsV [p]).length = n4 := ⟨_, rfl⟩; rw [hn4] at hv4; clear hn4; subst hv4; have HADD := Lib.hid hadd; obtain ⟨x0, x1, x2, y0, y1, y2, yz⟩ := kept3_of (t := 25) hrow4; clear h1' h2' hadd hrow4)
            go_roundw
            case rel => exact ⟨j + 1, _, b, by omega, by go_num, HB.out, by rw [HTK.out]; exact HADD.out⟩
            case measure => simp [intOf]; omega
      · have hjM : j = M + 1 := by omega
        have hall : P.take j = P := List.take_of_length_le (by have := HPL.out; omega)
        have hparts : keepL (P.take j) = partsOf l := by rw [hall, ← HP.out]; rfl
        have HPT := Lib.hid hparts
        have hge2 : ¬ ((j : Int) < (M : Int) + 1) := by omega
        clear hall hparts hjM
        by_cases h32 : 32 < (keepL (P.take j)).length
        · have HPE := Lib.hid (parse_many HX.out (by rw [← HPT.out]; exact h32))
          have h32' : (32 : Int) < ((keepL (P.take j)).length : Int) := by omega
          obtain ⟨o0, o1, o2⟩ := box_over HRW.out (.bool false) (.bool false) (.slice none 0 0)
          go_wp2
          refine bodyPost_ret (v := .tuple #[.agg #[.bool false, .bool false, .slice none 0 0], .int .i64 9]) (by simp [results, Tryd.results5, go_sem, o0, o1, o2]) rfl (fin_no HPE.out (by decide) ?_)
          exact below_over HBW.out (Nat.le_refl _) _ _ _
        · have HPE : Hid (parseE l = 0) := parse_ok HX.out (by rw [← HPT.out]; exact HI.out.2.2.2) (by rw [← HPT.out]; omega)
          have h32' : ¬ (32 : Int) < ((keepL (P.take j)).length : Int) := by omega
          obtain ⟨o0, o1, o2⟩ := box_over HRW.out (.bool ab) (.bool b) (.slice a (keepL (P.take j)).length cp)
          go_wp2
          refine bodyPost_ret (v := .tuple #[.agg #[.bool ab, .bool b, .slice a (keepL (P.take j)).length cp], .int .i64 0]) (by simp [results, Tryd.results5, go_sem, o0, o1, o2]) rfl (fin_yes HPE.out HABB.out HB.out ?_ ?_)
          · rw [← HPT.out]
            exact (owns_over HI.out.2.1 (by omega) _ _ _).less (by omega)
          · exact below_over HBW.out (Nat.le_refl _) _ _ _

theorem pparse_is (s : ByteArray) (w : World) : Calls Tryd.prog 5 #[.string s] w (ParsePost s.data.toList w) := by
  by_cases h : refE s.data.toList = 0
  · exact pparse_good s w h
  · exact pparse_refused s w h
end Go.Proofs.YtcpbffmffoneeaaDoor
