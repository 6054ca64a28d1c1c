/- What a file needs that has a block: the program's walk. -/
import Derived.Test.YtcpbffmffoneeaaDoorStru
import Derived.Test.YtcpbffmffoneeaaDoorPOf
namespace Go.Proofs.YtcpbffmffoneeaaDoor
open Go.RowKit Go.Sort
set_option linter.unusedVariables false
set_option maxRecDepth 100000

def needR (i : Int) : List (List Int) := (needL i).map fun p => [p.1, p.2]
theorem info_need : (Tryd.prog.info? 52).map (fun i => (i.zero, i.size, i.bytes)) = some (some (.agg #[.int .i64 0, .int .i64 0]), 2, 16) := by kernel_rfl
theorem needR_len (i : Int) : ∀ p ∈ needR i, p.length = 2 := by
  intro p hp
  unfold needR at hp
  rw [List.mem_map] at hp
  obtain ⟨q, _, rfl⟩ := hp
  rfl
theorem needR_length (i : Int) : (needR i).length = (needL i).length := by unfold needR; rw [List.length_map]
theorem needR_get {i : Int} {j : Nat} {p : Int × Int} (h : (needL i)[j]? = some p) : (needR i)[j]?.getD [] = [p.1, p.2] := by unfold needR; rw [List.getElem?_map, h]; rfl
/-- What a call leaves that answers these needs. -/
def NeedPost (i : Int) (w : World) (e : Ending) (w' : World) : Prop := ∃ v, e = .returned v ∧ OwnsR w.heap.size w' 52 2 v (needR i) ∧ Below w.heap.size w w'
theorem needR_none {i : Int} (h : blkB i = false) : needR i = [] := by unfold needR needL; rw [h]; rfl
theorem needR_node {i : Int} (h : blkB i = true) (h8 : i < 8) : needR i = [[0, i]] := by unfold needR needL; rw [if_pos h, if_pos h8]; rfl
theorem needR_single {i : Int} (h : blkB i = true) (h8 : 8 ≤ i) (h40 : i < 40) : needR i = [[0, i]] ++ [[1, 0]] := by unfold needR needL; rw [if_pos h, if_neg (by omega), if_pos h40]; rfl
theorem needR_leaf {i : Int} (h : blkB i = true) (h40 : 40 ≤ i) : needR i = [[0, i]] ++ [[2, (i - 40) / 32], [3, 0]] := by unfold needR needL; rw [if_pos h, if_neg (by omega), if_neg (by omega)]; rfl

/-- A literal of one row, made behind a box. -/
theorem own_lit {B : Nat} {w1 : World} (o : Obj) (hB : B ≤ w1.heap.size) (x y : Int) : OwnsR B ((w1.alloc o).alloc (.cells #[.int .i64 x, .int .i64 y] 52)) 52 2 (.slice (some ⟨w1.heap.size + 1, 0, none⟩) 1 1) [[x, y]] := by
  have h := OwnsR.new (B := B) (w := w1.alloc o) (e := 52) (k := 2) (l := [[x, y]]) (cs := #[.int .i64 x, .int .i64 y]) (by simp) (by simp; omega) (by show 1 ≤ maxLen; decide) rfl
  have e : (w1.alloc o).heap.size = w1.heap.size + 1 := by simp
  rw [e] at h
  exact h
theorem lit_cell {w1 : World} (o o2 : Obj) (cs : Array Value) (j : Nat) : (((w1.alloc o).alloc o2).alloc (.cells cs 52)).cell? ⟨w1.heap.size + 1 + 1, j, none⟩ = cs[j]? := by
  have hh := heap_alloc_new ((w1.alloc o).alloc o2) (.cells cs 52)
  have hs2 : ((w1.alloc o).alloc o2).heap.size = w1.heap.size + 1 + 1 := by simp
  rw [hs2] at hh
  unfold World.cell?
  rw [hh]
  rfl

set_option maxHeartbeats 3200000 in
theorem needs_is (i : Int) (w : World) (hw : BoundsAt w) (hi : I64 i) : Calls Tryd.prog 12 #[.int .i64 i] w (NeedPost i w) := by
  have fin : ∀ (v : Value) (w' : World), OwnsR w.heap.size w' 52 2 v (needR i) → Below w.heap.size w w' → NeedPost i w (.returned v) w' := fun v w' h1 h2 => ⟨v, rfl, h1, h2⟩
  have HF := Lib.hid fin
  clear fin
  have hpo := pof_is i w hw hi
  have one2 : ∀ p ∈ [[0, i]], p.length = 2 := by simp
  have len1 : [[0, i]].length ≤ maxLen := by show 1 ≤ maxLen; decide
  cases hb : blkB i with
  | false =>
    have E := Lib.hid (needR_none hb)
    have hoe := ofE_no hb
    have HO := Lib.hid hpo
    clear hpo hb
    go_enter Tryd.func12, Tryd.ntmps12
    go_wp2_with fail
    refine HO.out.mono ?_
    rintro e w1 ⟨rfl, b1⟩
    have B1 := Lib.hid b1
    clear b1
    unfold ofV
    rcases hoe with e1 | e1
    all_goals
      rw [e1]
      go_wp2
      go_ret
      refine HF.out _ _ ?_ ?_
      · rw [E.out]; exact OwnsR.nil _ _ _ _
      · exact B1.out.alloc B1.out.size _
  | true =>
    obtain ⟨g0, g1⟩ := isB_iff.1 hb
    have HO := Lib.hid hpo
    clear hpo
    by_cases h8 : i < 8
    · have E := Lib.hid (needR_node hb h8)
      have EV := Lib.hid (ofV_node g0 h8)
      clear hb
      go_enter Tryd.func12, Tryd.ntmps12
      go_wp2_with fail
      refine HO.out.mono ?_
      rintro e w1 ⟨rfl, b1⟩
      have B1 := Lib.hid b1
      have hs1 := b1.size
      clear b1
      rw [EV.out]
      go_wp2
      go_ret
      refine HF.out _ _ ?_ ?_
      · rw [E.out]
        exact own_lit _ hs1 0 i
      · exact (B1.out.alloc B1.out.size _).alloc (by simp; omega) _
    · by_cases h40 : i < 40
      · have E := Lib.hid (needR_single hb (by omega) h40)
        have EV := Lib.hid (ofV_single (by omega) h40)
        clear hb
        go_enter Tryd.func12, Tryd.ntmps12
        go_wp2_with fail
        refine HO.out.mono ?_
        rintro e w1 ⟨rfl, b1⟩
        have B1 := Lib.hid b1
        have hs1 := b1.size
        clear b1
        rw [EV.out]
        have hm2 : ∀ p ∈ [[(1 : Int), 0]], p.length = 2 := by simp
        have hl2 : ([[0, i]].length + [[(1 : Int), 0]].length) * 16 ≤ 140737488355328 := by simp
        have hl3 : [[0, i]].length + [[(1 : Int), 0]].length ≤ maxLen := by show 2 ≤ maxLen; decide
        have hcc : ∀ j u, (flatV [[(1 : Int), 0]])[j]? = some u → (((w1.alloc (.cells #[.int .i64 1, .int .i64 0, .int .i64 (i - 8)] 63)).alloc (.cells #[.int .i64 0, .int .i64 i] 52)).alloc (.cells #[.int .i64 1, .int .i64 0] 52)).cell? ⟨w1.heap.size + 1 + 1, j, none⟩ = some u := fun j u hu => (lit_cell _ _ _ j).trans (by simpa [flatV] using hu)
        have OO := Lib.hid (OwnsR.alloc (own_lit (B := w.heap.size) (.cells #[.int .i64 1, .int .i64 0, .int .i64 (i - 8)] 63) hs1 0 i) (.cells #[.int .i64 1, .int .i64 0] 52))
        have O1 := Lib.hid one2
        have O2 := Lib.hid hm2
        have O3 := Lib.hid len1
        have O4 := Lib.hid hl2
        have O5 := Lib.hid hl3
        have O6 := Lib.hid hcc
        have OC : Hid (w.heap.size ≤ (((w1.alloc (.cells #[.int .i64 1, .int .i64 0, .int .i64 (i - 8)] 63)).alloc (.cells #[.int .i64 0, .int .i64 i] 52)).alloc (.cells #[.int .i64 1, .int .i64 0] 52)).heap.size) := by show _ ≤ _; simp; omega
        clear one2 hm2 len1 hl2 hl3 hcc
        go_wp2_with (at_builtin; refine wpList_append_rows rfl _ _ _ rfl w.heap.size 52 _ 2 16 Tryd.underlying49 info_need rfl (by decide) _ [[0, i]] rfl OO.out (w1.heap.size + 1 + 1) 1 [[1, 0]] O2.out rfl O6.out O4.out O5.out OC.out ?_; intro v' w' h1 h2)
        go_ret
        refine HF.out _ _ ?_ ?_
        · rw [E.out]; exact h1
        · exact (((B1.out.alloc B1.out.size _).alloc (by simp; omega) _).alloc (by simp; omega) _).grown h2 (by simp; omega) (fun k hk => by have e : w1.heap.size + 1 = k := Option.some.inj hk; omega)
      · have E := Lib.hid (needR_leaf hb (by omega))
        have EV := Lib.hid (ofV_leaf (by omega) g1)
        clear hb
        obtain ⟨q, hq⟩ : ∃ q, (i - 40) / 32 = q := ⟨_, rfl⟩
        rw [hq] at E EV
        clear hq
        go_enter Tryd.func12, Tryd.ntmps12
        go_wp2_with fail
        refine HO.out.mono ?_
        rintro e w1 ⟨rfl, b1⟩
        have B1 := Lib.hid b1
        have hs1 := b1.size
        clear b1
        rw [EV.out]
        have hm2 : ∀ p ∈ [[(2 : Int), q], [3, 0]], p.length = 2 := by simp
        have hl2 : ([[0, i]].length + [[(2 : Int), q], [3, 0]].length) * 16 ≤ 140737488355328 := by simp
        have hl3 : [[0, i]].length + [[(2 : Int), q], [3, 0]].length ≤ maxLen := by show 3 ≤ maxLen; decide
        have hcc : ∀ j u, (flatV [[(2 : Int), q], [3, 0]])[j]? = some u → (((w1.alloc (.cells #[.int .i64 2, .int .i64 q, .int .i64 ((i - 40) % 32)] 63)).alloc (.cells #[.int .i64 0, .int .i64 i] 52)).alloc (.cells #[.int .i64 2, .int .i64 q, .int .i64 3, .int .i64 0] 52)).cell? ⟨w1.heap.size + 1 + 1, j, none⟩ = some u := fun j u hu => (lit_cell _ _ _ j).trans (by simpa [flatV] using hu)
        have OO := Lib.hid (OwnsR.alloc (own_lit (B := w.heap.size) (.cells #[.int .i64 2, .int .i64 q, .int .i64 ((i - 40) % 32)] 63) hs1 0 i) (.cells #[.int .i64 2, .int .i64 q, .int .i64 3, .int .i64 0] 52))
        have O1 := Lib.hid one2
        have O2 := Lib.hid hm2
        have O3 := Lib.hid len1
        have O4 := Lib.hid hl2
        have O5 := Lib.hid hl3
        have O6 := Lib.hid hcc
        have OC : Hid (w.heap.size ≤ (((w1.alloc (.cells #[.int .i64 2, .int .i64 q, .int .i64 ((i - 40) % 32)] 63)).alloc (.cells #[.int .i64 0, .int .i64 i] 52)).alloc (.cells #[.int .i64 2, .int .i64 q, .int .i64 3, .int .i64 0] 52)).heap.size) := by show _ ≤ _; simp; omega
        clear one2 hm2 len1 hl2 hl3 hcc
        go_wp2_with (at_builtin; refine wpList_append_rows rfl _ _ _ rfl w.heap.size 52 _ 2 16 Tryd.underlying49 info_need rfl (by decide) _ [[0, i]] rfl OO.out (w1.heap.size + 1 + 1) 2 [[2, q], [3, 0]] O2.out rfl O6.out O4.out O5.out OC.out ?_; intro v' w' h1 h2)
        go_ret
        refine HF.out _ _ ?_ ?_
        · rw [E.out]; exact h1
        · exact (((B1.out.alloc B1.out.size _).alloc (by simp; omega) _).alloc (by simp; omega) _).grown h2 (by simp; omega) (fun k hk => by have e : w1.heap.size + 1 = k := Option.some.inj hk; omega)
end Go.Proofs.YtcpbffmffoneeaaDoor
