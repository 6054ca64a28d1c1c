/- What the law NameJoins needs: appends in a region that draws, boxes written over. -/
import Derived.Test.YtpnafikmbbnecaaDoorJoin2
import Derived.Test.YtpnafikmbbnecaaDoorRClean
import Derived.Test.YtpnafikmbbnecaaDoorNameAwake
namespace Go.Proofs.YtpnafikmbbnecaaDoor
open Go.RowKit Go.Sort
set_option linter.unusedVariables false
set_option linter.unusedSimpArgs false
set_option maxRecDepth 100000

theorem step_append_vals {P : Program} {w : World} {ops : Array Oper} {o : Oper} {a : Act} {K : Act → World → Prop} {Q : Exit → Act → World → Prop} {E : Prop} (hgd : Region.wanted o (yielded ops a.tmps) = true) (s x : Operand) (t : TypeId)
    (ho : o.op = .call { callee := .builtin .append, args := #[s, x], argTypes := #[t, t] })
    (B : Nat) (e : TypeId) (z : Value) (bytes : Nat) (ht : P.underlying t = some (.slice e)) (hinfo : (P.info? e).map (fun i => (i.zero, i.size, i.bytes)) = some (some z, 1, bytes)) (hzs : z.cells.size = 1)
    (v : Value) (l : List Value) (hs : a.eval s = v) (hown : OwnsV B w e v l) (sa : Option Addr) (m c : Nat) (hx : a.eval x = .slice sa m c) (news : List Value) (hr : ReadsV w sa m news) (hone : OneCells news)
    (hb : (l.length + m) * bytes ≤ 140737488355328) (hb2 : l.length + m ≤ maxLen) (hB : B ≤ w.heap.size)
    (h : ∀ v' w', OwnsV B w' e v' (l ++ news) → w.grownBy w' v.ownBlock → K (a.put o.dst v') w') : if Region.wanted o (yielded ops a.tmps) = true then Oper.wp P o a w K Q else E := by
  rw [if_pos hgd]
  exact wp_append_vals s x t ho B e z bytes ht hinfo hzs v l hs hown sa m c hx news hr hone hb hb2 hB h
/-- All parts of a path, by an append in a region that draws. -/
theorem step_app {w W : World} {ops : Array Oper} {o : Oper} {a : Act} {K : Act → World → Prop} {Q : Exit → Act → World → Prop} {E : Prop} (hgd : Region.wanted o (yielded ops a.tmps) = true) (s x : Operand)
    (ho : o.op = .call { callee := .builtin .append, args := #[s, x], argTypes := #[23, 23] }) (v : Value) (L M : List Bs) (hL : L.length ≤ 1000) (hM : M.length ≤ 1000) (hs : a.eval s = v) (hB : Below W.heap.size W w) (hown : OwnsV W.heap.size w 9 v (strsV L))
    (b : Option Addr) (c : Nat) (hr : ReadsV w b M.length (strsV M)) (hx : a.eval x = .slice b M.length c)
    (h : ∀ v' w', OwnsV W.heap.size w' 9 v' (strsV (L ++ M)) → Below W.heap.size W w' → w.grownBy w' v.ownBlock → K (a.put o.dst v') w') : if Region.wanted o (yielded ops a.tmps) = true then Oper.wp Tryd.prog o a w K Q else E := by
  refine step_append_vals hgd s x 23 ho W.heap.size 9 _ 16 Tryd.underlying23 info_str rfl v (strsV L) hs hown b M.length c hx (strsV M) hr (strsV_one M) (by rw [strsV_length]; omega) (by unfold maxLen; rw [strsV_length]; omega) hB.size ?_
  intro v' w' h1 h2
  refine h v' w' ?_ (OwnsV.grown hown hB hB.size h2) h2
  rw [strsV_append]; exact h1
theorem ownsV_apart {B : Nat} {w : World} {e : TypeId} {v : Value} {l : List Value} (h : OwnsV B w e v l) {g : Nat} {cs : Array Value} {t : TypeId} (hg : w.heap[g]? = some (.cells cs t (0, 0))) (hne : t ≠ e) : ∀ k, v.ownBlock = some k → k ≠ g := by
  intro k hk hkg
  subst hkg
  obtain ⟨h1, ⟨rfl, h2⟩ | ⟨g, cap, cur, rfl, hb, hg2, hc, hm, hsz, ht⟩⟩ := h
  · simp [Value.ownBlock] at hk
  · obtain rfl : g = k := by simpa [Value.ownBlock] using hk
    rw [hg] at hg2
    injection hg2 with h3
    injection h3 with h4 h5
    exact hne h5
theorem box_grown {B : Nat} {w w' : World} {e : TypeId} {v : Value} {l : List Value} (h : OwnsV B w e v l) {g : Nat} {cs : Array Value} {t : TypeId} (hg : w.heap[g]? = some (.cells cs t (0, 0))) (hne : t ≠ e) (hgr : w.grownBy w' v.ownBlock) : w'.heap[g]? = some (.cells cs t (0, 0)) :=
  (hgr.block g (Array.getElem?_eq_some_iff.1 hg).1 (fun e => ownsV_apart h hg hne g e.symm rfl)).trans hg
/-- A box of three cells, written over: what it holds, and what stays. -/
theorem over3 {w : World} {g : Nat} {x y z : Value} {T : TypeId} (h : w.heap[g]? = some (.cells #[x, y, z] T (0, 0))) (a b c : Value) :
    (((w.setCell ⟨g, 0, none⟩ a).setCell ⟨g, 1, none⟩ b).setCell ⟨g, 2, none⟩ c).heap[g]? = some (.cells #[a, b, c] T (0, 0)) ∧
    ∀ {B : Nat} {e : TypeId} {v : Value} {L : List Value}, T ≠ e → OwnsV B w e v L → OwnsV B (((w.setCell ⟨g, 0, none⟩ a).setCell ⟨g, 1, none⟩ b).setCell ⟨g, 2, none⟩ c) e v L := by
  have h0 := heap_setCell_same w g 0 #[x, y, z] T a h
  have h1 := heap_setCell_same _ g 1 _ T b h0
  have h2 := heap_setCell_same _ g 2 _ T c h1
  refine ⟨h2, fun {B e v L} hne ho => ?_⟩
  have one : ∀ (W : World) (k : Nat) (u : Value) (cs : Array Value), W.heap[g]? = some (.cells cs T (0, 0)) → OwnsV B W e v L → OwnsV B (W.setCell ⟨g, k, none⟩ u) e v L := fun W k u cs hW hh =>
    hh.kept (row := some g) ⟨rfl, rfl, rfl, by simp, fun i _ hi => heap_setCell_other W ⟨g, k, none⟩ i u (fun e => hi (by simp [e]))⟩ (.inr fun e => ownsV_apart hh hW hne _ e rfl)
  exact one _ _ _ _ h1 (one _ _ _ _ h0 (one _ _ _ _ h ho))
theorem cellRow {W : World} {g : Nat} {cs : Array Value} {t : TypeId} (h : W.heap[g]? = some (.cells cs t (0, 0))) (i : Nat) : W.cell? ⟨g, i, none⟩ = cs[i]? := by
  unfold World.cell?
  rw [h]
  rfl
/-- What a joined path is. -/
theorem JoinPost.path {ab di : Bool} {L : List Bs} {w w' : World} {e : Ending} (h : JoinPost ab di L w e w') : ∃ a cp, e = .returned (.agg #[.bool ab, .bool di, .slice a L.length cp]) ∧ ReadsV w' a L.length (strsV L) ∧ L.length ≤ cp ∧ Below w.heap.size w w' := by
  obtain ⟨v, he, ho, hb⟩ := h
  obtain ⟨a, cp, hv, hr, h1, h2⟩ := ho.reads
  rw [strsV_length] at hv hr h1
  exact ⟨a, cp, by rw [he, hv], hr, h1, hb⟩
theorem cleaned {Q : List Bs} {w w' : World} {e : Ending} (h : CleanPost Q w e w') : ∃ a cp, e = .returned (.slice a (cleanL Q).length cp) ∧ ReadsV w' a (cleanL Q).length (strsV (cleanL Q)) ∧ (cleanL Q).length ≤ cp ∧ Below w.heap.size w w' := by
  obtain ⟨v, he, ho, hb⟩ := h
  obtain ⟨a, cp, hv, hr, h1, h2⟩ := ho.reads
  rw [strsV_length] at hv hr h1
  exact ⟨a, cp, by rw [he, hv], hr, h1, hb⟩
/-- What is joined of any two paths. -/
def jAb (abA abB : Bool) : Bool := if abB then true else abA
def jDi (abB diB : Bool) (M : List Bs) : Bool := if abB then diB else (diB || decide (M = []))
def jL (abB : Bool) (N M : List Bs) : List Bs := if abB then M else N ++ M
theorem join_any (abA diA : Bool) (x : Option Addr) (cx : Nat) (N : List Bs) (abB diB : Bool) (b : Option Addr) (c : Nat) (M : List Bs) (w : World) (hr : ReadsV w x N.length (strsV N)) (hr2 : ReadsV w b M.length (strsV M)) (hN : N.length ≤ 400) (hM : M.length ≤ 400) :
    Calls Tryd.prog 7 #[.agg #[.bool abA, .bool diA, .slice x N.length cx], .agg #[.bool abB, .bool diB, .slice b M.length c]] w (JoinPost (jAb abA abB) (jDi abB diB M) (jL abB N M) w) := by
  cases abB with
  | true => exact join_abs abA diA x N.length cx diB b c M w hr2 hM
  | false =>
    cases diB with
    | true => exact join_dir abA diA x cx N b c M w hr hr2 hN hM
    | false => exact join_rel abA diA x cx N (decide (M = [])) b c M w hr hr2 hN hM rfl
end Go.Proofs.YtpnafikmbbnecaaDoor
