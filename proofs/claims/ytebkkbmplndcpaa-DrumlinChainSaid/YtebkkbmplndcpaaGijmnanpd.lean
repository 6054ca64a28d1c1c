/- The chain: what lies in memory ahead of the map. -/
import Derived.Test.YtebkkbmplndcpaaGdfnjnejd
namespace Go.Proofs.Ytebkkbmplndcpaa
open Go.RowKit Go.Sort
set_option linter.unusedVariables false
set_option linter.unusedSimpArgs false
set_option maxRecDepth 100000

theorem two_boxes (w : World) (c1 c2 : Array Value) (t1 t2 : TypeId) :
    ((w.alloc (.cells c1 t1)).alloc (.cells c2 t2)).heap[w.heap.size]? = some (.cells c1 t1 (0, 0)) ∧ ((w.alloc (.cells c1 t1)).alloc (.cells c2 t2)).heap[w.heap.size + 1]? = some (.cells c2 t2 (0, 0)) ∧ Below w.heap.size w ((w.alloc (.cells c1 t1)).alloc (.cells c2 t2)) := by
  have b1 := below_box w (.cells c1 t1)
  have b2 := below_box (w.alloc (.cells c1 t1)) (.cells c2 t2)
  have n1 := heap_alloc_new w (.cells c1 t1)
  have n2 := heap_alloc_new (w.alloc (.cells c1 t1)) (.cells c2 t2)
  have e : (w.alloc (.cells c1 t1)).heap.size = w.heap.size + 1 := by simp
  refine ⟨(b2.block _ (by rw [e]; omega)).trans n1, ?_, below_next b1 b2⟩
  rw [e] at n2
  exact n2
/-- Table, files and pipes, in their boxes. -/
structure C0 (w0 W : World) (gf gfs gp gps g gs cap q1 q2 : Nat) (fl : List FileD) (pl : List PipeD) (T : TabD) : Prop where
  files : IsFiles w0.heap.size W gf gfs fl
  pipes : IsPipes w0.heap.size W gp gps pl
  tab : IsTable w0.heap.size W g gs cap T
  bf : W.heap[q1]? = some (.cells #[.pointer (some ⟨gf, 0, none⟩)] 48 (0, 0))
  bp : W.heap[q2]? = some (.cells #[.pointer (some ⟨gp, 0, none⟩)] 50 (0, 0))
  bel : Below w0.heap.size w0 W
section
variable {w0 W W' : World} {gf gfs gp gps g gs cap q1 q2 : Nat} {fl fl' : List FileD} {pl pl' : List PipeD} {T : TabD}
theorem C0.below (h : C0 w0 W gf gfs gp gps g gs cap q1 q2 fl pl T) (b : Below W.heap.size W W') : C0 w0 W' gf gfs gp gps g gs cap q1 q2 fl pl T :=
  ⟨h.files.below b, h.pipes.below b, h.tab.below b, (b.block q1 (Array.getElem?_eq_some_iff.1 h.bf).1).trans h.bf, (b.block q2 (Array.getElem?_eq_some_iff.1 h.bp).1).trans h.bp, below_next h.bel b⟩
theorem C0.filed (h : C0 w0 W gf gfs gp gps g gs cap q1 q2 fl pl T) (hf : IsFiles w0.heap.size W' gf gfs fl') (hg : W.grownBy W' (some gfs)) : C0 w0 W' gf gfs gp gps g gs cap q1 q2 fl' pl T := by
  obtain ⟨cs, hc⟩ := h.files.2.1.typed gfs rfl
  have hk := Kb.row hg
  have ht := Typed.of hc
  exact ⟨hf, h.pipes.keptE hk ht (by decide) (by decide), h.tab.keptE hk ht (by decide) (by decide), keep_block hk ht h.bf (by decide), keep_block hk ht h.bp (by decide), below_keptK h.bel hk fun i hi => by subst hi; exact (files_lt h.files).2.2⟩
theorem C0.piped (h : C0 w0 W gf gfs gp gps g gs cap q1 q2 fl pl T) (hf : IsPipes w0.heap.size W' gp gps pl') (hg : W.grownBy W' (some gps)) : C0 w0 W' gf gfs gp gps g gs cap q1 q2 fl pl' T := by
  obtain ⟨cs, hc⟩ := h.pipes.2.1.typed gps rfl
  have hk := Kb.row hg
  have ht := Typed.of hc
  exact ⟨h.files.keptE hk ht (by decide) (by decide), hf, h.tab.keptE hk ht (by decide) (by decide), keep_block hk ht h.bf (by decide), keep_block hk ht h.bp (by decide), below_keptK h.bel hk fun i hi => by subst hi; exact (pipes_lt h.pipes).2.2⟩
theorem C0.setted {g2 gs2 cap2 : Nat} {ids : List Int} (h : C0 w0 W gf gfs gp gps g gs cap q1 q2 fl pl T) (hs : IsSet w0.heap.size W g2 gs2 cap2 ids) (hg : W.grownBy W' (some gs2)) : C0 w0 W' gf gfs gp gps g gs cap q1 q2 fl pl T := by
  obtain ⟨cs, hc⟩ := hs.2.1.typed gs2 rfl
  have hk := Kb.row hg
  have ht := Typed.of hc
  exact ⟨h.files.keptE hk ht (by decide) (by decide), h.pipes.keptE hk ht (by decide) (by decide), h.tab.keptE hk ht (by decide) (by decide), keep_block hk ht h.bf (by decide), keep_block hk ht h.bp (by decide), below_keptK h.bel hk fun i hi => by subst hi; exact (set_lt hs).2.2⟩
theorem C0.mapped {bm n : Nat} {p : Int → Bool} {G : Int → Int} (h : C0 w0 W gf gfs gp gps g gs cap q1 q2 fl pl T) (hm : IsMp w0.heap.size W bm n p G) (hg : W.grownBy W' (some bm)) : C0 w0 W' gf gfs gp gps g gs cap q1 q2 fl pl T := by
  have hk := Kb.row hg
  have ht := hm.typed
  exact ⟨h.files.keptE hk ht id id, h.pipes.keptE hk ht id id, h.tab.keptE hk ht id id, keep_block hk ht h.bf id, keep_block hk ht h.bp id, below_keptK h.bel hk fun i hi => by subst hi; exact hm.1⟩
/-- With the map and one set. -/
theorem C0.chain {bm n : Nat} {s : PipeD} {x : CsD} (h : C0 w0 W gf gfs gp gps g gs cap q1 q2 (flC 1 1) [s, zeroP] T) (hm : IsMp w0.heap.size W bm n (csP [x]) (csF [x])) (hs : IsSet w0.heap.size W x.g x.gs x.cap (setC x.out)) :
    Ch w0 W gf gfs gp gps g gs cap bm n q1 q2 s T [x] [x] 1 1 (.slice none 0 0) (.slice none 0 0) [] [] :=
  have hone : ∀ y ∈ [x], IsSet w0.heap.size W y.g y.gs y.cap (setC y.out) := by
    intro y hy
    rw [List.mem_singleton.1 hy]
    exact hs
  ⟨h.files, h.pipes, h.tab, hm, hone, by simp, h.bf, h.bp, owns_nil _ _, owns_nil _ _, fun b hb => (by cases hb), h.bel⟩
theorem cinv_new {x : CsD} (hx : x.pid = 1) (ho : x.out = true) : CInv (newT 8) [x] 1 1 newP [] [] where
  tr := tr_new (by decide)
  most := Int.le_refl _
  nodup := by simp [csPids]
  alive := fun n => by
    constructor
    · rintro ⟨s, hs, hp, _⟩
      obtain rfl : s = firstProc := by simpa [newT] using hs
      rw [← hp]
      simp [csPids, hx, firstProc]
    · intro h
      have : n = x.pid := by simpa [csPids] using h
      exact ⟨firstProc, by simp [newT], by rw [this, hx]; rfl, by decide⟩
  cis := rfl
  ois := by simp [csOut, ho]
  reads := rfl
  writes := rfl
  bytes := rfl
theorem cs_out (ls rs : List CsD) (y : CsD) (b : Bool) : csP (ls ++ { y with out := b } :: rs) = csP (ls ++ y :: rs) ∧ csF (ls ++ { y with out := b } :: rs) = csF (ls ++ y :: rs) := by
  constructor
  · funext k
    unfold csP csPids
    rw [List.map_append, List.map_append]
    rfl
  · funext k
    unfold csF
    rw [List.find?_append, List.find?_append, List.find?_cons, List.find?_cons]
    dsimp only
    cases ls.find? (fun x => decide (x.pid = k)) <;> cases decide (y.pid = k) <;> rfl
theorem cs_same {y : CsD} (h : y.out = false) : { y with out := false } = y := by cases y; cases h; rfl
theorem Ch.said {bm n : Nat} {s : PipeD} {sm sm' ss : List CsD} {c o : Nat} {vs vg : Value} {sent got : List Nat} (h : Ch w0 W gf gfs gp gps g gs cap bm n q1 q2 s T sm ss c o vs vg sent got) (hp : csP sm' = csP sm) (hF : csF sm' = csF sm) : Ch w0 W gf gfs gp gps g gs cap bm n q1 q2 s T sm' ss c o vs vg sent got :=
  ⟨h.files, h.pipes, h.tab, by rw [hp, hF]; exact h.map, h.sets, h.apart, h.bf, h.bp, h.sent, h.got, h.ne, h.bel⟩
/-- The pipe, when one of so many has closed its end to write. -/
def shutS (s : PipeD) (o : Nat) : PipeD := if o = 1 then endsP s 0 (-1) else s
theorem shutS_is {ss : List CsD} {c o : Nat} {s : PipeD} {sent got : List Nat} (h : CInv T ss c o s sent got) (ho : 1 ≤ o) : (shutS s o).readers = 1 ∧ ((shutS s o).writers = if o - 1 = 0 then 0 else 1) ∧ content (shutS s o) = content s ∧ s.writers = 1 := by
  have hw : s.writers = 1 := by rw [h.writes, if_neg (by omega)]
  unfold shutS
  by_cases e : o = 1
  · subst e
    rw [if_pos rfl, if_pos rfl]
    refine ⟨?_, ?_, content_ends _ _ _, hw⟩
    · show ((s.readers : Int) + 0).toNat = 1
      rw [h.reads]; rfl
    · show ((s.writers : Int) + -1).toNat = 0
      rw [hw]; rfl
  · rw [if_neg e, if_neg (by omega)]
    exact ⟨h.reads, hw, rfl, hw⟩
theorem shut_any {bm n : Nat} {s : PipeD} {sm ss : List CsD} {c o : Nat} {vs vg : Value} {sent got : List Nat} (h : Ch w0 W gf gfs gp gps g gs cap bm n q1 q2 s T sm ss c o vs vg sent got) (hc : c ≤ 100) (ho : o ≤ 100) (h1 : 1 ≤ o) (hk : thereB s = true) (hw : s.writers = 1) :
    Calls Try.prog 21 #[.int .i64 1, .pointer (some ⟨q1, 0, none⟩), .pointer (some ⟨q2, 0, none⟩)] W (ShutPost w0 W gf gfs gp gps g gs cap bm n q1 q2 (shutS s o) T sm ss c (o - 1) vs vg sent got) := by
  unfold shutS
  by_cases e : o = 1
  · subst e
    rw [if_pos rfl]
    exact shut_last h hc hk hw
  · rw [if_neg e]
    exact shut_some h hc ho 1 c (o - 1) _ _ _ _ _ (close_out (by omega))
/-- Where a call's own numbers lie. -/
theorem ints_there {B : Nat} {w : World} {v : Value} {l : List Int} (h : OwnsV B w 3 v (idV l)) (hne : l.length ≠ 0) : ∃ b cp cs, v = .slice (some ⟨b, 0, none⟩) l.length cp ∧ w.heap[b]? = some (.cells cs 3 (0, 0)) ∧ ∀ (i : Nat) (x : Int), l[i]? = some x → cs[i]? = some (.int .i64 x) := by
  obtain ⟨a, cp, e, hr, _, _⟩ := h.reads
  have hlen : (idV l).length = l.length := by unfold idV; rw [List.length_map]
  obtain ⟨_, ⟨_, hn⟩ | ⟨b, c2, cur, e2, _, hg, _⟩⟩ := h
  · omega
  · rw [e2] at e
    cases e
    refine ⟨b, _, cur, by rw [e2, hlen], hg, fun i x hi => ?_⟩
    obtain ⟨g9, o9, e9, _, hc⟩ := hr.at (i := i) (u := .int .i64 x) (by unfold idV; rw [List.getElem?_map, hi]; rfl)
    cases e9
    rw [cell_atT hg, Nat.zero_add] at hc
    exact hc
end
/-- What has been seen of the ends: x of those to read, y of those to write. -/
structure EndsSeen (left : Lit → Bool) (ss : List CsD) (x y : Int) : Prop where
  one : ∀ s ∈ ss, left (.int .i64 s.pid) = false → x = 1
  two : ∀ s ∈ ss, s.out = true → left (.int .i64 s.pid) = false → y = 1
  yes : y = 1 → ∃ s ∈ ss, s.out = true
theorem ends_start {left : Lit → Bool} {ss : List CsD} (h : ∀ s ∈ ss, left (.int .i64 s.pid) = true) : EndsSeen left ss 0 0 :=
  ⟨fun s hs e => by (rw [h s hs] at e; cases e), fun s hs _ e => by (rw [h s hs] at e; cases e), fun e => by omega⟩
theorem ends_step {left : Lit → Bool} {ss : List CsD} {x y : Int} (h : EndsSeen left ss x y) (hnd : (csPids ss).Nodup) {s : CsD} (hs : s ∈ ss) :
    EndsSeen (fun l => left l && !l.sameKey (.int .i64 s.pid)) ss 1 (if s.out = true then 1 else y) where
  one := fun _ _ _ => rfl
  two := fun t ht ho e => by
    by_cases hso : s.out = true
    · rw [if_pos hso]
    · rw [if_neg hso]
      by_cases hp : t.pid = s.pid
      · exfalso
        obtain ⟨l, r, rfl⟩ := List.append_of_mem hs
        unfold csPids at hnd
        rw [List.map_append, List.map_cons, List.nodup_append, List.nodup_cons] at hnd
        obtain ⟨_, ⟨h2, _⟩, h4⟩ := hnd
        rcases List.mem_append.1 ht with h5 | h5
        · exact h4 _ (List.mem_map_of_mem h5) _ (by simp) hp
        · rcases List.mem_cons.1 h5 with rfl | h5
          · exact hso ho
          · exact h2 (by rw [← hp]; exact List.mem_map_of_mem h5)
      · have e2 : left (.int .i64 t.pid) = false := by
          rw [Maps.sameKey_ne (litP_ne hp)] at e
          simpa using e
        exact h.two t ht ho e2
  yes := fun e => by
    by_cases hso : s.out = true
    · exact ⟨s, hs, hso⟩
    · rw [if_neg hso] at e
      exact h.yes e
theorem ends_done {left : Lit → Bool} {ss : List CsD} {x y : Int} (h : EndsSeen left ss x y) (hl : ∀ l, left l = false) (hy : y = 0 ∨ y = 1) (hne : 1 ∈ csPids ss) : x = 1 ∧ y = if csOut ss = 0 then 0 else 1 := by
  obtain ⟨s, hs, _⟩ := List.mem_map.1 hne
  refine ⟨h.one s hs (hl _), ?_⟩
  by_cases e : csOut ss = 0
  · rw [if_pos e]
    rcases hy with hy | hy
    · exact hy
    · exfalso
      obtain ⟨t, ht, ho⟩ := h.yes hy
      unfold csOut at e
      have h9 : 0 < (ss.filter (·.out)).length := List.length_pos_of_mem (List.mem_filter.2 ⟨ht, ho⟩)
      exact absurd e (Nat.pos_iff_ne_zero.1 h9)
  · rw [if_neg e]
    unfold csOut at e
    obtain ⟨t, ht⟩ := List.exists_mem_of_length_pos (Nat.pos_of_ne_zero e)
    rw [List.mem_filter] at ht
    exact h.two t ht.1 ht.2 (hl _)
end Go.Proofs.Ytebkkbmplndcpaa
