/- Sets and their clones: none disturbs another. -/
import Derived.Test.YtbpklbicbeckdaaGkmcafebm
import Derived.Test.YtbpklbicbeckdaaGjbmnckhk
namespace Go.Proofs.Ytbpklbicbeckdaa
open Go.RowKit Go.Sort
set_option linter.unusedVariables false
set_option linter.unusedSimpArgs false
set_option maxRecDepth 100000

theorem ownV_ne {B : Nat} {w : World} {b : Nat} {cs : Array Value} {e u : TypeId} {v : Value} {l : List Value} (h : OwnsV B w e v l) (hb : w.heap[b]? = some (.cells cs u (0, 0))) (hne : e ≠ u) : v.ownBlock ≠ some b := by
  obtain ⟨_, ⟨rfl, _⟩ | ⟨g9, c9, cur9, rfl, _, hg9, _⟩⟩ := h
  · intro e; cases e
  · intro e9
    have : g9 = b := Option.some.inj e9
    exact nblock hg9 hb hne this
/-- Rows of one kind grow: those of another are kept. -/
theorem OwnsV.keptV {B B' : Nat} {w w' : World} {e e' : TypeId} {v v' : Value} {l l' : List Value} (h : OwnsV B w e v l) (ho : OwnsV B' w e' v' l') (hg : w.grownBy w' v'.ownBlock) (hne : e ≠ e') : OwnsV B w' e v l := by
  refine h.kept hg ?_
  obtain ⟨_, ⟨rfl, _⟩ | ⟨g9, c9, cur9, rfl, _, hg9, _⟩⟩ := ho
  · rcases hv : v.ownBlock with _ | j
    · exact .inl rfl
    · exact .inr (by intro e; cases e)
  · exact .inr (ownV_ne h hg9 hne)
theorem IsSet.keptV {B B' : Nat} {w w' : World} {g gs cap : Nat} {ids : List Int} {e : TypeId} {v : Value} {l : List Value} (h : IsSet B w g gs cap ids) (ho : OwnsV B' w e v l) (hg : w.grownBy w' v.ownBlock) (h1 : e ≠ 3) (h2 : e ≠ 139) : IsSet B w' g gs cap ids :=
  ⟨(hg.block g (set_lt h).1 (fun e9 => ownV_ne ho h.1 h2 e9.symm)).trans h.1, h.2.1.keptV ho hg h1.symm, h.2.2⟩
theorem RSetP.keptV {B B' : Nat} {w w' : World} {v0 : Value} {ids : List Int} {e : TypeId} {v : Value} {l : List Value} (h : RSetP B w v0 ids) (ho : OwnsV B' w e v l) (hg : w.grownBy w' v.ownBlock) (h1 : e ≠ 3) : RSetP B w' v0 ids := by
  obtain ⟨a, c, e9, hh⟩ := h
  exact ⟨a, c, e9, hh.keptV ho hg h1.symm⟩
theorem IsSet.keptB {B : Nat} {w w' : World} {g gs cap b bs bc : Nat} {ids jds : List Int} (h : IsSet B w g gs cap ids) (hb : IsSet B w b bs bc jds) (hg : w.grownBy w' (some bs)) (hne : gs ≠ bs) : IsSet B w' g gs cap ids := by
  obtain ⟨ds, hd⟩ := own_cellsV hb.2.1
  exact ⟨(hg.block g (set_lt h).1 (fun e9 => nblock hd h.1 (by decide) (Option.some.inj e9).symm)).trans h.1, h.2.1.kept hg (.inr (fun e9 => hne (Option.some.inj e9))), h.2.2⟩
theorem RSetP.keptB {B : Nat} {w w' : World} {v : Value} {bs : Nat} {ids : List Int} (h : RSetP B w v ids) (hg : w.grownBy w' (some bs)) (hne : v.ownBlock ≠ some bs) : RSetP B w' v ids := by
  obtain ⟨a, c, e9, hh⟩ := h
  exact ⟨a, c, e9, hh.kept hg (.inr hne)⟩
/-- A set that was cloned, and the document's. -/
structure OldD where
  g : Nat
  gs : Nat
  cap : Nat
  ids : List Int
  a : Option Addr
  c : Nat
def oldV (o : OldD) : Value := .slice o.a o.ids.length o.c
def ptrs (l : List OldD) : List Value := l.map fun o => .pointer (some ⟨o.g, 0, none⟩)
def olds (l : List OldD) : List Value := l.map oldV
/-- The set that goes on (idp), the document's (idr), those that were cloned. -/
structure Fam (w0 : World) (g gs cap : Nat) (idp idr : List Int) (v v7 v8 : Value) (l : List OldD) (W : World) : Prop where
  cur : IsSet w0.heap.size W g gs cap idp
  rv : RSetP w0.heap.size W v idr
  ok : OkS idp ∧ OkS idr
  vne : v.ownBlock ≠ some gs
  old : ∀ o ∈ l, IsSet w0.heap.size W o.g o.gs o.cap o.ids ∧ RSetP w0.heap.size W (oldV o) o.ids ∧ OkS o.ids ∧ o.gs ≠ gs ∧ (oldV o).ownBlock ≠ some gs
  own7 : OwnsV w0.heap.size W 84 v7 (ptrs l)
  own8 : OwnsV w0.heap.size W 48 v8 (olds l)
  below : Below w0.heap.size w0 W
theorem Fam.more {w0 : World} {g gs cap : Nat} {idp idr : List Int} {v v7 v8 : Value} {l : List OldD} {W W' : World} (h : Fam w0 g gs cap idp idr v v7 v8 l W) (b : Below W.heap.size W W') : Fam w0 g gs cap idp idr v v7 v8 l W' :=
  ⟨h.cur.below b, h.rv.below b, h.ok, h.vne, fun o ho => by obtain ⟨h1, h2, h3, h4, h5⟩ := h.old o ho; exact ⟨h1.below b, h2.below b, h3, h4, h5⟩, h.own7.below b, h.own8.below b, below_next h.below b⟩
/-- The program's set is another one. -/
theorem Fam.does {w0 : World} {g gs cap : Nat} {idp idr ids' : List Int} {v v7 v8 : Value} {l : List OldD} {W W' : World} (h : Fam w0 g gs cap idp idr v v7 v8 l W) (hs : IsSet w0.heap.size W' g gs cap ids') (hok : OkS ids') (hg : W.grownBy W' (some gs)) : Fam w0 g gs cap ids' idr v v7 v8 l W' := by
  obtain ⟨ds, hd⟩ := own_cellsV h.cur.2.1
  refine ⟨hs, h.rv.keptB hg h.vne, ⟨hok, h.ok.2⟩, h.vne, fun o ho => ?_, h.own7.kept hg (.inr (ownV_ne h.own7 hd (by decide))), h.own8.kept hg (.inr (ownV_ne h.own8 hd (by decide))), h.below.grown hg h.below.size (fun j hj => by obtain rfl := Option.some.inj hj; exact (set_lt h.cur).2.2)⟩
  obtain ⟨h1, h2, h3, h4, h5⟩ := h.old o ho
  exact ⟨h1.keptB h.cur hg h4, h2.keptB hg h5, h3, h4, h5⟩
/-- So is the document's. -/
theorem Fam.told {w0 : World} {g gs cap : Nat} {idp idr ids' : List Int} {v v' v7 v8 : Value} {l : List OldD} {W W' : World} (h : Fam w0 g gs cap idp idr v v7 v8 l W) (hr : RSetP w0.heap.size W' v' ids') (hok : OkS ids') (b : Below W.heap.size W W') (hf : ∀ g0, g0 < W.heap.size → v.ownBlock ≠ some g0 → v'.ownBlock ≠ some g0) : Fam w0 g gs cap idp ids' v' v7 v8 l W' := by
  have hm := h.more b
  exact ⟨hm.cur, hr, ⟨h.ok.1, hok⟩, hf gs (set_lt h.cur).2.1 h.vne, hm.old, hm.own7, hm.own8, hm.below⟩
/-- Between the two appends. -/
structure Half (w0 : World) (g gs cap : Nat) (ids : List Int) (v v7 v8 : Value) (l : List OldD) (M L : List Value) (W : World) : Prop where
  cur : IsSet w0.heap.size W g gs cap ids
  rv : RSetP w0.heap.size W v ids
  old : ∀ o ∈ l, IsSet w0.heap.size W o.g o.gs o.cap o.ids ∧ RSetP w0.heap.size W (oldV o) o.ids ∧ OkS o.ids ∧ o.gs ≠ gs ∧ (oldV o).ownBlock ≠ some gs
  own7 : OwnsV w0.heap.size W 84 v7 M
  own8 : OwnsV w0.heap.size W 48 v8 L
  below : Below w0.heap.size w0 W
theorem Fam.half {w0 : World} {g gs cap : Nat} {ids : List Int} {v v7 v8 : Value} {l : List OldD} {W : World} (h : Fam w0 g gs cap ids ids v v7 v8 l W) : Half w0 g gs cap ids v v7 v8 l (ptrs l) (olds l) W := ⟨h.cur, h.rv, h.old, h.own7, h.own8, h.below⟩
theorem Half.more {w0 : World} {g gs cap : Nat} {ids : List Int} {v v7 v8 : Value} {l : List OldD} {M L : List Value} {W W' : World} (h : Half w0 g gs cap ids v v7 v8 l M L W) (b : Below W.heap.size W W') : Half w0 g gs cap ids v v7 v8 l M L W' :=
  ⟨h.cur.below b, h.rv.below b, fun o ho => by obtain ⟨h1, h2, h3, h4, h5⟩ := h.old o ho; exact ⟨h1.below b, h2.below b, h3, h4, h5⟩, h.own7.below b, h.own8.below b, below_next h.below b⟩
theorem Half.push7 {w0 : World} {g gs cap : Nat} {ids : List Int} {v v7 v7' v8 : Value} {l : List OldD} {M M' L : List Value} {W W' : World} (h : Half w0 g gs cap ids v v7 v8 l M L W) (ho : OwnsV w0.heap.size W' 84 v7' M') (hg : W.grownBy W' v7.ownBlock) : Half w0 g gs cap ids v v7' v8 l M' L W' := by
  refine ⟨h.cur.keptV h.own7 hg (by decide) (by decide), h.rv.keptV h.own7 hg (by decide), fun o ho => ?_, ho, h.own8.keptV h.own7 hg (by decide), h.below.grown hg h.below.size (fun j hj => (h.own7.lt j hj).1)⟩
  obtain ⟨h1, h2, h3, h4, h5⟩ := h.old o ho
  exact ⟨h1.keptV h.own7 hg (by decide) (by decide), h2.keptV h.own7 hg (by decide), h3, h4, h5⟩
theorem Half.push8 {w0 : World} {g gs cap : Nat} {ids : List Int} {v v7 v8 v8' : Value} {l : List OldD} {M L L' : List Value} {W W' : World} (h : Half w0 g gs cap ids v v7 v8 l M L W) (ho : OwnsV w0.heap.size W' 48 v8' L') (hg : W.grownBy W' v8.ownBlock) : Half w0 g gs cap ids v v7 v8' l M L' W' := by
  refine ⟨h.cur.keptV h.own8 hg (by decide) (by decide), h.rv.keptV h.own8 hg (by decide), fun o ho => ?_, h.own7.keptV h.own8 hg (by decide), ho, h.below.grown hg h.below.size (fun j hj => (h.own8.lt j hj).1)⟩
  obtain ⟨h1, h2, h3, h4, h5⟩ := h.old o ho
  exact ⟨h1.keptV h.own8 hg (by decide) (by decide), h2.keptV h.own8 hg (by decide), h3, h4, h5⟩
/-- A clone goes on. -/
theorem Half.clone {w0 : World} {g gs cap g' gs' cap' : Nat} {ids : List Int} {a : Option Addr} {c : Nat} {v7 v8 : Value} {l : List OldD} {W W' : World} (h : Half w0 g gs cap ids (.slice a ids.length c) v7 v8 l (ptrs (l ++ [⟨g, gs, cap, ids, a, c⟩])) (olds (l ++ [⟨g, gs, cap, ids, a, c⟩])) W)
    (hok : OkS ids) (hs : IsSet W.heap.size W' g' gs' cap' ids) (b : Below W.heap.size W W') : Fam w0 g' gs' cap' ids ids (.slice a ids.length c) v7 v8 (l ++ [⟨g, gs, cap, ids, a, c⟩]) W' := by
  obtain ⟨h1, h2, h3, h4, h5, hb⟩ := h
  have hgs : W.heap.size ≤ gs' := (set_lt hs).2.2
  have far : ∀ (v : Value) (jds : List Int), RSetP w0.heap.size W v jds → v.ownBlock ≠ some gs' := fun v jds hr e => by
    obtain ⟨a9, c9, _, h9⟩ := hr
    have := (h9.lt gs' e).2
    omega
  refine ⟨hs.less hb.size, h2.below b, ⟨hok, hok⟩, far _ _ h2, fun o ho => ?_, h4.below b, h5.below b, below_next hb b⟩
  rcases List.mem_append.1 ho with ho | ho
  · obtain ⟨k1, k2, k3, k4, k5⟩ := h3 o ho
    exact ⟨k1.below b, k2.below b, k3, by have := (set_lt k1).2.1; omega, far _ _ k2⟩
  · obtain rfl : o = ⟨g, gs, cap, ids, a, c⟩ := by simpa using ho
    exact ⟨h1.below b, h2.below b, hok, by have := (set_lt h1).2.1; show gs ≠ gs'; omega, far _ _ h2⟩
theorem okS_take {ids : List Int} (h : OkS ids) (n : Int) : OkS (takeS ids n).1 := by
  unfold takeS
  split
  · exact okS_set h _ (by decide)
  · exact h
theorem okS_put {ids : List Int} (h : OkS ids) (x : Int) : OkS (putS ids x).1 := by
  unfold putS
  split
  · exact h
  · split
    · exact h
    · exact okS_set h _ (by omega)
theorem okS_at {ids : List Int} (h : OkS ids) (n x : Int) : OkS (atS ids n x).1 := by
  unfold atS
  split
  · exact h
  · split
    · exact h
    · exact okS_set h _ (by omega)
theorem info_setptr : (Try.prog.info? 84).map (fun i => (i.zero, i.size, i.bytes)) = some (some (.pointer none), 1, 8) := by kernel_rfl
theorem info_ints : (Try.prog.info? 48).map (fun i => (i.zero, i.size, i.bytes)) = some (some (.slice none 0 0), 1, 24) := by kernel_rfl
theorem ptrs_length (l : List OldD) : (ptrs l).length = l.length := by unfold ptrs; rw [List.length_map]
theorem olds_length (l : List OldD) : (olds l).length = l.length := by unfold olds; rw [List.length_map]
end Go.Proofs.Ytbpklbicbeckdaa
