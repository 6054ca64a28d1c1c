/- The chain: what an act leaves as it was, by the kinds of blocks that it touches. -/
import Derived.Test.YtebkkbmplndcpaaGicckmfdm
import Derived.Test.YtebkkbmplndcpaaMp
namespace Go.Proofs.Ytebkkbmplndcpaa
open Go.RowKit Go.Sort
set_option linter.unusedVariables false
set_option linter.unusedSimpArgs false
set_option maxRecDepth 100000

/-- Nothing has turned but these blocks. -/
structure Kb (bad : Nat → Prop) (w w' : World) : Prop where
  os : w'.os = w.os
  tape : w'.tape = w.tape
  output : w'.output = w.output
  size : w.heap.size ≤ w'.heap.size
  block : ∀ i, i < w.heap.size → ¬ bad i → w'.heap[i]? = w.heap[i]?
theorem Kb.row {w w' : World} {r : Nat} (k : w.grownBy w' (some r)) : Kb (fun i => i = r) w w' := ⟨k.os, k.tape, k.output, k.size, fun i hi h => k.block i hi (by intro e; exact h (Option.some.inj e))⟩
theorem Kb.own {w w' : World} {v : Value} (k : w.grownBy w' v.ownBlock) : Kb (fun i => v.ownBlock = some i) w w' := ⟨k.os, k.tape, k.output, k.size, fun i hi h => k.block i hi (fun e => h e.symm)⟩
theorem Kb.tab {w w' : World} {g gs : Nat} (k : TKeeps g gs w w') : Kb (fun i => i = g ∨ i = gs) w w' := ⟨k.os, k.tape, k.output, k.size, fun i hi h => k.block i hi (fun e => h (.inl e)) (fun e => h (.inr e))⟩
/-- Where they are blocks of cells they are of such types. -/
def Typed (w : World) (bad : Nat → Prop) (E : TypeId → Prop) : Prop := ∀ i, bad i → ∀ cs e, w.heap[i]? = some (.cells cs e (0, 0)) → E e
theorem Typed.ne {w : World} {bad : Nat → Prop} {E : TypeId → Prop} (h : Typed w bad E) {b : Nat} {cs : Array Value} {t : TypeId} (hb : w.heap[b]? = some (.cells cs t (0, 0))) (ht : ¬ E t) : ¬ bad b := fun hbad => ht (h b hbad cs t hb)
theorem Typed.of {w : World} {r : Nat} {cs : Array Value} {t : TypeId} (h : w.heap[r]? = some (.cells cs t (0, 0))) : Typed w (fun i => i = r) (fun e => e = t) := fun i hi cs' e h' => by
  subst hi
  rw [h] at h'
  simp at h'
  exact h'.2.symm
theorem OwnsR'.keptK {B : Nat} {w w' : World} {e : TypeId} {k : Nat} {v : Value} {l : List (List Value)} {bad : Nat → Prop} (h : OwnsR' B w e k v l) (hk : Kb bad w w') (hn : ∀ b, v.ownBlock = some b → ¬ bad b) : OwnsR' B w' e k v l := by
  obtain ⟨h0, hl, ⟨hv, hn0⟩ | ⟨g', cap, cur, hv, hB, hg, hc, hm, hs, ht⟩⟩ := h
  · exact ⟨h0, hl, .inl ⟨hv, hn0⟩⟩
  · subst hv
    exact ⟨h0, hl, .inr ⟨g', cap, cur, rfl, hB, (hk.block g' (Array.getElem?_eq_some_iff.1 hg).1 (hn g' rfl)).trans hg, hc, hm, hs, ht⟩⟩
theorem OwnsV.keptK {B : Nat} {w w' : World} {e : TypeId} {v : Value} {l : List Value} {bad : Nat → Prop} (h : OwnsV B w e v l) (hk : Kb bad w w') (hn : ∀ b, v.ownBlock = some b → ¬ bad b) : OwnsV B w' e v l := by
  obtain ⟨hl, ⟨hv, hn0⟩ | ⟨g', cap, cur, hv, hB, hg, hc, hm, hs, ht⟩⟩ := h
  · exact ⟨hl, .inl ⟨hv, hn0⟩⟩
  · subst hv
    exact ⟨hl, .inr ⟨g', cap, cur, rfl, hB, (hk.block g' (Array.getElem?_eq_some_iff.1 hg).1 (hn g' rfl)).trans hg, hc, hm, hs, ht⟩⟩
theorem Owns.keptK {B : Nat} {w w' : World} {v : Value} {l : List Nat} {bad : Nat → Prop} (h : Owns B w v l) (hk : Kb bad w w') (hn : ∀ b, v.ownBlock = some b → ¬ bad b) : Owns B w' v l := by
  obtain ⟨hb, hl, ⟨hv, hn0⟩ | ⟨g', cap, cur, hv, hB, hg, hc, hm, hs, ht⟩⟩ := h
  · exact ⟨hb, hl, .inl ⟨hv, hn0⟩⟩
  · subst hv
    exact ⟨hb, hl, .inr ⟨g', cap, cur, rfl, hB, (hk.block g' (Array.getElem?_eq_some_iff.1 hg).1 (hn g' rfl)).trans hg, hc, hm, hs, ht⟩⟩
theorem OwnsR'.typed {B : Nat} {w : World} {e : TypeId} {k : Nat} {v : Value} {l : List (List Value)} (h : OwnsR' B w e k v l) : ∀ b, v.ownBlock = some b → ∃ cs, w.heap[b]? = some (.cells cs e (0, 0)) := by
  obtain ⟨_, _, ⟨hv, _⟩ | ⟨g', cap, cur, hv, _, hg, _⟩⟩ := h
  · intro b hb; rw [hv] at hb; cases hb
  · intro b hb; rw [hv] at hb; cases hb; exact ⟨_, hg⟩
theorem OwnsV.typed {B : Nat} {w : World} {e : TypeId} {v : Value} {l : List Value} (h : OwnsV B w e v l) : ∀ b, v.ownBlock = some b → ∃ cs, w.heap[b]? = some (.cells cs e (0, 0)) := by
  obtain ⟨_, ⟨hv, _⟩ | ⟨g', cap, cur, hv, _, hg, _⟩⟩ := h
  · intro b hb; rw [hv] at hb; cases hb
  · intro b hb; rw [hv] at hb; cases hb; exact ⟨_, hg⟩
theorem Owns.typed {B : Nat} {w : World} {v : Value} {l : List Nat} (h : Owns B w v l) : ∀ b, v.ownBlock = some b → ∃ cs, w.heap[b]? = some (.cells cs 5 (0, 0)) := by
  obtain ⟨_, _, ⟨hv, _⟩ | ⟨g', cap, cur, hv, _, hg, _⟩⟩ := h
  · intro b hb; rw [hv] at hb; cases hb
  · intro b hb; rw [hv] at hb; cases hb; exact ⟨_, hg⟩
theorem keep_block {w w' : World} {bad : Nat → Prop} {E : TypeId → Prop} (hk : Kb bad w w') (ht : Typed w bad E) {b : Nat} {cs : Array Value} {t : TypeId} (hb : w.heap[b]? = some (.cells cs t (0, 0))) (hn : ¬ E t) : w'.heap[b]? = some (.cells cs t (0, 0)) :=
  (hk.block b (Array.getElem?_eq_some_iff.1 hb).1 (ht.ne hb hn)).trans hb
theorem OwnsR'.keptE {B : Nat} {w w' : World} {e : TypeId} {k : Nat} {v : Value} {l : List (List Value)} {bad : Nat → Prop} {E : TypeId → Prop} (h : OwnsR' B w e k v l) (hk : Kb bad w w') (ht : Typed w bad E) (hn : ¬ E e) : OwnsR' B w' e k v l :=
  h.keptK hk fun b hb => by obtain ⟨cs, hc⟩ := h.typed b hb; exact ht.ne hc hn
theorem OwnsV.keptE {B : Nat} {w w' : World} {e : TypeId} {v : Value} {l : List Value} {bad : Nat → Prop} {E : TypeId → Prop} (h : OwnsV B w e v l) (hk : Kb bad w w') (ht : Typed w bad E) (hn : ¬ E e) : OwnsV B w' e v l :=
  h.keptK hk fun b hb => by obtain ⟨cs, hc⟩ := h.typed b hb; exact ht.ne hc hn
theorem Owns.keptE {B : Nat} {w w' : World} {v : Value} {l : List Nat} {bad : Nat → Prop} {E : TypeId → Prop} (h : Owns B w v l) (hk : Kb bad w w') (ht : Typed w bad E) (hn : ¬ E 5) : Owns B w' v l :=
  h.keptK hk fun b hb => by obtain ⟨cs, hc⟩ := h.typed b hb; exact ht.ne hc hn
theorem IsFiles.keptE {B : Nat} {w w' : World} {g gs : Nat} {fl : List FileD} {bad : Nat → Prop} {E : TypeId → Prop} (h : IsFiles B w g gs fl) (hk : Kb bad w w') (ht : Typed w bad E) (h1 : ¬ E 99) (h2 : ¬ E 58) : IsFiles B w' g gs fl :=
  ⟨keep_block hk ht h.1 h1, h.2.1.keptE hk ht h2, h.2.2⟩
theorem IsPipes.keptE {B : Nat} {w w' : World} {g gs : Nat} {fl : List PipeD} {bad : Nat → Prop} {E : TypeId → Prop} (h : IsPipes B w g gs fl) (hk : Kb bad w w') (ht : Typed w bad E) (h1 : ¬ E 102) (h2 : ¬ E 108) : IsPipes B w' g gs fl :=
  ⟨keep_block hk ht h.1 h1, h.2.1.keptE hk ht h2, h.2.2⟩
theorem IsTable.keptE {B : Nat} {w w' : World} {g gs cap : Nat} {T : TabD} {bad : Nat → Prop} {E : TypeId → Prop} (h : IsTable B w g gs cap T) (hk : Kb bad w w') (ht : Typed w bad E) (h1 : ¬ E 77) (h2 : ¬ E 40) : IsTable B w' g gs cap T :=
  ⟨keep_block hk ht h.1 h1, h.2.1.keptE hk ht h2, h.2.2⟩
theorem IsSet.keptE {B : Nat} {w w' : World} {g gs cap : Nat} {ids : List Int} {bad : Nat → Prop} {E : TypeId → Prop} (h : IsSet B w g gs cap ids) (hk : Kb bad w w') (ht : Typed w bad E) (h1 : ¬ E 114) (h2 : ¬ E 3) : IsSet B w' g gs cap ids :=
  ⟨keep_block hk ht h.1 h1, h.2.1.keptE hk ht h2, h.2.2⟩
theorem IsMp.keptE {B : Nat} {w w' : World} {b n : Nat} {p : Int → Bool} {F : Int → Int} {bad : Nat → Prop} (h : IsMp B w b n p F) (hk : Kb bad w w') (ht : ¬ bad b) : IsMp B w' b n p F := by
  obtain ⟨h0, D, ⟨es, cl, hb, h2⟩, h3⟩ := h
  exact ⟨h0, D, ⟨es, cl, (hk.block b (Array.getElem?_eq_some_iff.1 hb).1 ht).trans hb, h2⟩, h3⟩
theorem IsMp.neC {B : Nat} {w : World} {b n r : Nat} {p : Int → Bool} {F : Int → Int} (h : IsMp B w b n p F) {cs : Array Value} {t : TypeId} {fr : Nat × Nat} (hr : w.heap[r]? = some (.cells cs t fr)) : ¬ b = r := h.ne hr
theorem IsMp.typed {B : Nat} {w : World} {b n : Nat} {p : Int → Bool} {F : Int → Int} (h : IsMp B w b n p F) : Typed w (fun i => i = b) (fun _ => False) := fun i hi cs e h' => by
  subst hi
  exact h.ne h' rfl
theorem below_keptK {w0 w w' : World} {bad : Nat → Prop} (h : Below w0.heap.size w0 w) (hk : Kb bad w w') (hn : ∀ i, bad i → w0.heap.size ≤ i) : Below w0.heap.size w0 w' :=
  ⟨hk.os.trans h.os, hk.tape.trans h.tape, hk.output.trans h.output, Nat.le_trans h.size hk.size, fun i hi => (hk.block i (Nat.lt_of_lt_of_le hi h.size) (fun hb => by have := hn i hb; omega)).trans (h.block i hi)⟩
/-- A set that somebody has. -/
structure CsD where
  pid : Int
  g : Nat
  gs : Nat
  cap : Nat
  out : Bool
def csPids (ss : List CsD) : List Int := ss.map (·.pid)
def csP (ss : List CsD) (k : Int) : Bool := decide (k ∈ csPids ss)
def csF (ss : List CsD) (k : Int) : Int := (ss.find? fun x => decide (x.pid = k)).elim 0 fun x => (x.g : Int) + 1
def csOut (ss : List CsD) : Nat := (ss.filter (·.out)).length
theorem csF_at {ss : List CsD} (hnd : (csPids ss).Nodup) {x : CsD} (hx : x ∈ ss) : csF ss x.pid = (x.g : Int) + 1 := by
  unfold csF
  induction ss with
  | nil => cases hx
  | cons y ss ih =>
    unfold csPids at hnd
    rw [List.map_cons, List.nodup_cons] at hnd
    rcases List.mem_cons.1 hx with rfl | hx
    · rw [List.find?_cons_of_pos (by simp)]; rfl
    · have hne : y.pid ≠ x.pid := fun e => hnd.1 (by rw [e]; exact List.mem_map_of_mem hx)
      rw [List.find?_cons_of_neg (by simpa using hne)]
      exact ih hnd.2 hx
theorem csF_none {ss : List CsD} {k : Int} (h : k ∉ csPids ss) : csF ss k = 0 := by
  unfold csF
  rw [List.find?_eq_none.2]
  · rfl
  · intro x hx e
    exact h (by rw [← of_decide_eq_true e]; exact List.mem_map_of_mem hx)
/-- All that the chain has in memory. (sm: what the map says; ss: the sets.) -/
structure Ch (w0 W : World) (gf gfs gp gps g gs cap bm n q1 q2 : Nat) (s : PipeD) (T : TabD) (sm ss : List CsD) (c o : Nat) (vs vg : Value) (sent got : List Nat) : Prop where
  files : IsFiles w0.heap.size W gf gfs (flC c o)
  pipes : IsPipes w0.heap.size W gp gps [s, zeroP]
  tab : IsTable w0.heap.size W g gs cap T
  map : IsMp w0.heap.size W bm n (csP sm) (csF sm)
  sets : ∀ x ∈ ss, IsSet w0.heap.size W x.g x.gs x.cap (setC x.out)
  apart : ss.Pairwise fun x y => x.gs ≠ y.gs
  bf : W.heap[q1]? = some (.cells #[.pointer (some ⟨gf, 0, none⟩)] 48 (0, 0))
  bp : W.heap[q2]? = some (.cells #[.pointer (some ⟨gp, 0, none⟩)] 50 (0, 0))
  sent : Owns w0.heap.size W vs sent
  got : Owns w0.heap.size W vg got
  ne : ∀ b, vs.ownBlock = some b → vg.ownBlock ≠ some b
  bel : Below w0.heap.size w0 W
section
variable {w0 W W' : World} {gf gfs gp gps g gs cap bm n q1 q2 : Nat} {s s' : PipeD} {T T' : TabD} {sm ss : List CsD} {c o : Nat} {vs vg : Value} {sent got : List Nat}
theorem Ch.below (h : Ch w0 W gf gfs gp gps g gs cap bm n q1 q2 s T sm ss c o vs vg sent got) (b : Below W.heap.size W W') : Ch w0 W' gf gfs gp gps g gs cap bm n q1 q2 s T sm ss c o vs vg sent got :=
  ⟨h.files.below b, h.pipes.below b, h.tab.below b, h.map.below b, fun x hx => (h.sets x hx).below b, h.apart, (b.block q1 (Array.getElem?_eq_some_iff.1 h.bf).1).trans h.bf, (b.block q2 (Array.getElem?_eq_some_iff.1 h.bp).1).trans h.bp, h.sent.below b, h.got.below b, h.ne, below_next h.bel b⟩
theorem Ch.filed {c' o' : Nat} (h : Ch w0 W gf gfs gp gps g gs cap bm n q1 q2 s T sm ss c o vs vg sent got) (hf : IsFiles w0.heap.size W' gf gfs (flC c' o')) (hg : W.grownBy W' (some gfs)) : Ch w0 W' gf gfs gp gps g gs cap bm n q1 q2 s T sm ss c' o' vs vg sent got := by
  obtain ⟨cs, hc⟩ := h.files.2.1.typed gfs rfl
  have hk := Kb.row hg
  have ht := Typed.of hc
  exact ⟨hf, h.pipes.keptE hk ht (by decide) (by decide), h.tab.keptE hk ht (by decide) (by decide), h.map.keptE hk (h.map.neC hc), fun x hx => (h.sets x hx).keptE hk ht (by decide) (by decide), h.apart, keep_block hk ht h.bf (by decide), keep_block hk ht h.bp (by decide), h.sent.keptE hk ht (by decide), h.got.keptE hk ht (by decide), h.ne, below_keptK h.bel hk fun i hi => by subst hi; exact (files_lt h.files).2.2⟩
theorem Ch.piped (h : Ch w0 W gf gfs gp gps g gs cap bm n q1 q2 s T sm ss c o vs vg sent got) (hf : IsPipes w0.heap.size W' gp gps [s', zeroP]) (hg : W.grownBy W' (some gps)) : Ch w0 W' gf gfs gp gps g gs cap bm n q1 q2 s' T sm ss c o vs vg sent got := by
  obtain ⟨cs, hc⟩ := h.pipes.2.1.typed gps rfl
  have hk := Kb.row hg
  have ht := Typed.of hc
  exact ⟨h.files.keptE hk ht (by decide) (by decide), hf, h.tab.keptE hk ht (by decide) (by decide), h.map.keptE hk (h.map.neC hc), fun x hx => (h.sets x hx).keptE hk ht (by decide) (by decide), h.apart, keep_block hk ht h.bf (by decide), keep_block hk ht h.bp (by decide), h.sent.keptE hk ht (by decide), h.got.keptE hk ht (by decide), h.ne, below_keptK h.bel hk fun i hi => by subst hi; exact (pipes_lt h.pipes).2.2⟩
theorem Ch.tabbed {gs' cap' : Nat} (h : Ch w0 W gf gfs gp gps g gs cap bm n q1 q2 s T sm ss c o vs vg sent got) (hf : IsTable w0.heap.size W' g gs' cap' T') (hg : TKeeps g gs W W') : Ch w0 W' gf gfs gp gps g gs' cap' bm n q1 q2 s T' sm ss c o vs vg sent got := by
  obtain ⟨cs, hc⟩ := h.tab.2.1.typed gs rfl
  have hk := Kb.tab hg
  have ht : Typed W (fun i => i = g ∨ i = gs) (fun e => e = 77 ∨ e = 40) := fun i hi cs' e h' => by
    rcases hi with rfl | rfl
    · rw [h.tab.1] at h'; simp at h'; exact .inl h'.2.symm
    · rw [hc] at h'; simp at h'; exact .inr h'.2.symm
  exact ⟨h.files.keptE hk ht (by decide) (by decide), h.pipes.keptE hk ht (by decide) (by decide), hf, h.map.keptE hk (fun e => e.elim (h.map.neC h.tab.1) (h.map.neC hc)), fun x hx => (h.sets x hx).keptE hk ht (by decide) (by decide), h.apart, keep_block hk ht h.bf (by decide), keep_block hk ht h.bp (by decide), h.sent.keptE hk ht (by decide), h.got.keptE hk ht (by decide), h.ne, below_keptK h.bel hk fun i hi => by
    rcases hi with rfl | rfl
    · exact h.tab.2.2.1
    · exact (table_lt h.tab).2.2⟩
theorem Ch.mapped {n' : Nat} {sm' : List CsD} (h : Ch w0 W gf gfs gp gps g gs cap bm n q1 q2 s T sm ss c o vs vg sent got) (hf : IsMp w0.heap.size W' bm n' (csP sm') (csF sm')) (hg : W.grownBy W' (some bm)) : Ch w0 W' gf gfs gp gps g gs cap bm n' q1 q2 s T sm' ss c o vs vg sent got := by
  have hk := Kb.row hg
  have ht := h.map.typed
  exact ⟨h.files.keptE hk ht id id, h.pipes.keptE hk ht id id, h.tab.keptE hk ht id id, hf, fun x hx => (h.sets x hx).keptE hk ht id id, h.apart, keep_block hk ht h.bf id, keep_block hk ht h.bp id, h.sent.keptE hk ht id, h.got.keptE hk ht id, h.ne, below_keptK h.bel hk fun i hi => by subst hi; exact h.map.1⟩
/-- A set more. -/
theorem Ch.more {x : CsD} (h : Ch w0 W gf gfs gp gps g gs cap bm n q1 q2 s T sm ss c o vs vg sent got) (hs : IsSet W.heap.size W' x.g x.gs x.cap (setC x.out)) (b : Below W.heap.size W W') : Ch w0 W' gf gfs gp gps g gs cap bm n q1 q2 s T sm (ss ++ [x]) c o vs vg sent got := by
  have hb := h.below b
  refine ⟨hb.files, hb.pipes, hb.tab, hb.map, fun y hy => ?_, ?_, hb.bf, hb.bp, hb.sent, hb.got, hb.ne, hb.bel⟩
  · rcases List.mem_append.1 hy with hy | hy
    · exact hb.sets y hy
    · obtain rfl : y = x := by simpa using hy
      exact hs.less h.bel.size
  · rw [List.pairwise_append]
    refine ⟨h.apart, by simp, fun y hy z hz => ?_⟩
    obtain rfl : z = x := by simpa using hz
    have h1 := (set_lt (h.sets y hy)).2.1
    have h2 := (set_lt hs).2.2
    omega
/-- A set is another one. -/
theorem Ch.setted {x : CsD} {l r : List CsD} {ou : Bool} (h : Ch w0 W gf gfs gp gps g gs cap bm n q1 q2 s T sm (l ++ x :: r) c o vs vg sent got) (hs : IsSet w0.heap.size W' x.g x.gs x.cap (setC ou)) (hg : W.grownBy W' (some x.gs)) : Ch w0 W' gf gfs gp gps g gs cap bm n q1 q2 s T sm (l ++ { x with out := ou } :: r) c o vs vg sent got := by
  have hx := h.sets x (by simp)
  obtain ⟨cs, hc⟩ := hx.2.1.typed x.gs rfl
  have hk := Kb.row hg
  have ht := Typed.of hc
  have hap := h.apart
  rw [List.pairwise_append] at hap
  obtain ⟨a1, a2, a3⟩ := hap
  rw [List.pairwise_cons] at a2
  have keep : ∀ y ∈ l ++ x :: r, y.gs ≠ x.gs → IsSet w0.heap.size W' y.g y.gs y.cap (setC y.out) := fun y hy hne =>
    ⟨keep_block hk ht (h.sets y hy).1 (by decide), (h.sets y hy).2.1.keptK hk (fun b hb e => hne (by cases hb; exact e)), (h.sets y hy).2.2⟩
  refine ⟨h.files.keptE hk ht (by decide) (by decide), h.pipes.keptE hk ht (by decide) (by decide), h.tab.keptE hk ht (by decide) (by decide), h.map.keptE hk (h.map.neC hc), fun y hy => ?_, ?_, keep_block hk ht h.bf (by decide), keep_block hk ht h.bp (by decide), h.sent.keptE hk ht (by decide), h.got.keptE hk ht (by decide), h.ne, below_keptK h.bel hk fun i hi => by subst hi; exact (set_lt hx).2.2⟩
  · rcases List.mem_append.1 hy with hy | hy
    · exact keep y (by simp [hy]) (a3 y hy x (by simp))
    · rcases List.mem_cons.1 hy with rfl | hy
      · exact hs
      · exact keep y (by simp [hy]) (fun e => a2.1 y hy e.symm)
  · rw [List.pairwise_append, List.pairwise_cons]
    refine ⟨a1, ⟨a2.1, a2.2⟩, fun y hy z hz => ?_⟩
    rcases List.mem_cons.1 hz with rfl | hz
    · exact a3 y hy x (by simp)
    · exact a3 y hy z (by simp [hz])
/-- A set that nobody has any more. -/
theorem Ch.drop {ss' : List CsD} (h : Ch w0 W gf gfs gp gps g gs cap bm n q1 q2 s T sm ss c o vs vg sent got) (hs : ss'.Sublist ss) : Ch w0 W gf gfs gp gps g gs cap bm n q1 q2 s T sm ss' c o vs vg sent got :=
  ⟨h.files, h.pipes, h.tab, h.map, fun x hx => h.sets x (hs.mem hx), h.apart.sublist hs, h.bf, h.bp, h.sent, h.got, h.ne, h.bel⟩
theorem own_other {w : World} {v : Value} {l : List Nat} {B : Nat} (h : Owns B w v l) : ∀ b, v.ownBlock = some b → b < w.heap.size := fun b hb => by obtain ⟨cs, hc⟩ := h.typed b hb; exact (Array.getElem?_eq_some_iff.1 hc).1
theorem Ch.sentd {vs' : Value} {sent' : List Nat} (h : Ch w0 W gf gfs gp gps g gs cap bm n q1 q2 s T sm ss c o vs vg sent got) (ho : Owns w0.heap.size W' vs' sent') (hg : W.grownBy W' vs.ownBlock) (hl : vs'.ownBlock = vs.ownBlock ∨ vs'.ownBlock = some W.heap.size) : Ch w0 W' gf gfs gp gps g gs cap bm n q1 q2 s T sm ss c o vs' vg sent' got := by
  have hk := Kb.own hg
  have ht : Typed W (fun i => vs.ownBlock = some i) (fun e => e = 5) := fun i hi cs e h' => by
    obtain ⟨cs2, hc⟩ := h.sent.typed i hi
    rw [hc] at h'; simp at h'; exact h'.2.symm
  refine ⟨h.files.keptE hk ht (by decide) (by decide), h.pipes.keptE hk ht (by decide) (by decide), h.tab.keptE hk ht (by decide) (by decide), h.map.keptE hk (fun e => by obtain ⟨cs, hc⟩ := h.sent.typed bm e; exact h.map.neC hc rfl), fun x hx => (h.sets x hx).keptE hk ht (by decide) (by decide), h.apart, keep_block hk ht h.bf (by decide), keep_block hk ht h.bp (by decide), ho, h.got.keptK hk (fun b hb e => h.ne b e hb), fun b hb e => ?_, below_keptK h.bel hk fun i hi => h.sent.lt i hi⟩
  rcases hl with hl | hl
  · exact h.ne b (hl ▸ hb) e
  · rw [hl] at hb
    have h1 := own_other h.got b e
    have h2 : W.heap.size = b := Option.some.inj hb
    omega
theorem Ch.gotd {vg' : Value} {got' : List Nat} (h : Ch w0 W gf gfs gp gps g gs cap bm n q1 q2 s T sm ss c o vs vg sent got) (ho : Owns w0.heap.size W' vg' got') (hg : W.grownBy W' vg.ownBlock) (hl : vg'.ownBlock = vg.ownBlock ∨ vg'.ownBlock = some W.heap.size) : Ch w0 W' gf gfs gp gps g gs cap bm n q1 q2 s T sm ss c o vs vg' sent got' := by
  have hk := Kb.own hg
  have ht : Typed W (fun i => vg.ownBlock = some i) (fun e => e = 5) := fun i hi cs e h' => by
    obtain ⟨cs2, hc⟩ := h.got.typed i hi
    rw [hc] at h'; simp at h'; exact h'.2.symm
  refine ⟨h.files.keptE hk ht (by decide) (by decide), h.pipes.keptE hk ht (by decide) (by decide), h.tab.keptE hk ht (by decide) (by decide), h.map.keptE hk (fun e => by obtain ⟨cs, hc⟩ := h.got.typed bm e; exact h.map.neC hc rfl), fun x hx => (h.sets x hx).keptE hk ht (by decide) (by decide), h.apart, keep_block hk ht h.bf (by decide), keep_block hk ht h.bp (by decide), h.sent.keptK hk (fun b hb e => h.ne b hb e), ho, fun b hb e => ?_, below_keptK h.bel hk fun i hi => h.got.lt i hi⟩
  rcases hl with hl | hl
  · exact h.ne b hb (hl ▸ e)
  · rw [hl] at e
    have h1 := own_other h.sent b hb
    have h2 : W.heap.size = b := Option.some.inj e
    omega
end
end Go.Proofs.Ytebkkbmplndcpaa
