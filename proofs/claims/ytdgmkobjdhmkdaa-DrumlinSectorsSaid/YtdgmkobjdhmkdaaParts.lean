/- Parts (a width, a number, raw or not, bytes) in memory: the opening of an argument that is a slice of them; append of one. -/
import Derived.Test.YtdgmkobjdhmkdaaMake
import Derived.Test.YtdgmkobjdhmkdaaOpen
import Derived.Deep.Slices
namespace Go.Proofs.Ytdgmkobjdhmkdaa
open Go.ChangeShapes Go.WideShapes Go.RowKit Go.Deep
set_option linter.unusedVariables false
set_option maxRecDepth 100000

/-- One part, as a plain thing. -/
structure PartD where
  q : Int
  n : Nat
  raw : Bool
  a : Option Addr
  len : Nat
  cap : Nat
  b : List Nat

def PartD.vals (p : PartD) : List Value := [.int .i64 p.q, .int .u64 (p.n : Int), .bool p.raw, .slice p.a p.len p.cap]
def PartOk (w : World) (p : PartD) : Prop := I64 p.q ∧ p.n < 18446744073709551616 ∧ Reads w p.a p.len p.b ∧ p.len ≤ p.cap ∧ p.cap ≤ maxLen
def PartAt (w : World) (b o : Nat) (p : PartD) : Prop :=
  PartOk w p ∧ w.cell? ⟨b, o, none⟩ = some (.int .i64 p.q) ∧ w.cell? ⟨b, o + 1, none⟩ = some (.int .u64 (p.n : Int)) ∧ w.cell? ⟨b, o + 2, none⟩ = some (.bool p.raw) ∧ w.cell? ⟨b, o + 3, none⟩ = some (.slice p.a p.len p.cap)
def Parts (w : World) (a : Option Addr) (len : Nat) (ps : List PartD) : Prop :=
  ps.length = len ∧ (ps = [] ∨ ∃ b off, a = some ⟨b, off, none⟩ ∧ b < w.heap.size ∧ ∀ i p, ps[i]? = some p → PartAt w b (off + i * 4) p)

theorem PartOk.below {w w' : World} {p : PartD} (h : PartOk w p) (hb : Below w.heap.size w w') : PartOk w' p := ⟨h.1, h.2.1, h.2.2.1.below hb, h.2.2.2⟩
theorem PartAt.below {w w' : World} {b o : Nat} {p : PartD} (h : PartAt w b o p) (hbl : b < w.heap.size) (hb : Below w.heap.size w w') : PartAt w' b o p := by
  obtain ⟨h0, h1, h2, h3, h4⟩ := h
  refine ⟨h0.below hb, ?_, ?_, ?_, ?_⟩
  · rw [hb.cell (p := ⟨b, o, none⟩) hbl]; exact h1
  · rw [hb.cell (p := ⟨b, o + 1, none⟩) hbl]; exact h2
  · rw [hb.cell (p := ⟨b, o + 2, none⟩) hbl]; exact h3
  · rw [hb.cell (p := ⟨b, o + 3, none⟩) hbl]; exact h4
theorem Parts.below {w w' : World} {a : Option Addr} {len : Nat} {ps : List PartD} (h : Parts w a len ps) (hb : Below w.heap.size w w') : Parts w' a len ps := by
  obtain ⟨h1, h2⟩ := h
  refine ⟨h1, ?_⟩
  rcases h2 with h2 | ⟨b, off, ha, hbl, hp⟩
  · exact .inl h2
  · exact .inr ⟨b, off, ha, Nat.lt_of_lt_of_le hbl hb.size, fun i p hi => (hp i p hi).below hbl hb⟩

/-- Bytes inside of what came in. -/
theorem reads_of_trod {H : Type} {enc : TypeId × Value → H} {W : World} {m : Nat} {v : Value} {y : DataW H × List MemPlace} (h : DataW.trod enc Try.prog W 0 (fun _ => true) true m 33 [v] = some y) :
    ∃ a len cap l, v = .slice a len cap ∧ Reads W a len l ∧ len ≤ cap ∧ cap ≤ maxLen := by
  rcases open_ints Try.underlying33 Try.underlying5 (by kernel_rfl) h with ⟨hcs, _⟩ | ⟨x, l, c, zs, hcs, _, hl, hm, hz, hx, hcell, hwz⟩
  · obtain rfl : v = .slice none 0 0 := by simpa using hcs
    exact ⟨none, 0, 0, [], rfl, ⟨rfl, by intro y hy; simp at hy, .inl rfl⟩, Nat.le_refl _, Nat.zero_le _⟩
  · obtain rfl : v = .slice (some x) l c := by simpa using hcs
    simp only [if_true] at hz
    exact ⟨_, _, _, _, rfl, reads_of_cells hl hz hcell hwz, hl, hm⟩

theorem part_cells : Try.prog.cellsOf 98 = 4 := by kernel_rfl

theorem add_none (b off i : Nat) : (⟨b, off, none⟩ : Addr).add i = ⟨b, off + i, none⟩ := by unfold Addr.add; split <;> simp_all

/-- One element, opened. -/
theorem part_of_trod {H : Type} {enc : TypeId × Value → H} {W : World} {m b o : Nat} {cs : List Value} {y : DataW H × List MemPlace} (hc : W.cells? 0 ⟨b, o, none⟩ 4 = some cs)
    (h : DataW.trod enc Try.prog W 0 (fun _ => true) true m 98 cs = some y) : ∃ p, PartAt W b o p := by
  obtain ⟨_, hl, hat⟩ := World.cells?_some hc
  match cs, hl with
  | [v0, v1, v2, v3], _ =>
    obtain ⟨ys, n', _, _, _, hyl, hf⟩ := DataW.trod_struct Try.underlying98 h
    have get : ∀ j, j < 4 → ∃ u, ys[j]? = some u := fun j hj => ⟨ys[j]'(by rw [hyl]; exact hj), List.getElem?_eq_getElem _⟩
    obtain ⟨y0, e0⟩ := get 0 (by decide)
    obtain ⟨y1, e1⟩ := get 1 (by decide)
    obtain ⟨y2, e2⟩ := get 2 (by decide)
    obtain ⟨y3, e3⟩ := get 3 (by decide)
    have f0 := (hf 0 _ rfl).trans e0
    have f1 := (hf 1 _ rfl).trans e1
    have f2 := (hf 2 _ rfl).trans e2
    have f3 := (hf 3 _ rfl).trans e3
    replace f0 : DataW.trod enc Try.prog W 0 (fun _ => true) true n' 3 [v0] = some y0 := f0
    replace f1 : DataW.trod enc Try.prog W 0 (fun _ => true) true n' 96 [v1] = some y1 := f1
    replace f2 : DataW.trod enc Try.prog W 0 (fun _ => true) true n' 4 [v2] = some y2 := f2
    replace f3 : DataW.trod enc Try.prog W 0 (fun _ => true) true n' 33 [v3] = some y3 := f3
    obtain ⟨q, g0, _, w0⟩ := DataW.trod_int Try.underlying3 f0
    obtain ⟨n, g1, _, w1⟩ := DataW.trod_int Try.underlying96 f1
    obtain ⟨r, g2, _⟩ := DataW.trod_bool Try.underlying4 f2
    obtain ⟨a, len, cap, l, rfl, hr, hlc, hcm⟩ := reads_of_trod f3
    obtain rfl : v0 = .int .i64 q := by simpa using g0
    obtain rfl : v1 = .int .u64 n := by simpa using g1
    obtain rfl : v2 = .bool r := by simpa using g2
    obtain ⟨n0, n1⟩ := u64_of_wf w1
    obtain ⟨n, rfl⟩ := Int.eq_ofNat_of_zero_le n0
    have c := fun j hj => by have := hat j hj; rw [add_none] at this; exact this
    have hn : n < 18446744073709551616 := by omega
    exact ⟨⟨q, n, r, a, len, cap, l⟩, ⟨i64_of_wf w0, hn, hr, hlc, hcm⟩, c 0 (by decide), c 1 (by decide), c 2 (by decide), c 3 (by decide)⟩

/-- A slice of parts that came in, opened. -/
theorem open_parts {H : Type} {enc : TypeId × Value → H} {W : World} {base : Nat} {v : Value} {d : DataW H} {pl : List MemPlace}
    (hok : Value.okWide Try.prog W .any base 93 v) (h : DataW.Trod enc Try.prog W 0 (fun _ => true) true 93 v d pl) :
    ∃ a len cap ps, v = .slice a len cap ∧ Parts W a len ps ∧ len ≤ cap ∧ cap ≤ maxLen := by
  obtain ⟨a0, len0, cap0, rfl⟩ := okWide_slice Try.underlying93 hok
  obtain ⟨fuel, hf⟩ := h
  rcases open_slice Try.underlying93 hf with ⟨hcs, _⟩ | ⟨x, len, cap, m, n, D, Pl, hcs, _, hl, hm, hmm, _, hi⟩
  · simp [Value.cells] at hcs
    obtain ⟨rfl, rfl, rfl⟩ := hcs
    exact ⟨none, 0, 0, [], rfl, ⟨rfl, .inl rfl⟩, Nat.le_refl _, Nat.zero_le _⟩
  · simp [Value.cells] at hcs
    obtain ⟨rfl, rfl, rfl⟩ := hcs
    simp only [if_true] at hmm
    subst hmm
    refine ⟨some x, len0, m, ?_⟩
    by_cases h0 : len0 = 0
    · exact ⟨[], rfl, ⟨h0.symm, .inl rfl⟩, hl, hm⟩
    · obtain ⟨b, off, spot⟩ := x
      rw [part_cells] at hi
      obtain ⟨cs0, hc0, _⟩ := hi 0 (by omega)
      have hs0 := (World.cells?_some hc0).2.2 0 (by decide)
      have hl0 := (World.cells?_some hc0).2.1
      rw [List.getElem?_eq_getElem (by omega)] at hs0
      have hspot : spot = none := by simpa [Addr.add] using World.cell?_spot hs0
      subst hspot
      have hbl : b < W.heap.size := by
        have := World.block_lt_of_cell? _ _ hs0
        rw [add_none, add_none] at this
        exact this
      have hex : ∀ i, ∃ p, i < len0 → PartAt W b (off + i * 4) p := fun i => by
        by_cases hil : i < len0
        · obtain ⟨cs, hc, ht⟩ := hi i (by omega)
          rw [add_none] at hc
          obtain ⟨p, hp⟩ := part_of_trod hc ht
          exact ⟨p, fun _ => hp⟩
        · exact ⟨⟨0, 0, false, none, 0, 0, []⟩, fun h => absurd h hil⟩
      obtain ⟨f, hf⟩ := Classical.skolem.1 hex
      refine ⟨(List.range len0).map f, rfl, ⟨by simp, .inr ⟨b, off, rfl, hbl, fun i p hp => ?_⟩⟩, hl, hm⟩
      simp only [List.getElem?_map, Option.map_eq_some_iff] at hp
      obtain ⟨j, hj, rfl⟩ := hp
      have hil : i < len0 := by
        have := (List.getElem?_eq_some_iff.1 hj).1
        simpa using this
      rw [List.getElem?_range hil] at hj
      obtain rfl := Option.some.inj hj
      exact hf i hil

/-! ### Parts that a call owns -/
def valsL (ps : List PartD) : List Value := ps.flatMap PartD.vals
theorem valsL_length (ps : List PartD) : (valsL ps).length = ps.length * 4 := by
  induction ps with
  | nil => rfl
  | cons p ps ih => simp only [valsL, List.flatMap_cons, List.length_append, List.length_cons] at ih ⊢; rw [ih]; simp [PartD.vals]; omega
theorem valsL_at (ps : List PartD) : ∀ (i : Nat) (p : PartD) (j : Nat), ps[i]? = some p → j < 4 → (valsL ps)[i * 4 + j]? = p.vals[j]? := by
  induction ps with
  | nil => intro i p j h _; simp at h
  | cons x ps ih =>
    intro i p j h hj
    have hx : x.vals.length = 4 := rfl
    have e : valsL (x :: ps) = x.vals ++ valsL ps := rfl
    cases i with
    | zero =>
      simp only [List.getElem?_cons_zero, Option.some.injEq] at h
      subst h
      rw [e, List.getElem?_append_left (by omega)]
      congr 1
      omega
    | succ i =>
      rw [List.getElem?_cons_succ] at h
      rw [e, List.getElem?_append_right (by omega), ← ih i p j h hj]
      congr 1
      omega
theorem vals_one (ps : List PartD) : ∀ u ∈ valsL ps, u.oneCell' = true := by
  intro u hu
  simp only [valsL, List.mem_flatMap] at hu
  obtain ⟨p, _, hp⟩ := hu
  simp [PartD.vals] at hp
  rcases hp with rfl | rfl | rfl | rfl <;> rfl

def OwnsP (B : Nat) (w : World) (v : Value) (ps : List PartD) : Prop := w.ownsRow B 98 4 v ps.length (valsL ps)
theorem OwnsP.lt {B : Nat} {w : World} {v : Value} {ps : List PartD} (h : OwnsP B w v ps) : ∀ k, v.ownBlock = some k → B ≤ k := fun k hk => (World.ownsRow.lt h k hk).1
theorem OwnsP.alloc {B : Nat} {w : World} {v : Value} {ps : List PartD} (h : OwnsP B w v ps) (o : Obj) : OwnsP B (w.alloc o) v ps := World.ownsRow.alloc h o
theorem ownsP_nil (B : Nat) (w : World) : OwnsP B w (.slice none 0 0) [] := World.ownsRow_nil w B 98 4
theorem OwnsP.parts {B : Nat} {w : World} {v : Value} {ps : List PartD} (h : OwnsP B w v ps) (hok : ∀ p ∈ ps, PartOk w p) : ∃ a cap, v = .slice a ps.length cap ∧ Parts w a ps.length ps ∧ ps.length ≤ cap ∧ cap ≤ maxLen := by
  obtain ⟨hlen, h⟩ := h
  rcases h with ⟨rfl, hn⟩ | ⟨g, cap, cur, rfl, hb, hg, hc, hm, hs, ht⟩
  · exact ⟨none, 0, by rw [hn], ⟨rfl, .inl (List.length_eq_zero_iff.1 hn)⟩, by omega, by omega⟩
  · refine ⟨_, cap, rfl, ⟨rfl, .inr ⟨g, 0, rfl, (Array.getElem?_eq_some_iff.1 hg).1, fun i p hi => ?_⟩⟩, hc, hm⟩
    have hil : i < ps.length := (List.getElem?_eq_some_iff.1 hi).1
    have hcell : ∀ j u, j < 4 → p.vals[j]? = some u → w.cell? ⟨g, 0 + i * 4 + j, none⟩ = some u := fun j u hj hu => by
      have h1 := valsL_at ps i p j hi hj
      rw [hu, ← ht, List.getElem?_take, if_pos (by omega)] at h1
      have h2 : 0 + i * 4 + j = i * 4 + j := by omega
      rw [h2]
      simpa [World.cell?, hg] using h1
    exact ⟨hok p (List.mem_of_getElem? hi), hcell 0 _ (by decide) rfl, hcell 1 _ (by decide) rfl, hcell 2 _ (by decide) rfl, hcell 3 _ (by decide) rfl⟩

theorem info_part : (Try.prog.info? 98).map (fun i => (i.size, i.bytes)) = some (4, 48) := by kernel_rfl
theorem full_part : (Try.prog.info? 98).map (fun i => (i.zero, i.size, i.bytes)) = some (some (.agg #[.int .i64 0, .int .u64 0, .bool false, .slice none 0 0]), 4, 48) := by kernel_rfl

/-- 'append(parts, one)'. -/
theorem wpList_append_part {w : World} {ops : Array Oper} {rest : List Oper} {o : Oper} {a : Act} {Q : Exit → Act → World → Prop} (hgd : o.guard = none) (s x : Operand)
    (ho : o.op = .call { callee := .builtin .append, args := #[s, x], argTypes := #[93, 93] })
    (B : Nat) (v : Value) (ps : List PartD) (hs : a.eval s = v) (hown : OwnsP B w v ps) (g c : Nat) (hx : a.eval x = .slice (some ⟨g, 0, none⟩) 1 c) (p : PartD) (hp : ∀ j u, p.vals[j]? = some u → w.cell? ⟨g, 0 + j, none⟩ = some u)
    (hb : ps.length + 1 ≤ 1000000) (hB : B ≤ w.heap.size)
    (h : ∀ v' w', OwnsP B w' v' (ps ++ [p]) → w.grownBy w' v.ownBlock → wpList Try.prog ops Q rest (a.put o.dst v') w') : wpList Try.prog ops Q (o :: rest) a w := by
  obtain ⟨i0, hi, hz0, hz1, hz2⟩ := info_parts full_part
  have e : valsL (ps ++ [p]) = valsL ps ++ p.vals := by simp [valsL]
  refine wpList_append_own w hgd s x 93 ho B 98 i0 _ 4 48 Try.underlying93 hi hz0 hz1 hz2 rfl (by decide) v ps.length (valsL ps) hs hown ⟨g, 0, none⟩ 1 c p.vals hx rfl
      (fun j u hu => by rw [add_none]; exact hp j u hu) (fun u hu => vals_one [p] u (by simpa [valsL] using hu)) (by unfold maxLen; omega) (by omega) hB (fun v' w' h1 h2 _ => h v' w' ?_ h2)
  unfold OwnsP
  rw [e, List.length_append]
  exact h1
end Go.Proofs.Ytdgmkobjdhmkdaa
