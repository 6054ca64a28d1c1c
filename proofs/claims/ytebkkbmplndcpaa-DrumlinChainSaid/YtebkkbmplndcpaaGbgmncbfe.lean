/- Slices of structs that came in, opened: rows of N cells, whatever they are. Bytes that a call owns: append onto them, by one law for whatever source; ref.Copy, ref.Equal, ref.Low by their walks. The document's own answers on numbers in bytes (Has, Low, Put), by their walks. Writing a number into bytes: num.Put by its walk. -/
import Derived.Test.YtebkkbmplndcpaaRowsOf
import Derived.Test.YtebkkbmplndcpaaOpen
import Derived.Deep.Slices
import Derived.Test.YtebkkbmplndcpaaNumB
import Derived.Laws.AppendOwnNone
import Derived.Deep.QuietTactic
import Derived.BigQuiet
import Derived.Laws.CopyRow
namespace Go.Proofs.Ytebkkbmplndcpaa
open Go.ChangeShapes Go.WideShapes Go.RowKit Go.Deep
set_option linter.unusedVariables false
set_option maxRecDepth 100000

theorem addr_plus (b o j : Nat) : (⟨b, o, none⟩ : Addr).add j = ⟨b, o + j, none⟩ := by unfold Addr.add; split <;> simp_all
theorem u32_of_wf' {n : Int} (h : (Lit.int .u32 n).wf = true) : 0 ≤ n ∧ n < 4294967296 := by
  simp [Lit.wf, IntKind.min, IntKind.max, IntKind.signed, IntKind.bits] at h
  exact ⟨by omega, by omega⟩
def rowsOf {α : Type} (V : α → List Value) (l : List α) : List (List Value) := l.map V
theorem rowsOf_length {α : Type} (V : α → List Value) (l : List α) : (rowsOf V l).length = l.length := by unfold rowsOf; rw [List.length_map]
theorem rowsOf_get {α : Type} {V : α → List Value} {l : List α} {i : Nat} {u : α} (h : l[i]? = some u) : (rowsOf V l)[i]? = some (V u) := by unfold rowsOf; rw [List.getElem?_map, h]; rfl
theorem rowsOf_rows {α : Type} {V : α → List Value} {N : Nat} (hV : ∀ x, (V x).length = N) (l : List α) : ∀ p ∈ rowsOf V l, p.length = N := by
  intro p hp
  unfold rowsOf at hp
  rw [List.mem_map] at hp
  obtain ⟨u, _, rfl⟩ := hp
  exact hV u
theorem open_rows {H : Type} {enc : TypeId × Value → H} {W : World} {base : Nat} {v : Value} {d : DataW H} {pl : List MemPlace} {α : Type} (V : α → List Value) (F : α → Prop) (dflt : α) (N : Nat) (hN : 0 < N) (hV : ∀ x, (V x).length = N) {t e : TypeId}
    (ht : Try.prog.underlying t = some (.slice e)) (hcells : Try.prog.cellsOf e = N)
    (helem : ∀ {m b o : Nat} {cs : List Value} {y : DataW H × List MemPlace}, cs.length = N → DataW.trod enc Try.prog W 0 (fun _ => true) true m e cs = some y → ∃ u, F u ∧ V u = cs)
    (hok : Value.okWide Try.prog W .any base t v) (h : DataW.Trod enc Try.prog W 0 (fun _ => true) true t v d pl) :
    ∃ a cap, ∃ us : List α, v = .slice a us.length cap ∧ ReadsR W a N (rowsOf V us) ∧ us.length ≤ cap ∧ ∀ u ∈ us, F u := by
  obtain ⟨a0, len0, cap0, rfl⟩ := okWide_slice ht hok
  obtain ⟨fuel, hf⟩ := h
  rcases open_slice ht hf with ⟨hcs, _⟩ | ⟨x, len, cap, m, n, D, Pl, hcs, _, hl, hm, hmm, _, hi⟩
  · simp [Value.cells] at hcs
    obtain ⟨rfl, rfl, rfl⟩ := hcs
    exact ⟨none, 0, [], rfl, ReadsR.nil _ _ _, Nat.le_refl _, by simp⟩
  · simp [Value.cells] at hcs
    obtain ⟨rfl, rfl, rfl⟩ := hcs
    simp only [if_true] at hmm
    subst hmm
    by_cases h0 : len0 = 0
    · subst h0
      exact ⟨some x, m, [], rfl, ReadsR.nil _ _ _, Nat.zero_le _, by simp⟩
    · obtain ⟨b, off, spot⟩ := x
      rw [hcells] at hi
      obtain ⟨cs0, hc0, _⟩ := hi 0 (by omega)
      have hs0 := (World.cells?_some hc0).2.2 0 hN
      have hl0 := (World.cells?_some hc0).2.1
      rw [List.getElem?_eq_getElem (by omega)] at hs0
      have hspot : spot = none := by simpa [Addr.add] using World.cell?_spot hs0
      subst hspot
      have hbl : b < W.heap.size := by
        have := World.block_lt_of_cell? _ _ hs0
        rw [addr_plus, addr_plus] at this
        exact this
      have hex : ∀ i, ∃ u, i < len0 → F u ∧ ∀ j x, (V u)[j]? = some x → W.cell? ⟨b, off + i * N + j, none⟩ = some x := fun i => by
        by_cases hil : i < len0
        · obtain ⟨cs, hc, ht⟩ := hi i (by omega)
          obtain ⟨_, hcl, hat⟩ := World.cells?_some hc
          obtain ⟨u, hu, rfl⟩ := helem (b := b) (o := off) hcl ht
          refine ⟨u, fun _ => ⟨hu, fun j x hj => ?_⟩⟩
          have hjN : j < N := by rw [← hV u]; exact (List.getElem?_eq_some_iff.1 hj).1
          have := hat j hjN
          rw [addr_plus, addr_plus] at this
          rw [this]
          exact hj
        · exact ⟨dflt, fun h => absurd h hil⟩
      obtain ⟨f, hf⟩ := Classical.skolem.1 hex
      have hus : ∀ i, i < len0 → ((List.range len0).map f)[i]? = some (f i) := fun i hil => by rw [List.getElem?_map, List.getElem?_range hil]; rfl
      have hlen : ((List.range len0).map f).length = len0 := by simp
      refine ⟨some ⟨b, off, none⟩, m, (List.range len0).map f, by rw [hlen], ⟨rowsOf_rows hV _, .inr ⟨b, off, rfl, hbl, fun i x hx => ?_⟩⟩, by rw [hlen]; exact hl, fun u hu => ?_⟩
      · have hlt := (List.getElem?_eq_some_iff.1 hx).1
        rw [flatR_length (rowsOf_rows hV _), rowsOf_length, hlen] at hlt
        have hd : i = (i / N) * N + i % N := by rw [Nat.mul_comm]; exact (Nat.div_add_mod i N).symm
        have hq : i / N < len0 := Nat.div_lt_of_lt_mul (by rw [Nat.mul_comm]; exact hlt)
        have hm3 : i % N < N := Nat.mod_lt _ hN
        rw [hd, flatR_get (rowsOf_rows hV _) (rowsOf_get (hus _ hq)) hm3] at hx
        have := (hf _ hq).2 _ x hx
        rw [Nat.add_assoc, ← hd] at this
        exact this
      · obtain ⟨j, hj, rfl⟩ := List.mem_map.1 hu
        exact (hf j (List.mem_range.1 hj)).1

/-! ### The inode map's acts -/
structure Act10D where
  kind : Int
  num : Int
  n : Int
  s0 : Int
  s1 : Int
  s2 : Int
  s3 : Int
def act10V (x : Act10D) : List Value := [.int .i64 x.kind, .int .i64 x.num, .int .i64 x.n, .int .i64 x.s0, .int .u32 x.s1, .int .i64 x.s2, .int .i64 x.s3]
def Act10Fits (x : Act10D) : Prop := I64 x.kind ∧ I64 x.num ∧ I64 x.n ∧ I64 x.s0 ∧ (0 ≤ x.s1 ∧ x.s1 < 4294967296) ∧ I64 x.s2 ∧ I64 x.s3
end Go.Proofs.Ytebkkbmplndcpaa

namespace Go.Proofs.Ytebkkbmplndcpaa
open Go.RowKit
set_option linter.unusedVariables false
set_option maxRecDepth 100000

def byteV (x : Nat) : Value := .int .u8 (x : Int)
theorem byteV_oneCell (l : List Nat) : ∀ u ∈ l.map byteV, u.oneCell' = true := by
  intro u hu
  simp only [List.mem_map] at hu
  obtain ⟨x, _, rfl⟩ := hu
  rfl

/-- These bytes are the call's own: the slice's row begins at block B or behind it. -/
def Owns (B : Nat) (w : World) (v : Value) (l : List Nat) : Prop := Bytes l ∧ w.ownsRow B 5 1 v l.length (l.map byteV)

theorem info_u8 : (Try.prog.info? 5).map (fun i => (i.zero, i.size, i.bytes)) = some (some (.int .u8 0), 1, 1) := by kernel_rfl

theorem run_append_nothing {P : Program} {w : World} (base : Nat) (t ty e : TypeId) (i : TypeInfo) (size : Nat) (ht : P.underlying t = some (.slice e)) (hi : P.info? e = some i)
    (v : Value) (n : Nat) (xs : List Value) (hown : w.ownsRow base e size v n xs) (c : Nat) :
    (Builtin.append_ #[t, t] ty #[v, .slice none 0 c]).run P w = .ok v w := by
  rcases hown.2 with ⟨rfl, rfl⟩ | ⟨g, cap, cur, rfl, _, _, hnc, _⟩
  · simp [Builtin.append_, run_underlying ht, sizeOf, typeInfo, hi, Builtin.lenOf, Builtin.firstCells]
  · simp [Builtin.append_, run_underlying ht, sizeOf, typeInfo, hi, Builtin.lenOf, Builtin.firstCells, hnc, storeCells]

/-- 'append(own, bytes...)', whatever slice the bytes lie in. -/
theorem wpList_append_bytes {w : World} {ops : Array Oper} {rest : List Oper} {o : Oper} {a : Act} {Q : Exit → Act → World → Prop} (hgd : o.guard = none) (s x : Operand)
    (ho : o.op = .call { callee := .builtin .append, args := #[s, x], argTypes := #[63, 63] })
    (B : Nat) (v : Value) (l : List Nat) (hs : a.eval s = v) (hown : Owns B w v l) (sa : Option Addr) (m c : Nat) (hx : a.eval x = .slice sa m c) (news : List Nat) (hr : Reads w sa m news)
    (hb : l.length + m ≤ 140737488355328) (hB : B ≤ w.heap.size)
    (h : ∀ v' w', Owns B w' v' (l ++ news) → w.grownBy w' v.ownBlock → wpList Try.prog ops Q rest (a.put o.dst v') w') : wpList Try.prog ops Q (o :: rest) a w := by
  obtain ⟨hl, hown⟩ := hown
  obtain ⟨hlen, hbs, hr⟩ := hr
  obtain ⟨i0, hi, hz0, hz1, hz2⟩ := info_parts info_u8
  have close : ∀ v' w', w'.ownsRow B 5 1 v' (l.length + m) (l.map byteV ++ news.map byteV) → Owns B w' v' (l ++ news) := fun v' w' h' => by
    refine ⟨hl.append hbs, ?_⟩
    rw [List.length_append, hlen, List.map_append]
    exact h'
  cases sa with
  | none =>
    have hn : news = [] := by
      rcases hr with rfl | ⟨b, off, he, _⟩
      · rfl
      · cases he
    subst hn
    obtain rfl : m = 0 := by simpa using hlen.symm
    refine wpList_plain hgd fun K hK => ?_
    have hrun := run_append_nothing (P := Try.prog) (w := w) B 63 o.type 5 i0 1 Try.underlying63 hi v _ _ hown c
    unfold Oper.wp
    simp [execOp, ho, resolve, invoke, builtin, hs, hx, hrun, Result.andThen]
    exact hK _ _ (h _ _ (close _ _ (by simpa using hown)) ⟨rfl, rfl, rfl, Nat.le_refl _, fun _ _ _ => rfl⟩)
  | some ad =>
    refine wpList_append_own w hgd s x 63 ho B 5 i0 (.int .u8 0) 1 1 Try.underlying63 hi hz0 hz1 hz2 rfl (by decide) v l.length (l.map byteV) hs hown ad m c (news.map byteV) hx (by simp [hlen])
      ?_ (byteV_oneCell _) (by unfold maxLen; omega) (by omega) hB (fun v' w' h1 h2 _ => h v' w' (close _ _ h1) h2)
    intro j u hu
    rcases hr with rfl | ⟨b, off, he, _, hc⟩
    · simp at hu
    · cases he
      simp only [List.getElem?_map, Option.map_eq_some_iff] at hu
      obtain ⟨y, hy, rfl⟩ := hu
      have hj : j < m := by rw [← hlen]; exact (List.getElem?_eq_some_iff.1 hy).1
      have hadd : (⟨b, off, none⟩ : Addr).add j = ⟨b, off + j, none⟩ := by unfold Addr.add; split <;> simp_all
      rw [hadd, hc j hj]
      simp [List.getD, hy, byteV]

/-- What is owned reads as what it is. -/
theorem Owns.reads {B : Nat} {w : World} {v : Value} {l : List Nat} (h : Owns B w v l) : ∃ a cap, v = .slice a l.length cap ∧ Reads w a l.length l ∧ l.length ≤ cap ∧ cap ≤ maxLen := by
  obtain ⟨hl, hlen, h⟩ := h
  rcases h with ⟨rfl, hn⟩ | ⟨g, cap, cur, rfl, hb, hg, hc, hm, hs, ht⟩
  · exact ⟨none, 0, by rw [hn], ⟨rfl, hl, .inl (List.length_eq_zero_iff.1 hn)⟩, by omega, by omega⟩
  · refine ⟨_, cap, rfl, ⟨rfl, hl, .inr ⟨g, 0, rfl, (Array.getElem?_eq_some_iff.1 hg).1, fun i hi => ?_⟩⟩, hc, hm⟩
    have h1 : (l.map byteV)[i]? = some (byteV (l.getD i 0)) := by simp [List.getD, List.getElem?_eq_getElem hi]
    rw [← ht, List.getElem?_take, if_pos (by omega)] at h1
    simpa [World.cell?, hg, byteV] using h1

/-- What reads as bytes still does where nothing that was there has changed. -/
theorem Reads.below {w w' : World} {a : Option Addr} {len : Nat} {l : List Nat} (h : Reads w a len l) (hb : Below w.heap.size w w') : Reads w' a len l := by
  obtain ⟨h1, h2, h3⟩ := h
  refine ⟨h1, h2, ?_⟩
  rcases h3 with h3 | ⟨b, off, he, hbl, hcc⟩
  · exact .inl h3
  · exact .inr ⟨b, off, he, Nat.lt_of_lt_of_le hbl hb.size, fun i hi => by rw [hb.cell (p := ⟨b, off + i, none⟩) hbl]; exact hcc i hi⟩
theorem Reads.alloc {w : World} {a : Option Addr} {len : Nat} {l : List Nat} (h : Reads w a len l) (o : Obj) : Reads (w.alloc o) a len l :=
  h.below ((Below.refl _ _).alloc (Nat.le_refl _) o)

theorem owns_new (w : World) : Owns w.heap.size (w.alloc (.cells #[] 5)) (.slice (some ⟨w.heap.size, 0, none⟩) 0 0) [] :=
  ⟨by intro x hx; simp at hx, World.ownsRow_made w #[] 0 (Nat.le_refl _) (by decide) rfl⟩

/-- Equal's walk: two slices of bytes, whatever they lie in. -/
def sameB (l l' : List Nat) : Bool := decide (l = l')

theorem sameB_no {l l' : List Nat} {k : Nat} (h : (((l[k]?.getD 0 : Nat) : Int) != ((l'[k]?.getD 0 : Nat) : Int)) = true) : sameB l l' = false := by
  unfold sameB
  apply decide_eq_false
  rintro rfl
  simp at h
theorem same_step {l l' : List Nat} {k : Nat} (h1 : k < l.length) (h2 : k < l'.length) (h : Hid (l.take k = l'.take k)) (he : (((l[k]?.getD 0 : Nat) : Int) != ((l'[k]?.getD 0 : Nat) : Int)) = false) : Hid (l.take (k + 1) = l'.take (k + 1)) := by
  show _ = _
  have he' : l[k]?.getD 0 = l'[k]?.getD 0 := by simp at he; exact_mod_cast he
  rw [take_snoc_getD l k h1, take_snoc_getD l' k h2, h.out]
  simp [List.getD, he']

end Go.Proofs.Ytebkkbmplndcpaa
namespace Go.Proofs.Ytebkkbmplndcpaa
open Go.RowKit
set_option linter.unusedVariables false
set_option maxRecDepth 100000

/-- has a number room in so many bytes? -/
def hasB (q : Int) (n : Nat) : Bool := decide (1 ≤ q ∧ q ≤ 8 ∧ n < 256 ^ q.toNat)
theorem hasB_no {q : Int} {n : Nat} (h : ¬ (1 ≤ q ∧ q ≤ 8)) : hasB q n = false := by
  unfold hasB; apply decide_eq_false; rintro ⟨h1, h2, _⟩; exact h ⟨h1, h2⟩
theorem hasB_end {q n : Nat} (h1 : 1 ≤ q) (h2 : q ≤ 8) : (((n / 256 ^ q : Nat) : Int) == 0) = hasB q n := by
  unfold hasB
  rw [Bool.eq_iff_iff]
  simp only [beq_iff_eq, decide_eq_true_eq, Int.toNat_natCast]
  have hp : 0 < 256 ^ q := Nat.pow_pos (by decide)
  constructor
  · intro h
    have h0 : n / 256 ^ q = 0 := by omega
    exact ⟨by omega, by omega, (Nat.div_eq_zero_iff_lt hp).1 h0⟩
  · rintro ⟨_, _, h⟩
    rw [Nat.div_eq_of_lt h]; rfl

theorem reads_one (w : World) (x : Nat) (hx : x < 256) : Reads (w.alloc (.cells #[byteV x] 5)) (some ⟨w.heap.size, 0, none⟩) 1 [x] := by
  refine ⟨rfl, by intro y hy; simp at hy; omega, .inr ⟨w.heap.size, 0, rfl, by simp, fun i hi => ?_⟩⟩
  have : i = 0 := by omega
  subst this
  unfold World.cell?
  rw [heap_alloc_new]
  rfl

theorem Owns.alloc {B : Nat} {w : World} {v : Value} {l : List Nat} (h : Owns B w v l) (o : Obj) : Owns B (w.alloc o) v l := ⟨h.1, h.2.alloc o⟩
theorem Owns.lt {B : Nat} {w : World} {v : Value} {l : List Nat} (h : Owns B w v l) : ∀ k, v.ownBlock = some k → B ≤ k := fun k hk => (h.2.lt k hk).1
theorem owns_nil (B : Nat) (w : World) : Owns B w (.slice none 0 0) [] := ⟨by intro x hx; simp at hx, World.ownsRow_nil w B 5 1⟩

theorem Owns.below {B : Nat} {w w' : World} {v : Value} {l : List Nat} (h : Owns B w v l) (hb : Below w.heap.size w w') : Owns B w' v l := by
  obtain ⟨h1, h2, h3⟩ := h
  refine ⟨h1, h2, ?_⟩
  rcases h3 with h3 | ⟨g, cap, cur, hv, hg, hh, r⟩
  · exact .inl h3
  · exact .inr ⟨g, cap, cur, hv, hg, by rw [hb.block g (Array.getElem?_eq_some_iff.1 hh).1]; exact hh, r⟩
theorem Reads.take {w : World} {a : Option Addr} {len : Nat} {l : List Nat} (h : Reads w a len l) (p : Nat) (hp : p ≤ len) : Reads w a p (l.take p) := by
  obtain ⟨h1, h2, h3⟩ := h
  refine ⟨by simp; omega, h2.take p, ?_⟩
  rcases h3 with rfl | ⟨b, off, he, hbl, hcc⟩
  · left; simp
  · refine .inr ⟨b, off, he, hbl, fun i hi => ?_⟩
    rw [hcc i (by omega)]
    simp [List.getD, hi]
/-- The rest of a slice, at the address that the walk reckons. -/
theorem Reads.rest {w : World} {b off len : Nat} {l : List Nat} (h : Reads w (some ⟨b, off, none⟩) len l) (p : Nat) (hp : p ≤ len) (a' : Option Addr) (ha : p < len → a' = some ⟨b, off + p, none⟩) : Reads w a' (len - p) (l.drop p) := by
  by_cases hlt : p < len
  · have := h.part p (len - p) (by omega)
    rw [ha hlt]
    rw [List.take_of_length_le (by have := h.1; simp; omega)] at this
    exact this
  · obtain ⟨h1, h2, h3⟩ := h
    exact ⟨by simp; omega, h2.drop p, .inl (List.drop_of_length_le (by omega))⟩

/-- Bytes with a number in them. -/
def putL (l : List Nat) (p q n : Nat) : List Nat := l.take p ++ low n q ++ l.drop (p + q)

end Go.Proofs.Ytebkkbmplndcpaa
namespace Go.Proofs.Ytebkkbmplndcpaa
open Go.RowKit
set_option linter.unusedVariables false
set_option maxRecDepth 100000



/-- Cells with bytes in the place of some of them. -/
def laid (cur : Array Value) (at_ : Nat) (l : List Nat) : Array Value := (cur.toList.take at_ ++ l.map byteV ++ cur.toList.drop (at_ + l.length)).toArray

theorem laid_nil (cur : Array Value) (at_ : Nat) : laid cur at_ [] = cur := by simp [laid]
theorem laid_size (cur : Array Value) (at_ : Nat) (l : List Nat) (h : at_ + l.length ≤ cur.size) : (laid cur at_ l).size = cur.size := by
  simp [laid]; omega
theorem laid_snoc (cur : Array Value) (at_ : Nat) (l : List Nat) (x : Nat) (h : at_ + l.length < cur.size) : (laid cur at_ l).setIfInBounds (at_ + l.length) (byteV x) = laid cur at_ (l ++ [x]) := by
  apply Array.ext'
  rw [Array.toList_setIfInBounds]
  simp only [laid, List.map_append, List.map_cons, List.map_nil, List.length_append, List.length_cons, List.length_nil]
  have h1 : (cur.toList.take at_ ++ l.map byteV).length = at_ + l.length := by simp; omega
  have h2 : cur.toList.drop (at_ + l.length) = (cur[at_ + l.length]) :: cur.toList.drop (at_ + (l.length + 1)) := by
    rw [List.drop_eq_getElem_cons (by simpa using h)]
    simp [Nat.add_assoc]
  rw [h2, List.set_append_right _ _ (by omega), h1]
  simp [List.append_assoc]

end Go.Proofs.Ytebkkbmplndcpaa
