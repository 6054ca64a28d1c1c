/- An act on pipes that came in, opened: its bytes stand in its own cell. -/
import Derived.Test.YthainmbapikjiaaMem
import Derived.Test.YthainmbapikjiaaOpen
import Derived.Test.YthainmbapikjiaaOpenRec
namespace Go.Proofs.Ythainmbapikjiaa
open Go.ChangeShapes Go.WideShapes Go.ChangeAt Go.RowKit Go.Sort
set_option linter.unusedVariables false
set_option linter.unusedSimpArgs false
set_option maxRecDepth 100000

/-- An act: what kind, which pipe, two numbers, bytes. -/
structure Act21D where
  kind : Int
  num : Int
  n : Int
  m : Int
  sa : Option Addr
  sn : Nat
  sc : Nat
  S : List Nat
def act21V (u : Act21D) : List Value := [.int .i64 u.kind, .int .i64 u.num, .int .i64 u.n, .int .i64 u.m, .slice u.sa u.sn u.sc]
def Act21Fits (w : World) (u : Act21D) : Prop := I64 u.kind ∧ I64 u.num ∧ I64 u.n ∧ I64 u.m ∧ Reads w u.sa u.sn u.S ∧ u.sn ≤ u.sc ∧ u.sc ≤ maxLen
theorem bytes_of_trodP {H : Type} {enc : TypeId × Value → H} {W : World} {m : Nat} {v : Value} {y : DataW H × List MemPlace} (hf : DataW.trod enc Try.prog W 0 (fun _ => true) true m 33 [v] = some y) :
    ∃ a len cap l, v = .slice a len cap ∧ Reads W a len l ∧ len ≤ cap ∧ cap ≤ maxLen := by
  rcases open_ints Try.underlying33 Try.underlying5 (by kernel_rfl) hf with ⟨hcs, _⟩ | ⟨x, l, c, zs, hcs, _, hl, hm, hz, hx, hcell, hwz⟩
  · obtain rfl : v = .slice none 0 0 := by simpa using hcs
    exact ⟨none, 0, 0, [], rfl, ⟨rfl, by intro y hy; simp at hy, .inl rfl⟩, by omega, by unfold maxLen; omega⟩
  · obtain rfl : v = .slice (some x) l c := by simpa using hcs
    simp only [if_true] at hz
    exact ⟨_, _, _, _, rfl, reads_of_cells hl hz hcell hwz, hl, hm⟩
theorem act21_cells : Try.prog.cellsOf 51 = 5 := by kernel_rfl
theorem act21_of_trod {H : Type} {enc : TypeId × Value → H} {W : World} {m : Nat} {cs : List Value} {y : DataW H × List MemPlace} (hl : cs.length = 5)
    (h : DataW.trod enc Try.prog W 0 (fun _ => true) true m 51 cs = some y) : ∃ u, Act21Fits W u ∧ act21V u = cs := by
  match cs, hl with
  | [v0, v1, v2, v3, v4], _ =>
    obtain ⟨ys, n', _, _, _, hyl, hf⟩ := DataW.trod_struct Try.underlying51 h
    have get : ∀ j, j < 5 → ∃ u, ys[j]? = some u := fun j hj => ⟨ys[j]'(by rw [hyl]; exact hj), List.getElem?_eq_getElem _⟩
    obtain ⟨y0, e0⟩ := get 0 (by decide)
    obtain ⟨y1, e1⟩ := get 1 (by decide)
    obtain ⟨y2, e2⟩ := get 2 (by decide)
    obtain ⟨y3, e3⟩ := get 3 (by decide)
    obtain ⟨y4, e4⟩ := get 4 (by decide)
    have f0 := (hf 0 _ rfl).trans e0
    have f1 := (hf 1 _ rfl).trans e1
    have f2 := (hf 2 _ rfl).trans e2
    have f3 := (hf 3 _ rfl).trans e3
    have f4 := (hf 4 _ rfl).trans e4
    replace f0 : DataW.trod enc Try.prog W 0 (fun _ => true) true n' 3 [v0] = some y0 := f0
    replace f1 : DataW.trod enc Try.prog W 0 (fun _ => true) true n' 3 [v1] = some y1 := f1
    replace f2 : DataW.trod enc Try.prog W 0 (fun _ => true) true n' 3 [v2] = some y2 := f2
    replace f3 : DataW.trod enc Try.prog W 0 (fun _ => true) true n' 3 [v3] = some y3 := f3
    replace f4 : DataW.trod enc Try.prog W 0 (fun _ => true) true n' 33 [v4] = some y4 := f4
    obtain ⟨x0, g0, _, w0⟩ := DataW.trod_int Try.underlying3 f0
    obtain ⟨x1, g1, _, w1⟩ := DataW.trod_int Try.underlying3 f1
    obtain ⟨x2, g2, _, w2⟩ := DataW.trod_int Try.underlying3 f2
    obtain ⟨x3, g3, _, w3⟩ := DataW.trod_int Try.underlying3 f3
    obtain ⟨sa, sn, sc, S, rfl, hs, hs1, hs2⟩ := bytes_of_trodP f4
    obtain rfl : v0 = .int .i64 x0 := by simpa using g0
    obtain rfl : v1 = .int .i64 x1 := by simpa using g1
    obtain rfl : v2 = .int .i64 x2 := by simpa using g2
    obtain rfl : v3 = .int .i64 x3 := by simpa using g3
    exact ⟨⟨x0, x1, x2, x3, sa, sn, sc, S⟩, ⟨i64_of_wf w0, i64_of_wf w1, i64_of_wf w2, i64_of_wf w3, hs, hs1, hs2⟩, rfl⟩
theorem open_act21 {H : Type} {enc : TypeId × Value → H} {W : World} {base : Nat} {v : Value} {d : DataW H} {pl : List MemPlace}
    (hok : Value.okWide Try.prog W .any base 44 v) (h : DataW.Trod enc Try.prog W 0 (fun _ => true) true 44 v d pl) :
    ∃ a cap, ∃ us : List Act21D, v = .slice a us.length cap ∧ ReadsR W a 5 (rowsOf act21V us) ∧ us.length ≤ cap ∧ ∀ u ∈ us, Act21Fits W u :=
  open_rows act21V (Act21Fits W) ⟨0, 0, 0, 0, none, 0, 0, []⟩ 5 (by decide) (fun _ => rfl) Try.underlying44 act21_cells (fun hl ht => act21_of_trod hl ht) hok h
end Go.Proofs.Ythainmbapikjiaa
