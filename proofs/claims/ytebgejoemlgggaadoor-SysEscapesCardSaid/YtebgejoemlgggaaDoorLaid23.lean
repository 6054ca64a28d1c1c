/- The four variables that sys leans on, from the row's list. -/
import Derived.Test.YtebgejoemlgggaaDoorVar23
import Derived.Test.YtebgejoemlgggaaDoorRows
import Derived.LaidMore
import Derived.LaidLaws
import Derived.LaidHandle
import Derived.MakeChecks
import Derived.Stop.LaidErr
import Derived.Lib.LaidTab
namespace Go.Proofs.YtebgejoemlgggaaDoor
open Go.ChangeShapes Go.RowKit Go.Sort
set_option linter.unusedVariables false
set_option linter.unusedSimpArgs false
set_option maxRecDepth 100000

/-- A listed error: the variable holds some interface value. -/
theorem err_of_head {W : World} {name nm : String} {d : DataW Unit} {r : List (String × DataW Unit)} {g : Nat} {ti : TypeId}
    (h : laidMet Tryd.prog ((name, .iface nm d) :: r) W) (hg : Tryd.prog.globalNamed name = some g) (ht : (Tryd.prog.globals[g]?).map (·.type) = some ti) (hi : ((Tryd.prog.underlying ti).elim false fun d => match d with | .interface _ => true | _ => false) = true) :
    ∃ te pe, W.var? Tryd.prog name = some #[.iface te pe] := by
  obtain ⟨ps, ⟨g', t', cs, fuel, p, q, hg', ht', hvar, hd, _, _⟩, _⟩ := h
  obtain rfl := Option.some.inj (hg.symm.trans hg')
  obtain rfl := Option.some.inj (ht.symm.trans ht')
  obtain ⟨ms, hms⟩ : ∃ ms, Tryd.prog.underlying ti = some (.interface ms) := by
    cases hu : Tryd.prog.underlying ti with
    | none => rw [hu] at hi; cases hi
    | some d => cases d <;> first | exact ⟨_, rfl⟩ | (rw [hu] at hi; cases hi)
  obtain ⟨_, u, v, hcs, _, _⟩ := iface_of_trod hms hd
  refine ⟨u, v, ?_⟩
  rw [hvar]
  obtain ⟨l⟩ := cs
  have : l = [.iface u v] := hcs
  rw [this]
/-- An array of structs of two texts. -/
def twoData (L : List (Bx × Bx)) : DataW Unit := .agg (L.map fun x => .agg [.lit (.string x.1), .lit (.string x.2)])
theorem twos_of_head {W : World} {name : String} {L : List (Bx × Bx)} {r : List (String × DataW Unit)} {g : Nat} {t e s : TypeId} {f0 f1 : Field}
    (h : laidMet Tryd.prog ((name, twoData L) :: r) W) (hg : Tryd.prog.globalNamed name = some g) (hty : (Tryd.prog.globals[g]?).map (·.type) = some t)
    (ht : Tryd.prog.underlying t = some (.array L.length e)) (he : Tryd.prog.underlying e = some (.struct #[f0, f1])) (h0 : f0.type = s) (h1 : f1.type = s) (o0 : f0.offset = 0) (o1 : f1.offset = 1)
    (hs : Tryd.prog.underlying s = some .string) (hce : Tryd.prog.cellsOf e = 2) (hct : Tryd.prog.cellsOf t = L.length * 2) (hcs : Tryd.prog.cellsOf s = 1) :
    W.var? Tryd.prog name = some (L.flatMap fun p => [strB p.1, strB p.2]).toArray := by
  obtain ⟨ps, ⟨g', t', cs, fuel, p, q, hg', ht', hvar, hd, _, _⟩, _⟩ := h
  obtain rfl := Option.some.inj (hg.symm.trans hg')
  obtain rfl := Option.some.inj (hty.symm.trans ht')
  obtain ⟨xs, m, _, hx, hl, hxl, hel⟩ := DataW.trod_array ht hd
  rw [hct] at hl
  rw [hvar]
  congr 1
  obtain ⟨l⟩ := cs
  have hl : l.length = L.length * 2 := hl
  suffices H : l = L.flatMap fun p => [strB p.1, strB p.2] by rw [← H]
  have hxs : xs.map (·.1) = L.map fun x => (DataW.agg [.lit (.string x.1), .lit (.string x.2)] : DataW Unit) := by
    have := congrArg Prod.fst hx
    simpa [twoData] using this.symm
  have key : ∀ (L : List (Bx × Bx)) (l : List Value), l.length = L.length * 2 → (∀ i x, L[i]? = some x → (l.drop (i * 2)).take 2 = [strB x.1, strB x.2]) → l = L.flatMap fun p => [strB p.1, strB p.2] := by
    intro L
    induction L with
    | nil => intro l hl _; simpa using hl
    | cons x L ih =>
      intro l hl hk
      match l, hl with
      | [], hl => exfalso; have h9 : 0 = (L.length + 1) * 2 := hl; omega
      | [a], hl => exfalso; have h9 : 1 = (L.length + 1) * 2 := hl; omega
      | a :: b :: l, hl =>
        have e0 := hk 0 x rfl
        simp at e0
        obtain ⟨rfl, rfl⟩ := e0
        rw [List.flatMap_cons]
        have := ih l (by simp at hl; omega) (fun i y hi => by
          have := hk (i + 1) y hi
          rw [show (i + 1) * 2 = i * 2 + 2 by omega] at this
          simpa using this)
        rw [this]
        rfl
  refine key L l hl fun i x hi => ?_
  have hil : i < L.length := (List.getElem?_eq_some_iff.1 hi).1
  have h9 := hel i hil
  rw [hce] at h9
  have hxi : (xs.map (·.1))[i]? = some (DataW.agg [.lit (.string x.1), .lit (.string x.2)] : DataW Unit) := by rw [hxs]; simp [hi]
  rw [List.getElem?_map] at hxi
  obtain ⟨y, hy, hy2⟩ := Option.map_eq_some_iff.1 hxi
  rw [hy] at h9
  obtain ⟨y0, y1, n, hyx, hlen, hf0, hf1⟩ := trod_struct2 he h9
  rw [h0, hcs, o0] at hf0
  rw [h1, hcs, o1] at hf1
  obtain ⟨s0, e0, k0, _⟩ := DataW.trod_string hs hf0
  obtain ⟨s1, e1, k1, _⟩ := DataW.trod_string hs hf1
  rw [hce] at hlen
  rw [hyx] at hy2
  simp only [DataW.agg.injEq, List.cons.injEq, and_true] at hy2
  rw [k0, k1] at hy2
  simp only [DataW.lit.injEq, Lit.string.injEq] at hy2
  obtain ⟨q0, q1⟩ := hy2
  have z0 : strB x.1 = .string s0 := by rw [← q0]; unfold strB; rfl
  have z1 : strB x.2 = .string s1 := by rw [← q1]; unfold strB; rfl
  rw [z0, z1]
  match hh : (l.drop (i * 2)).take 2, hlen with
  | [a, b], _ =>
    have hh2 : List.take 2 (List.drop (i * 2) l) = [a, b] := hh
    rw [show (({ toList := l } : Array Value).toList) = l from rfl, hh2] at e0 e1
    simp at e0 e1
    rw [e0, e1]
theorem vars_of_laid {W : World} (h : laidMetH Tryd.prog [("math/bits.deBruijn32tab", Rows.laid_math_bits_deBruijn32tab), ("math/bits.deBruijn64tab", Rows.laid_math_bits_deBruijn64tab), ("internal/strconv.uint64pow10", Rows.laid_internal_strconv_uint64pow10), ("unicode/utf8.acceptRanges", Rows.laid_unicode_utf8_acceptRanges), ("strconv.ErrRange", Rows.laid_strconv_ErrRange), ("strconv.ErrSyntax", Rows.laid_strconv_ErrSyntax), ("drumlin/sys.shapes", Rows.laid_drumlin_sys_shapes), ("unicode/utf8.first", Rows.laid_unicode_utf8_first)] W) : VarsAt W := by
  rw [MakeChecks.laidMetH_plain _ _ _ (by kernel_rfl)] at h
  have h2 := h.tail.tail
  have h4 := h2.tail.tail
  have h5 := h4.tail
  have h6 := h5.tail
  refine ⟨?_, err_of_head h5 gSyn (ti := 113) (by kernel_rfl) (by kernel_rfl), err_of_head h4 gRng (ti := 113) (by kernel_rfl) (by kernel_rfl), ?_⟩
  · have e : (Rows.laid_internal_strconv_uint64pow10 : DataW Unit) = Lib.tabData .u64 Lib.pow10Tab := rfl
    rw [e] at h2
    exact Lib.tabIs_of_head gPow (t := 175) (e := 117) (n := 20) (by kernel_rfl) (by kernel_rfl) (by kernel_rfl) (by kernel_rfl) (by kernel_rfl) h2
  · have e : (Rows.laid_drumlin_sys_shapes : DataW Unit) = twoData shapesL := rfl
    rw [e] at h6
    exact twos_of_head h6 gShp (t := 95) (e := 85) (s := 9) (by kernel_rfl) (by kernel_rfl) Tryd.underlying85 rfl rfl rfl rfl (by kernel_rfl) (by kernel_rfl) (by kernel_rfl) (by kernel_rfl)
end Go.Proofs.YtebgejoemlgggaaDoor
