/- The chain: the closure that closes. -/
import Derived.Test.YtebkkbmplndcpaaGhddncikh
namespace Go.Proofs.Ytebkkbmplndcpaa
open Go.RowKit Go.Sort
set_option linter.unusedVariables false
set_option linter.unusedSimpArgs false
set_option maxRecDepth 100000

section
variable {w0 W : World} {gf gfs gp gps g gs cap bm n q1 q2 : Nat} {s : PipeD} {T : TabD} {sm ss : List CsD} {c o : Nat} {vs vg : Value} {sent got : List Nat}
/-- Blocks of numbers stay as they were. -/
def IntsKept (W W' : World) : Prop := ∀ (b : Nat) (cs : Array Value), W.heap[b]? = some (.cells cs 3 (0, 0)) → W'.heap[b]? = some (.cells cs 3 (0, 0))
theorem IntsKept.trans {w1 w2 w3 : World} (h : IntsKept w1 w2) (k : IntsKept w2 w3) : IntsKept w1 w3 := fun b cs hb => k b cs (h b cs hb)
theorem IntsKept.below {W W' : World} (h : Below W.heap.size W W') : IntsKept W W' := fun b cs hb => (h.block b (Array.getElem?_eq_some_iff.1 hb).1).trans hb
theorem IntsKept.filed {B : Nat} {W W' : World} {g gs : Nat} {fl : List FileD} (h : IsFiles B W g gs fl) (hg : W.grownBy W' (some gs)) : IntsKept W W' := fun b cs hb => by
  obtain ⟨c2, hc⟩ := h.2.1.typed gs rfl
  exact keep_block (Kb.row hg) (Typed.of hc) hb (by decide)
theorem IntsKept.piped {B : Nat} {W W' : World} {g gs : Nat} {fl : List PipeD} (h : IsPipes B W g gs fl) (hg : W.grownBy W' (some gs)) : IntsKept W W' := fun b cs hb => by
  obtain ⟨c2, hc⟩ := h.2.1.typed gs rfl
  exact keep_block (Kb.row hg) (Typed.of hc) hb (by decide)
/-- What is handed back, and who has how much then. -/
def ShutPost (w0 W : World) (gf gfs gp gps g gs cap bm n q1 q2 : Nat) (s : PipeD) (T : TabD) (sm ss : List CsD) (c o : Nat) (vs vg : Value) (sent got : List Nat) (e : Ending) (w' : World) : Prop :=
  e = .returned (.bool true) ∧ Ch w0 w' gf gfs gp gps g gs cap bm n q1 q2 s T sm ss c o vs vg sent got ∧ IntsKept W w'
/-- One whom others know too. -/
theorem shut_some (h : Ch w0 W gf gfs gp gps g gs cap bm n q1 q2 s T sm ss c o vs vg sent got) (hc : c ≤ 100) (ho : o ≤ 100) (k : Int) (c' o' : Nat) (x1 x2 x3 x4 x5 : Int) (hcl : closeF (flC c o) k = (flC c' o', ⟨x1, x2, x3, x4, x5⟩, false, 0)) :
    Calls Try.prog 21 #[.int .i64 k, .pointer (some ⟨q1, 0, none⟩), .pointer (some ⟨q2, 0, none⟩)] W (ShutPost w0 W gf gfs gp gps g gs cap bm n q1 q2 s T sm ss c' o' vs vg sent got) := by
  have HC := fclose_is h.files h.bel.size (few_flC hc ho) k
  rw [hcl] at HC
  have HC := Lib.hid HC
  have c1 := cell_of_row h.bf 0
  have H := Lib.hid h
  clear h hcl
  go_enter Try.func21, Try.ntmps21
  go_wp2_with fail
  refine HC.out.mono ?_
  rintro e w1 ⟨rfl, hf1, g1⟩
  have HK1 := Lib.hid (IntsKept.filed H.out.files g1)
  have H1 := Lib.hid (H.out.filed hf1 g1)
  have b2 := Lib.hid (below_box w1 (.cells #[.int .i64 x1, .int .i64 x2, .int .i64 x3, .int .i64 x4, .int .i64 x5] 58))
  clear hf1 g1
  dsimp only [fileA]
  go_wp2
  go_ret
  exact ⟨rfl, H1.out.below b2.out, HK1.out.trans (IntsKept.below b2.out)⟩
/-- The last one that wrote. -/
theorem shut_last (h : Ch w0 W gf gfs gp gps g gs cap bm n q1 q2 s T sm ss c 1 vs vg sent got) (hc : c ≤ 100) (hk : thereB s = true) (hw : s.writers = 1) :
    Calls Try.prog 21 #[.int .i64 1, .pointer (some ⟨q1, 0, none⟩), .pointer (some ⟨q2, 0, none⟩)] W (ShutPost w0 W gf gfs gp gps g gs cap bm n q1 q2 (endsP s 0 (-1)) T sm ss c 0 vs vg sent got) := by
  have HC := fclose_is h.files h.bel.size (few_flC hc (by omega)) 1
  rw [close_last] at HC
  have HC := Lib.hid HC
  have hr := (pipes_lts h.pipes (i := 0) (s := s) rfl)
  have HA := Lib.hid (fun W' (hp : IsPipes w0.heap.size W' gp gps [s, zeroP]) => padd_yes hp 1 0 rfl s rfl hk 0 (-1) (by unfold mayAddB; have := hr.2.2.2.1; simp; omega) (by unfold mayAddB; rw [hw]; decide))
  have c1 := cell_of_row h.bf 0
  have H := Lib.hid h
  clear h hr
  go_enter Try.func21, Try.ntmps21
  go_wp2_with fail
  refine HC.out.mono ?_
  rintro e w1 ⟨rfl, hf1, g1⟩
  have hk1 := IntsKept.filed H.out.files g1
  have h1 := H.out.filed hf1 g1
  have b2 := below_box w1 (.cells #[.int .i64 3, .int .i64 1, .int .i64 0, .int .i64 2, .int .i64 1] 58)
  have n2 := heap_alloc_new w1 (.cells #[.int .i64 3, .int .i64 1, .int .i64 0, .int .i64 2, .int .i64 1] 58)
  obtain ⟨w2, hw2⟩ : ∃ x, w1.alloc (.cells #[.int .i64 3, .int .i64 1, .int .i64 0, .int .i64 2, .int .i64 1] 58) = x := ⟨_, rfl⟩
  rw [hw2] at b2 n2
  have h2 := h1.below b2
  have c2 := cell_of_row h2.bp 0
  have d0 := cell_of_row n2 0
  have d1 := cell_of_row n2 1
  have H2 := Lib.hid h2
  have HK2 := Lib.hid (hk1.trans (IntsKept.below b2))
  clear hf1 g1 h1 h2 b2 hk1
  dsimp only [fileA]
  go_wp2_with fail
  refine (HA.out _ H2.out.pipes).mono ?_
  rintro e w3 ⟨rfl, hp3, g3⟩
  have H3 := Lib.hid (H2.out.piped hp3 g3)
  have HK3 := Lib.hid (HK2.out.trans (IntsKept.piped H2.out.pipes g3))
  clear hp3 g3
  go_wp2
  go_ret
  exact ⟨rfl, H3.out, HK3.out⟩
end
end Go.Proofs.Ytebkkbmplndcpaa
