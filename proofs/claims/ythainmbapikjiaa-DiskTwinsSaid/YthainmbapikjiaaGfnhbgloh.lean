/- The law DiskPlays, walked. -/
import Derived.Test.YthainmbapikjiaaGbniecedi
import Derived.Test.YthainmbapikjiaaGaljagbad
import Derived.Test.YthainmbapikjiaaOpenRec
namespace Go.Proofs.Ythainmbapikjiaa
open Go.RowKit Go.Sort
set_option linter.unusedVariables false
set_option linter.unusedSimpArgs false
set_option maxRecDepth 100000

theorem lt_of_eb {w w' : World} {g : Nat} {o : Obj} (e : w'.heap[g]? = w.heap[g]?) (h : w.heap[g]? = some o) : g < w'.heap.size := (Array.getElem?_eq_some_iff.1 (e.trans h)).1
theorem lt_of_eb2 {w w' : World} {g : Nat} (e : w'.heap[g]? = w.heap[g]?) (h : g < w.heap.size) : g < w'.heap.size := lt_of_eb e (Array.getElem?_eq_getElem h)
theorem rbox_ne {B : Nat} {w : World} {g gs b : Nat} {cs : Array Value} {cv : Value} {D : DiskD} (h : IsDisk B w g gs cv D) (hb : w.heap[b]? = some (.cells cs 28 (0, 0))) : b ≠ g ∧ b ≠ gs ∧ cv.ownBlock ≠ some b := by
  obtain ⟨k1, k2, k3, _⟩ := h
  refine ⟨nblock hb k1 (by decide), nblock hb k2 (by decide), fun e9 => ?_⟩
  obtain ⟨_, ⟨rfl, _⟩ | ⟨g9, c9, cur9, rfl, _, hg9, _⟩⟩ := k3
  · cases e9
  · have : g9 = b := Option.some.inj e9
    exact nblock hg9 hb (by decide) this
theorem results_tmp_five {fn : Func} {p u : Tmp} (h : fn.results = #[.tmp u, .cell p 28]) (tmps : Array Value) (w : World) (g : Nat) {a b c d e : Value} (hp : tmps.getD p undef = .pointer (some ⟨g, 0, none⟩)) (hf : Five w g a b c d e) :
    (results fn tmps).run Try.prog w = .ok (.tuple #[tmps.getD u undef, .agg #[a, b, c, d, e]]) w := by
  have e1 : (results fn tmps).run Try.prog w = ((asAddr (tmps.getD p undef)).run Try.prog w).andThen fun a w₁ => ((loadVar 28 a).run Try.prog w₁).andThen fun v w₂ => .ok (.tuple #[tmps.getD u undef, v]) w₂ := by
    simp only [results, h]
    simp [Sem.run_bind, Result.andThen]
  rw [e1, hp]
  simp only [asAddr, Sem.run_pure, Result.andThen_ok, load_five hf]
theorem disk_less {B B' : Nat} {w : World} {g gs : Nat} {cv : Value} {D : DiskD} (h : IsDisk B w g gs cv D) (hB : B' ≤ B) : IsDisk B' w g gs cv D := by
  obtain ⟨h1, h2, ⟨q1, q2⟩, h4, h5, h6⟩ := h
  refine ⟨h1, h2, ⟨q1, ?_⟩, h4, Nat.le_trans hB h5, Nat.le_trans hB h6⟩
  rcases q2 with q2 | ⟨gc, cap, cur, hv, q3, rest⟩
  · exact .inl q2
  · exact .inr ⟨gc, cap, cur, hv, Nat.le_trans hB q3, rest⟩
theorem ref_less {B B' : Nat} {w : World} {D : DiskD} {v : Value} (h : RefIs B w D v) (hB : B' ≤ B) : RefIs B' w D v := by
  obtain ⟨sa, sc, qa, qc, e, h1, h2⟩ := h
  exact ⟨sa, sc, qa, qc, e, h1.less hB, h2.less hB⟩
theorem sized_at (n : Int) (k : Nat) (hk : max (1 : Int) (min n 30) = (k : Int)) (w : World) : Calls Try.prog 11 #[.int .i64 n] w fun e w' => ∃ g gs v, e = .returned (.tuple #[.pointer (some ⟨g, 0, none⟩), v]) ∧ IsDisk w.heap.size w' g gs (.slice none 0 0) (newD k) ∧ RefIs w.heap.size w' (newD k) v ∧ Below w.heap.size w w' := by
  have hk1 : 1 ≤ k := by omega
  have hk2 : k ≤ 65536 := by omega
  have HN := Lib.hid (fun W => dnew_is k W hk1 hk2)
  have HR := Lib.hid (fun W => rnew_is k W hk1 hk2)
  clear hk1 hk2
  go_enter Try.func11, Try.ntmps11
  go_wp2_with fail
  have n0 := heap_alloc_new w (.cells zeroR 28)
  have b0 := below_box w (.cells zeroR 28)
  refine (HN.out _).mono ?_
  rintro e w2 ⟨g, gs, rfl, hd2, b2⟩
  have c2 := below_next b0 b2
  have hd2' := disk_less hd2 b0.size
  have n2 := (b2.block w.heap.size (by simp)).trans n0
  go_wp2_with fail
  refine (HR.out _).mono ?_
  rintro e w3 ⟨v, rfl, hr3, b3⟩
  obtain ⟨xa, xn, xc, ya, yn, yc, dd, ai, dn, rfl⟩ := ref_agg hr3
  have n3 := (b3.block w.heap.size (Array.getElem?_eq_some_iff.1 n2).1).trans n2
  have HD3 := Lib.hid (hd2'.more b3)
  have HR3 := Lib.hid (ref_less hr3 c2.size)
  have K3 := Lib.hid (below_next c2 b3)
  have N3 := Lib.hid n3
  have z0 := cell_of_row n3 0
  have z1 := cell_of_row n3 1
  have z2 := cell_of_row n3 2
  have z3 := cell_of_row n3 3
  have z4 := cell_of_row n3 4
  have ff := fun i => frozen_of_row w3 w.heap.size i _ _ n3
  clear n0 b0 b2 c2 hd2 hd2' n2 b3 hr3 n3
  go_wp2
  have G := (five_set (.slice xa xn xc) (.slice ya yn yc) (.bool dd) (.int .i64 ai) (.int .i64 dn) N3.out).2
  refine bodyPost_ret (results_tmp_five rfl _ _ w.heap.size rfl (five_set _ _ _ _ _ N3.out).1) rfl ?_
  exact ⟨g, gs, _, rfl, HD3.out.keptR G N3.out, HR3.out.keptR G N3.out, K3.out.grown G K3.out.size (fun i hi => by obtain rfl := Option.some.inj hi; exact Nat.le_refl _)⟩
theorem sized_is (n : Int) (w : World) : Calls Try.prog 11 #[.int .i64 n] w fun e w' => ∃ g gs v k, e = .returned (.tuple #[.pointer (some ⟨g, 0, none⟩), v]) ∧ IsDisk w.heap.size w' g gs (.slice none 0 0) (newD k) ∧ RefIs w.heap.size w' (newD k) v ∧ Below w.heap.size w w' := by
  obtain ⟨k, hk⟩ : ∃ k : Nat, max (1 : Int) (min n 30) = (k : Int) := ⟨(max (1 : Int) (min n 30)).toNat, by omega⟩
  exact (sized_at n k hk w).mono (fun e w' ⟨g, gs, v, h⟩ => ⟨g, gs, v, k, h⟩)
/-- An act on a disk. -/
structure Act3D where
  kind : Int
  at_ : Int
  sa : Option Addr
  sn : Nat
  sc : Nat
  ka : Option Addr
  kn : Nat
  kc : Nat
  S : List Nat
  ks : List Bool
def act3V (x : Act3D) : List Value := [.int .i64 x.kind, .int .i64 x.at_, .slice x.sa x.sn x.sc, .slice x.ka x.kn x.kc]
def Act3Fits (w : World) (x : Act3D) : Prop := I64 x.kind ∧ I64 x.at_ ∧ (Reads w x.sa x.sn x.S ∧ x.sn ≤ maxLen) ∧ (ReadsB w x.ka x.kn x.ks ∧ x.kn ≤ 9223372036854775807)
end Go.Proofs.Ythainmbapikjiaa
