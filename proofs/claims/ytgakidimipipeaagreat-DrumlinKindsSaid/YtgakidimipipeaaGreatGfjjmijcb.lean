/- A summary that came in, opened. -/
import Derived.Test.YtgakidimipipeaaGreatGbbjpknnp
import Derived.Test.YtgakidimipipeaaGreatGdllepknd
import Derived.Test.YtgakidimipipeaaGreatOpen
namespace Go.Proofs.YtgakidimipipeaaGreat
open Go.ChangeShapes Go.WideShapes Go.ChangeAt Go.RowKit Go.Deep Go.Sort
set_option linter.unusedVariables false
set_option linter.unusedSimpArgs false
set_option maxRecDepth 100000

theorem rEntry_cells : Tryz.prog.cellsOf 91 = 4 := by kernel_rfl
theorem rEntry_of_trod {H : Type} {enc : TypeId × Value → H} {W : World} {m : Nat} {cs : List Value} {y : DataW H × List MemPlace} (hl : cs.length = 4)
    (h : DataW.trod enc Tryz.prog W 0 (fun _ => true) true m 91 cs = some y) : ∃ u : {l : List FldD // l.length = 4}, IsFEntry u.1 ∧ rowV u.1 = cs := by
  match cs, hl with
  | [v0, v1, v2, v3], _ =>
    obtain ⟨ys, n', _, _, _, hyl, hf⟩ := DataW.trod_struct Tryz.underlying91 h
    have get : ∀ j, j < 4 → ∃ u, ys[j]? = some u := fun j hj => ⟨ys[j]'(by rw [hyl]; exact hj), List.getElem?_eq_getElem _⟩
    obtain ⟨y0, e0⟩ := get 0 (by decide)
    have f0 := (hf 0 _ rfl).trans e0
    replace f0 : DataW.trod enc Tryz.prog W 0 (fun _ => true) true n' 3 [v0] = some y0 := f0
    obtain ⟨z0, gz0, _, wf0⟩ := DataW.trod_int Tryz.underlying3 f0
    have hv0 : v0 = .int .i64 z0 := by simpa using gz0
    obtain ⟨y1, e1⟩ := get 1 (by decide)
    have f1 := (hf 1 _ rfl).trans e1
    replace f1 : DataW.trod enc Tryz.prog W 0 (fun _ => true) true n' 22 [v1] = some y1 := f1
    obtain ⟨z1, gz1, _, wf1⟩ := DataW.trod_int Tryz.underlying22 f1
    have hv1 : v1 = .int .u32 z1 := by simpa using gz1
    obtain ⟨y2, e2⟩ := get 2 (by decide)
    have f2 := (hf 2 _ rfl).trans e2
    replace f2 : DataW.trod enc Tryz.prog W 0 (fun _ => true) true n' 22 [v2] = some y2 := f2
    obtain ⟨z2, gz2, _, wf2⟩ := DataW.trod_int Tryz.underlying22 f2
    have hv2 : v2 = .int .u32 z2 := by simpa using gz2
    obtain ⟨y3, e3⟩ := get 3 (by decide)
    have f3 := (hf 3 _ rfl).trans e3
    replace f3 : DataW.trod enc Tryz.prog W 0 (fun _ => true) true n' 3 [v3] = some y3 := f3
    obtain ⟨z3, gz3, _, wf3⟩ := DataW.trod_int Tryz.underlying3 f3
    have hv3 : v3 = .int .i64 z3 := by simpa using gz3
    exact ⟨⟨fldEntry z0 z1 z2 z3, rfl⟩, ⟨z0, z1, z2, z3, rfl, i64_of_wf wf0, u32_of_wf' wf1, u32_of_wf' wf2, i64_of_wf wf3⟩, by simp [fldEntry, rowV, hv0, hv1, hv2, hv3]⟩
theorem open_sum {H : Type} {enc : TypeId × Value → H} {W : World} {base : Nat} {v : Value} {d : DataW H} {pl : List MemPlace}
    (hok : Value.okWide Tryz.prog W .any base 29 v) (h : DataW.Trod enc Tryz.prog W 0 (fun _ => true) true 29 v d pl) :
    ∃ (y0 y1 : Nat) (y2 : Bool) (y3 : Int) (y4 : Nat) (L : List (List FldD)) (a : Option Addr) (cap : Nat), v = .agg #[.int .u64 (y0 : Nat), .int .u64 (y1 : Nat), .bool y2, .int .i64 y3, .int .u32 (y4 : Nat), .slice a L.length cap] ∧ OkD ⟨y0, y1, y2, y3, y4, L⟩ ∧ ReadsR W a 4 (L.map rowV) ∧ L.length ≤ cap := by
  obtain ⟨cs, rfl, hsz, hrow⟩ : ∃ cs, v = .agg cs ∧ cs.size = 6 ∧ Row.okWide Tryz.prog W .any base 29 cs := by
    unfold Value.okWide at hok
    rw [Tryz.underlying29] at hok
    obtain ⟨cs, h1, h2, h3⟩ := hok
    exact ⟨cs, h1, h2.trans (by kernel_rfl), h3⟩
  obtain ⟨fuel, hf⟩ := h
  obtain ⟨l⟩ := cs
  have hl6 : l.length = 6 := by simpa using hsz
  replace hf : DataW.trod enc Tryz.prog W 0 (fun _ => true) true fuel 29 l = some (d, pl) := by simpa [Value.cells] using hf
  match l, hl6 with
  | [v0, v1, v2, v3, v4, v5], _ =>
    obtain ⟨ys, n', _, _, _, hyl, hfl⟩ := DataW.trod_struct Tryz.underlying29 hf
    have get : ∀ j, j < 6 → ∃ u, ys[j]? = some u := fun j hj => ⟨ys[j]'(by rw [hyl]; exact hj), List.getElem?_eq_getElem _⟩
    obtain ⟨q0, e0⟩ := get 0 (by decide)
    have f0 := (hfl 0 _ rfl).trans e0
    replace f0 : DataW.trod enc Tryz.prog W 0 (fun _ => true) true n' 26 [v0] = some q0 := f0
    obtain ⟨z0, gz0, _, wf0⟩ := DataW.trod_int Tryz.underlying26 f0
    obtain rfl : v0 = .int .u64 z0 := by simpa using gz0
    obtain ⟨q1, e1⟩ := get 1 (by decide)
    have f1 := (hfl 1 _ rfl).trans e1
    replace f1 : DataW.trod enc Tryz.prog W 0 (fun _ => true) true n' 26 [v1] = some q1 := f1
    obtain ⟨z1, gz1, _, wf1⟩ := DataW.trod_int Tryz.underlying26 f1
    obtain rfl : v1 = .int .u64 z1 := by simpa using gz1
    obtain ⟨q2, e2⟩ := get 2 (by decide)
    have f2 := (hfl 2 _ rfl).trans e2
    replace f2 : DataW.trod enc Tryz.prog W 0 (fun _ => true) true n' 4 [v2] = some q2 := f2
    obtain ⟨z2, gz2, _⟩ := DataW.trod_bool Tryz.underlying4 f2
    obtain rfl : v2 = .bool z2 := by simpa using gz2
    obtain ⟨q3, e3⟩ := get 3 (by decide)
    have f3 := (hfl 3 _ rfl).trans e3
    replace f3 : DataW.trod enc Tryz.prog W 0 (fun _ => true) true n' 3 [v3] = some q3 := f3
    obtain ⟨z3, gz3, _, wf3⟩ := DataW.trod_int Tryz.underlying3 f3
    obtain rfl : v3 = .int .i64 z3 := by simpa using gz3
    obtain ⟨q4, e4⟩ := get 4 (by decide)
    have f4 := (hfl 4 _ rfl).trans e4
    replace f4 : DataW.trod enc Tryz.prog W 0 (fun _ => true) true n' 22 [v4] = some q4 := f4
    obtain ⟨z4, gz4, _, wf4⟩ := DataW.trod_int Tryz.underlying22 f4
    obtain rfl : v4 = .int .u32 z4 := by simpa using gz4
    obtain ⟨q5, e5⟩ := get 5 (by decide)
    have f5 := (hfl 5 _ rfl).trans e5
    replace f5 : DataW.trod enc Tryz.prog W 0 (fun _ => true) true n' 27 [v5] = some q5 := f5
    obtain ⟨a0, b0⟩ := u64_of_wf wf0
    obtain ⟨a1, b1⟩ := u64_of_wf wf1
    obtain ⟨a4, b4⟩ := u32_of_wf' wf4
    obtain ⟨z0, rfl⟩ := Int.eq_ofNat_of_zero_le a0
    obtain ⟨z1, rfl⟩ := Int.eq_ofNat_of_zero_le a1
    obtain ⟨z4, rfl⟩ := Int.eq_ofNat_of_zero_le a4
    have hts : Tryz.prog.cellTypes Tryz.prog.depth 29 = some [26, 26, 4, 3, 22, 27] := by kernel_rfl
    obtain ⟨ts, ht1, _, ht2⟩ := hrow
    rw [hts] at ht1
    obtain rfl := Option.some.inj ht1
    obtain ⟨u, hu1, hu2⟩ := ht2 5 v5 rfl
    have hu3 : 27 = u := by simpa using hu1
    subst hu3
    have hok5 : Value.okWide Tryz.prog W .any base 27 v5 := by
      unfold Value.okWide
      rw [Tryz.underlying27]
      exact hu2
    have hsl := okWide_slice Tryz.underlying27 hok5
    obtain ⟨d5, p5⟩ := q5
    have htr : DataW.Trod enc Tryz.prog W 0 (fun _ => true) true 27 v5 d5 p5 := by
      obtain ⟨a0', len0, cap0, rfl⟩ := hsl
      exact ⟨n', by simpa [Value.cells] using f5⟩
    obtain ⟨a, cap, us, rfl, hr, hc, hu⟩ := open_rows (fun x : {l : List FldD // l.length = 4} => rowV x.1) (fun x => IsFEntry x.1) ⟨zeroEntry, rfl⟩ 4 (by decide) (fun x => by unfold rowV; rw [List.length_map]; exact x.2) Tryz.underlying27 rEntry_cells (fun hl ht => rEntry_of_trod hl ht) hok5 htr
    have k0 : z0 < 18446744073709551616 := by omega
    have k1 : z1 < 18446744073709551616 := by omega
    have k4 : z4 < 4294967296 := by omega
    refine ⟨z0, z1, z2, z3, z4, us.map (·.1), a, cap, by rw [List.length_map], ⟨k0, k1, i64_of_wf wf3, k4, ?_⟩, ?_, by rw [List.length_map]; exact hc⟩
    · intro x hx
      obtain ⟨u, hu1, rfl⟩ := List.mem_map.1 hx
      exact hu u hu1
    · rw [List.map_map]
      exact hr
end Go.Proofs.YtgakidimipipeaaGreat
