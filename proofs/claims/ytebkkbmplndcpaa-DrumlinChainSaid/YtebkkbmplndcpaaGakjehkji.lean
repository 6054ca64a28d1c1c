/- slices.DeleteFunc at processes, by its walk. -/
import Derived.Test.YtebkkbmplndcpaaGfpjpfnip
namespace Go.Proofs.Ytebkkbmplndcpaa
open Go.RowKit Go.Sort
set_option linter.unusedVariables false
set_option linter.unusedSimpArgs false
set_option maxRecDepth 100000

theorem own_row {B : Nat} {w : World} {gs n cap : Nat} {m : List ProcD} (h : OwnsR' B w 40 6 (.slice (some ⟨gs, 0, none⟩) n cap) (procsV m)) {i : Nat} {s : ProcD} (hu : m[i]? = some s) :
    w.cell? ⟨gs, i * 6, none⟩ = some (.int .i64 s.pid) ∧ w.cell? ⟨gs, i * 6 + 1, none⟩ = some (.int .i64 s.parent) ∧ w.cell? ⟨gs, i * 6 + 2, none⟩ = some (.int .i64 s.state) ∧ w.cell? ⟨gs, i * 6 + 3, none⟩ = some (.int .i64 s.code) ∧ w.cell? ⟨gs, i * 6 + 4, none⟩ = some (.int .i64 s.til) ∧ w.cell? ⟨gs, i * 6 + 5, none⟩ = some (.bool s.killed) := by
  have hh := h.head.2.2 i _ (procsV_get hu)
  exact ⟨hh 0 _ rfl, hh 1 _ rfl, hh 2 _ rfl, hh 3 _ rfl, hh 4 _ rfl, hh 5 _ rfl⟩
/-- The end: what is left is cut off and made of zeros. -/
theorem half_end {B : Nat} {w : World} {gs L cap i : Nat} {p : ProcD → Bool} {l m : List ProcD} (h : Half B w gs L cap p l i L m) (hl : l.length = L) (hi : i < L) (hcap : L ≤ cap) :
    ∃ W, (∀ ty, (Builtin.clear_ #[75] ty #[.slice (some ⟨gs, i * 6, none⟩) (L - i) (cap - i)]).run Try.prog w = .ok (.tuple #[]) W) ∧ OwnsR' B W 40 6 (.slice (some ⟨gs, 0, none⟩) i cap) (procsV (l.filter (fun x => !p x))) ∧ w.grownBy W (some gs) ∧ (l.filter (fun x => !p x)).length = i := by
  obtain ⟨zs, hz, hzl, hzo⟩ := zeroCells_six (L - i)
  have hml : (procsV m).length = L := by rw [procsV_length]; exact h.len
  have hsh := h.own.shrink hml (show i ≤ L by omega)
  have e : (procsV m).take i = procsV (l.filter (fun x => !p x)) := by
    unfold procsV
    rw [← List.map_take, h.head, List.take_of_length_le (by omega)]
  rw [e] at hsh
  have hfl : (l.filter (fun x => !p x)).length = i := by
    have := congrArg List.length h.head
    rw [List.length_take, h.len, List.take_of_length_le (by omega)] at this
    omega
  have hsp := hsh.spares (by rw [procsV_length]; exact hfl) zs (i * 6) w (Nat.le_refl _)
  refine ⟨_, fun ty => run_clear_rows w _ 40 ty _ Try.underlying75 zero_proc gs (i * 6) (L - i) _ (by omega) zs hz hzo (fun q hq => ?_) (fun q _ => h.own.frozen hml _), hsp.1, hsp.2, hfl⟩
  rw [hzl] at hq
  obtain ⟨s, hs⟩ : ∃ s, m[i + q / 6]? = some s := ⟨_, List.getElem?_eq_getElem (by rw [h.len]; omega)⟩
  have h3 := h.own.head.2.2 (i + q / 6) _ (procsV_get hs) (q % 6) ((procV s)[q % 6]'(by show q % 6 < 6; exact Nat.mod_lt _ (by decide))) (List.getElem?_eq_getElem _)
  rw [show (i + q / 6) * 6 + q % 6 = i * 6 + q by omega] at h3
  rw [h3]; rfl
def DelPost (B : Nat) (w : World) (gs cap : Nat) (p : ProcD → Bool) (l : List ProcD) (e : Ending) (w' : World) : Prop := ∃ n', (l.filter (fun x => !p x)).length = n' ∧ e = .returned (.slice (some ⟨gs, 0, none⟩) n' cap) ∧ OwnsR' B w' 40 6 (.slice (some ⟨gs, 0, none⟩) n' cap) (procsV (l.filter (fun x => !p x))) ∧ w.grownBy w' (some gs)
set_option maxHeartbeats 1600000 in
theorem tdelf_is {B : Nat} {w : World} {gs cap L : Nat} {l : List ProcD} (h : OwnsR' B w 40 6 (.slice (some ⟨gs, 0, none⟩) L cap) (procsV l)) (hl : l.length = L) (hL : L ≤ 16) (hL1 : 1 ≤ L) (p : ProcD → Bool) (g : Nat) (lb : Array Value) (eg : ∀ args w, (callFunc g args).run Try.prog w = .ok (.enter g args) w)
    (hp : ∀ (W : World) (s : ProcD), Calls Try.prog g (#[.agg (procV s).toArray] ++ lb) W fun e w' => e = .returned (.bool (p s)) ∧ Below W.heap.size W w') :
    Calls Try.prog 51 #[.slice (some ⟨gs, 0, none⟩) L cap, .func (.func g) #[] lb] w (DelPost B w gs cap p l) := by
  have hpl : (procsV l).length = L := by rw [procsV_length]; exact hl
  obtain ⟨a9, c9, e9, hrd, hlc, hcm⟩ := h.reads
  obtain ⟨rfl, -, rfl⟩ := Value.slice.inj e9
  rw [hpl] at hlc
  have HIX := Lib.hid (index_proc l (some ⟨gs, 0, none⟩) cap w hrd (by omega) (fun _ => True) (fun _ _ => trivial) p g lb eg (fun W s _ _ => hp W s))
  rw [hl] at HIX
  have HP := Lib.hid hp
  have H := Lib.hid h
  have HLL := Lib.hid (And.intro hl (And.intro hlc hL))
  rcases firstT_or p l with ⟨h1, h2⟩ | ⟨i0, s0, h1, h2, h3, h4⟩
  · rw [h1] at HIX
    have hfl : l.filter (fun x => !p x) = l := List.filter_eq_self.2 (fun x hx => by rw [h2 x hx]; rfl)
    have HE : Hid (DelPost B w gs cap p l = fun e w' => ∃ n', l.length = n' ∧ e = .returned (.slice (some ⟨gs, 0, none⟩) n' cap) ∧ OwnsR' B w' 40 6 (.slice (some ⟨gs, 0, none⟩) n' cap) (procsV l) ∧ w.grownBy w' (some gs)) := Lib.hid (by unfold DelPost; rw [hfl])
    rw [HE.out]
    clear h hl hp hrd hlc hcm e9 h1 h2 hfl hpl HE
    go_enter Try.func51, Try.ntmps51
    go_wp2_with fail
    refine HIX.out.mono ?_
    rintro e w1 ⟨rfl, b1⟩
    have HB := Lib.hid b1
    clear b1
    go_wp2
    go_ret
    exact ⟨L, HLL.out.1, rfl, H.out.below HB.out, grown_ofBelowT HB.out⟩
  · rw [h1] at HIX
    have hi0 : i0 < L := by rw [← hl]; exact (List.getElem?_eq_some_iff.1 h2).1
    have HH : Hid (Half B w gs L cap p l i0 (i0 + 1) l) := Lib.hid ⟨h, hl, by omega, by omega, by
      rw [filter_snoc_yes h2 h3, List.filter_eq_self.2 (fun x hx => by
        obtain ⟨q, hq⟩ := List.mem_iff_getElem?.1 hx
        rw [List.getElem?_take] at hq
        split at hq
        · rename_i hqi; rw [h4 q x hqi hq]; rfl
        · cases hq)], rfl⟩
    have hw0 : IntKind.i64.wrap ((i0 : Int) + 1) = ((i0 + 1 : Nat) : Int) := by rw [IntWalk.i64_in _ (by omega)]; omega
    have hne1 : ((i0 : Int) == -1) = false := by rw [beq_dec]; exact decide_eq_false (by omega)
    have HI0 := Lib.hid hi0
    clear h hl hp hrd hlc hcm e9 h1 h2 h3 h4 hpl hi0
    go_enter Try.func51, Try.ntmps51
    go_wp2_with fail
    refine HIX.out.mono ?_
    rintro e w1 ⟨rfl, b1⟩
    have HB := Lib.hid b1
    clear b1
    go_wp2_with fail
    go_loopw [5, 6] (fun vi vj wr => ∃ (i j : Nat) (m : List ProcD), vi = .int .i64 (i : Int) ∧ vj = .int .i64 (j : Int) ∧ i < j ∧ j ≤ L ∧ Hid (Half B wr gs L cap p l i j m) ∧ Hid (w.grownBy wr (some gs))) (fun _ vj _ => 20 - (intOf vj).toNat)
    case atStart => exact ⟨i0, i0 + 1, l, rfl, rfl, by omega, HI0.out, Lib.hid (HH.out.below HB.out), Lib.hid (grown_ofBelowT HB.out)⟩
    case round =>
      obtain ⟨i, j, m, rfl, rfl, hij, hjL, HM, HG⟩ := hrel
      clear HH
      by_cases hlt : j < L
      · obtain ⟨⟨u0, u1, u2, u3, u4, u5⟩, hu⟩ : ∃ x, l[j]? = some x := ⟨_, List.getElem?_eq_getElem (by rw [HLL.out.1]; exact hlt)⟩
        obtain ⟨r0, r1, r2, r3, r4, r5⟩ := own_row HM.out.own (HM.out.get hu)
        obtain ⟨si, hsi⟩ : ∃ x, m[i]? = some x := ⟨_, List.getElem?_eq_getElem (by rw [HM.out.len]; omega)⟩
        have kb := below_box wr (.cells #[.int .i64 u0, .int .i64 u1, .int .i64 u2, .int .i64 u3, .int .i64 u4, .bool u5] 40)
        have nb := heap_alloc_new wr (.cells #[.int .i64 u0, .int .i64 u1, .int .i64 u2, .int .i64 u3, .int .i64 u4, .bool u5] 40)
        obtain ⟨gx, hgx⟩ : ∃ x, wr.heap.size = x := ⟨_, rfl⟩
        obtain ⟨wb, hwb⟩ : ∃ x, wr.alloc (.cells #[.int .i64 u0, .int .i64 u1, .int .i64 u2, .int .i64 u3, .int .i64 u4, .bool u5] 40) = x := ⟨_, rfl⟩
        rw [hwb] at kb nb
        rw [hgx] at nb
        have HKB := Lib.hid kb
        have HNB := Lib.hid nb
        have d0 := cell_atT nb 0
        have d1 := cell_atT nb 1
        have d2 := cell_atT nb 2
        have d3 := cell_atT nb 3
        have d4 := cell_atT nb 4
        have d5 := cell_atT nb 5
        have HUU := Lib.hid (And.intro hu hsi)
        have hcall := HP.out wb ⟨u0, u1, u2, u3, u4, u5⟩
        have hx0 : (0 : Int) ≤ (j : Int) := by omega
        have hx1 : (j : Int) < (L : Int) := by omega
        have hx2 : (0 : Int) ≤ (i : Int) := by omega
        have hx3 : (i : Int) < (L : Int) := by omega
        have hwj : IntKind.i64.wrap ((j : Int) + 1) = ((j + 1 : Nat) : Int) := by rw [IntWalk.i64_in _ (by have := HLL.out.2.2; omega)]; omega
        have hwi : IntKind.i64.wrap ((i : Int) + 1) = ((i + 1 : Nat) : Int) := by rw [IntWalk.i64_in _ (by have := HLL.out.2.2; omega)]; omega
        have HLT := Lib.hid hlt
        clear kb nb hu hsi hlt
        cases hpu : p ⟨u0, u1, u2, u3, u4, u5⟩ with
        | true =>
          rw [hpu] at hcall
          have HPU := Lib.hid hpu
          clear hpu
          go_wp2_with (go_at_fn g; refine hcall.mono ?_; rintro e w5 ⟨rfl, b5⟩)
          have HH5 : Hid (Half B w5 gs L cap p l i (j + 1) m) := Lib.hid (((HM.out.below HKB.out).below b5).skip HUU.out.1 HPU.out HLT.out)
          have HG5 := Lib.hid (grown_transT HG.out (grown_ofBelowT (below_next HKB.out b5)))
          clear b5 r0 r1 r2 r3 r4 r5 d0 d1 d2 d3 d4 d5
          go_wp2
          have h1 := HLT.out
          go_roundw
          case rel => exact ⟨i, j + 1, m, rfl, by first | rfl | go_num, by omega, h1, HH5, HG5⟩
          case measure => simp [intOf]; have := HLL.out.2.2; omega
        | false =>
          rw [hpu] at hcall
          have HPU := Lib.hid hpu
          clear hpu
          go_wp2_with (go_at_fn g; refine hcall.mono ?_; rintro e w5 ⟨rfl, b5⟩; have n5 := (b5.block gx (Array.getElem?_eq_some_iff.1 HNB.out).1).trans HNB.out; have y0 := cell_atT n5 0; have y1 := cell_atT n5 1; have y2 := cell_atT n5 2; have y3 := cell_atT n5 3; have y4 := cell_atT n5 4; have y5 := cell_atT n5 5; have HH5 := Lib.hid ((HM.out.below HKB.out).below b5); obtain ⟨z0, z1, z2, z3, z4, z5⟩ := own_row HH5.out.own HUU.out.2; (have fz := fun q => HH5.out.own.frozen (by rw [procsV_length]; exact HH5.out.len) q); (have hpt := rows_put6 HH5.out.own HH5.out.len (show i < L by omega) ⟨u0, u1, u2, u3, u4, u5⟩); dsimp only at hpt; obtain ⟨w6, hw6⟩ : ∃ x, ((((((w5.setCell ⟨gs, i * 6, none⟩ (.int .i64 u0)).setCell ⟨gs, i * 6 + 1, none⟩ (.int .i64 u1)).setCell ⟨gs, i * 6 + 2, none⟩ (.int .i64 u2)).setCell ⟨gs, i * 6 + 3, none⟩ (.int .i64 u3)).setCell ⟨gs, i * 6 + 4, none⟩ (.int .i64 u4)).setCell ⟨gs, i * 6 + 5, none⟩ (.bool u5)) = x := ⟨_, rfl⟩; rw [hw6] at hpt; have HH6 : Hid (Half B w6 gs L cap p l (i + 1) (j + 1) (m.set i ⟨u0, u1, u2, u3, u4, u5⟩)) := Lib.hid (HH5.out.keep HUU.out.1 HPU.out HLT.out hpt.1); have HG6 := Lib.hid (grown_transT (grown_transT HG.out (grown_ofBelowT (below_next HKB.out b5))) hpt.2); clear b5 n5 hpt r0 r1 r2 r3 r4 r5 d0 d1 d2 d3 d4 d5)
          have h1 := HLT.out
          go_roundw
          case rel => exact ⟨i + 1, j + 1, _, by first | rfl | go_num, by first | rfl | go_num, by omega, h1, HH6, HG6⟩
          case measure => simp [intOf]; have := HLL.out.2.2; omega
      · have hjL' : j = L := Nat.le_antisymm hjL (Nat.le_of_not_lt hlt)
        subst hjL'
        obtain ⟨W, hW, hWo, hWg, hWl⟩ := half_end HM.out HLL.out.1 hij HLL.out.2.1
        have hx0 : ¬ (j : Int) < (j : Int) := Int.lt_irrefl _
        have hx1 : (0 : Int) ≤ (i : Int) := by omega
        have hx2 : (i : Int) ≤ (j : Int) := by omega
        have hx3 : i ≤ j := by omega
        have hx4 : ¬ cap = i := by have := HLL.out.2.1; omega
        have hx5 : i ≤ cap := by have := HLL.out.2.1; omega
        have hx6 : (i : Int) ≤ (cap : Int) := by omega
        have HF := Lib.hid (And.intro hWo (And.intro (grown_transT HG.out hWg) hWl))
        clear hWo hWg hWl hlt
        go_wp2
        go_ret
        exact ⟨i, HF.out.2.2, rfl, HF.out.1, HF.out.2.1⟩
end Go.Proofs.Ytebkkbmplndcpaa
