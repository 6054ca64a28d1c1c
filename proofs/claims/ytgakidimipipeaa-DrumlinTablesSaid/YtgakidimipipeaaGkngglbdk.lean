/- The map's sectors, by the program. A straight region in an iterator's round, walked by the plain laws. (*Map).Sectors, walked. The document's WriteSlots: what it makes of a list is what the program makes. Numbers that came in, opened. The document's Opened: the numbers of a sealed sector, of these widths again and again. -/
import Derived.Test.YtgakidimipipeaaGlchajepg
import Derived.Test.YtgakidimipipeaaGocfcichb
import Derived.Great.BuildSlice
import Derived.Test.YtgakidimipipeaaGhmedploj
import Derived.Test.YtgakidimipipeaaOpen
import Derived.Test.YtgakidimipipeaaGaefblgki
import Derived.Test.YtgakidimipipeaaGhnkogdgp
namespace Go.Proofs.Ytgakidimipipeaa
open Go.RowKit Go.Sort
set_option linter.unusedVariables false
set_option linter.unusedSimpArgs false
set_option maxRecDepth 100000
attribute [local go_sem] Oper.semAt_some

def fldS (s : SlotD) : List FldD := fldSlot s.place s.version s.links s.kind
/-- The k-th sector that holds these slots. -/
noncomputable def secM (sl : List SlotD) (k : Nat) : List Nat := (writeSlot (((sl.drop (k * 10)).take 10).map fldS)).1
noncomputable def secsM (sl : List SlotD) (ks : List Nat) : List (List Value) := ks.map fun k => (cells (secM sl k)).toList
/-- What the rounds of (*Map).Sectors keep. -/
def SecI (sl : List SlotD) (w : World) (gs : Nat) (pre : List (SpotC (tens sl.length))) (W : World) : Prop :=
  (∃ v, Boxed W w.heap.size 36 v ∧ W.ownsRow w.heap.size 41 128 v pre.length (flatR (secsM sl (pre.map (·.1))))) ∧ Below w.heap.size w W ∧
  Boxed W (w.heap.size + 1) 24 (.slice (some ⟨gs, 0, none⟩) sl.length sl.length) ∧ Boxed W (w.heap.size + 1 + 1) 3 (.int .i64 10)

theorem sec_info : (Try.prog.info? 41).map (fun i => (i.zero, i.size, i.bytes)) = some (some (.agg (cells noughts)), 128, 128) := by kernel_rfl
theorem slice_sector (s : List Nat) (hs : s.length = 128) (w : World) : (Instr.buildSlice 36 1 #[(0, .agg (cells s))]).run Try.prog w = .ok (.slice (some ⟨w.heap.size, 0, none⟩) 1 1) (w.alloc (.cells (cells s) 41)) := by
  obtain ⟨i0, hi, hz0, hz1, hz2⟩ := info_parts sec_info
  refine run_buildSlice w _ 41 1 _ _ i0 _ Try.underlying36 hi hz0 (by rw [hz1]; decide) (by rw [hz1]; decide) ?_
  rw [hz1]
  have hl : (cells s).size = 128 := by rw [cells_size, hs]
  have hw := Great.fill_whole (s := 128) (by decide) [Value.agg (cells s)] ((Array.range (1 * 128)).map ((Value.agg (cells noughts)).cells[· % (Value.agg (cells noughts)).cells.size]!)) (by intro v hv; simp only [List.mem_singleton] at hv; subst hv; simpa [Value.cells] using hl) (by simp)
  simpa [Value.cells] using hw
theorem wpList_slice_sector {ops : Array Oper} {rest : List Oper} {op : Oper} {a : Act} {w : World} {Q : Exit → Act → World → Prop} (hgd : op.guard = none) (x : Operand)
    (ho : op.op = .buildSlice 36 1 #[(0, x)]) (s : List Nat) (hx : a.eval x = .agg (cells s)) (hs : s.length = 128)
    (h : wpList Try.prog ops Q rest (a.put op.dst (.slice (some ⟨w.heap.size, 0, none⟩) 1 1)) (w.alloc (.cells (cells s) 41))) : wpList Try.prog ops Q (op :: rest) a w := by
  refine wpList_plain hgd fun K hK => ?_
  unfold Oper.wp
  unfold execOp
  have e : ((#[(0, x)] : Array (Nat × Operand)).map fun (i, x) => (i, a.eval x)) = #[(0, Value.agg (cells s))] := by simp [hx]
  simp only [ho, Sem.run_bind, e, slice_sector s hs w, Result.andThen_ok]
  exact hK _ _ h
theorem grown_noneM {w w' : World} (b : Below w.heap.size w w') : w.grownBy w' none := ⟨b.os, b.tape, b.output, b.size, fun j hj _ => b.block j hj⟩
theorem holdsRow_own' (sl : List SlotD) (w : World) : Own (fun (pre : List (SpotC (tens sl.length))) W => ∃ v, Boxed W w.heap.size 36 v ∧ W.ownsRow w.heap.size 41 128 v pre.length (flatR (secsM sl (pre.map (·.1))))) := by
  intro s A B row hs hg hr
  obtain ⟨v, hv, ho, -⟩ := holdsRow_own w.heap.size w.heap.size 36 41 128 (fun pre : List (SpotC (tens sl.length)) => pre.length) (fun pre => flatR (secsM sl (pre.map (·.1)))) (fun _ _ => True) s A B row (by obtain ⟨v, hv, ho⟩ := hs; exact ⟨v, hv, ho, trivial⟩) hg hr
  exact ⟨v, hv, ho⟩
end Go.Proofs.Ytgakidimipipeaa

namespace Go.Proofs.Ytgakidimipipeaa
open Go.RowKit Go.Sort
set_option linter.unusedVariables false
set_option linter.unusedSimpArgs false
set_option maxRecDepth 100000

def plainOp (o : Oper) : Bool := match o.op with | .defer _ => false | _ => true
theorem plainOp_defer {o : Oper} (h : plainOp o = true) : ∀ c, o.op ≠ .defer c := by
  intro c hc
  unfold plainOp at h
  rw [hc] at h
  cases h
theorem wpListIn_of_wpList {l n : Nat} {P : Program} {ops : Array Oper} {K : Act → World → Prop} {Q : Exit → Act → World → Prop} (hK : ∀ a w, K a w → Q .normal a w) :
    ∀ (rest : List Oper) (a : Act) (w : World), rest.all plainOp = true → wpList P ops (Exit.then K (fun _ _ _ => False)) rest a w → wpListIn (Fence.wide.inRound l) n P ops Q rest a w := by
  intro rest
  induction rest with
  | nil => intro a w _ h; exact hK _ _ h
  | cons o rest ih =>
    intro a w hp h
    rw [List.all_cons, Bool.and_eq_true] at hp
    have hd := plainOp_defer hp.1
    unfold wpList at h
    unfold wpListIn
    split at h
    · rename_i hw
      rw [if_pos hw]
      rcases h with h | ⟨-, ⟨a', w', h⟩⟩
      · unfold Oper.wp at h
        unfold Oper.wpIn
        refine ⟨fun f _ => trivial, ?_⟩
        rw [Oper.semAt_eq _ _ _ hd]
        generalize (execOp a.eval o).run P w = r at h ⊢
        unfold Oper.upon at h
        unfold Oper.uponIn
        split at h
        · exact ih _ _ hp.2 h
        · exact ih _ _ hp.2 h
        · exact ih _ _ hp.2 h
        · refine ⟨fun hx => by simp [Fence.wide, Fence.inRound] at hx, ?_⟩
          refine ((callsIn_wide.2 h).inRound l).mono ?_
          intro e w'' he
          cases e with
          | returned v => exact ih _ _ hp.2 he
          | panicked c => exact he.elim
          | outgrown => obtain ⟨_, _, h⟩ := he; exact h.elim
        · refine ⟨fun hx => by simp [Fence.wide, Fence.inRound] at hx, ?_⟩
          intro c cs _
          obtain ⟨v, w'', he, hs⟩ := h c cs
          exact ⟨v, w'', ih _ _ hp.2 he, by rw [fenced_inRound]; exact stepsIn_wide.2 hs⟩
        · exact h.elim
        · exact h.elim
      · exact h.elim
    · rename_i hw
      rw [if_neg hw]
      exact ⟨fun f _ => trivial, ih _ _ hp.2 h⟩
/-- A straight region in a round: it is enough to walk it by the plain laws. -/
theorem wpIn_region_round {l n id : Nat} {P : Program} {L : List Oper} {Q : Exit → Act → World → Prop} {a : Act} {w : World} (hd : L.all plainOp = true)
    (h : ∀ K : Act → World → Prop, (∀ a w, Q .normal a w → K a w) → wpList P L.toArray (Exit.then K (fun _ _ _ => False)) L a w) : (Code.region id L.toArray false).wpIn (Fence.wide.inRound l) n P Q a w :=
  wpIn_region_lit (wpListIn_of_wpList (K := fun a w => Q .normal a w) (fun _ _ h => h) _ _ _ hd (h _ fun _ _ h => h))
end Go.Proofs.Ytgakidimipipeaa

namespace Go.Proofs.Ytgakidimipipeaa
open Go.RowKit Go.Sort
set_option linter.unusedVariables false
set_option linter.unusedSimpArgs false
set_option maxRecDepth 100000
attribute [local go_sem] Oper.semAt_some

/-- Some rows of a slice, from one on. -/
theorem ReadsR.partAt {w : World} {gs off : Nat} {l : List (List Value)} (h : ReadsR w (some ⟨gs, off, none⟩) 4 l) (i m : Nat) : ReadsR w (some ⟨gs, off + i * 4, none⟩) 4 ((l.drop i).take m) := by
  have h1 : ∀ p ∈ (l.drop i).take m, p.length = 4 := fun p hp => h.1 p (List.mem_of_mem_drop (List.mem_of_mem_take hp))
  refine ⟨h1, ?_⟩
  by_cases hl : (l.drop i).take m = []
  · exact .inl hl
  right
  have hb : gs < w.heap.size := by
    rcases h.2 with rfl | ⟨b, off, e, hb, _⟩
    · simp at hl
    · simp only [Option.some.injEq, Addr.mk.injEq] at e
      rw [e.1]; exact hb
  refine ⟨gs, off + i * 4, rfl, hb, fun j u hj => ?_⟩
  have hlt := (List.getElem?_eq_some_iff.1 hj).1
  rw [flatR_length h1] at hlt
  have ha : j / 4 < ((l.drop i).take m).length := by omega
  obtain ⟨r, hr⟩ : ∃ r, ((l.drop i).take m)[j / 4]? = some r := ⟨_, List.getElem?_eq_getElem ha⟩
  have hj2 : j = j / 4 * 4 + j % 4 := by omega
  rw [hj2, flatR_get h1 hr (by omega)] at hj
  have ha2 : j / 4 < m := by rw [List.length_take] at ha; omega
  rw [List.getElem?_take, if_pos ha2, List.getElem?_drop] at hr
  obtain ⟨b, off, e, _, hc⟩ := h.row hr
  simp only [Option.some.injEq, Addr.mk.injEq, and_true] at e
  obtain ⟨rfl, rfl⟩ := e
  have h3 := hc _ u hj
  have e3 : ∀ o : Nat, o + i * 4 + j = o + ((i + j / 4) * 4 + j % 4) := fun o => by omega
  rw [e3]
  exact h3
theorem ReadsR.part {w : World} {gs : Nat} {l : List (List Value)} (h : ReadsR w (some ⟨gs, 0, none⟩) 4 l) (i m : Nat) : ReadsR w (some ⟨gs, i * 4, none⟩) 4 ((l.drop i).take m) := by
  have := h.partAt i m
  rwa [Nat.zero_add] at this
theorem fldS_row (s : SlotD) : rowV (fldS s) = slotV s := rfl
theorem fldS_ok {s : SlotD} (h : SlotOk s) : IsFSlot (fldS s) := by
  obtain ⟨h1, h2, h3, h4, h5, h6, h7, h8⟩ := h
  exact ⟨s.place, s.version, s.links, s.kind, rfl, by unfold I64; omega, ⟨h3, h4⟩, by unfold I64; omega, by unfold I64; omega⟩
theorem fldS_rows (sl : List SlotD) (i m : Nat) : (((sl.drop i).take m).map fldS).map rowV = ((slotsV sl).drop i).take m := by
  unfold slotsV
  rw [List.map_map, List.map_take, List.map_drop]
  rfl
theorem secM_len {sl : List SlotD} (h : ∀ s ∈ sl, SlotOk s) (k : Nat) : (secM sl k).length = 128 := writeSlot_length (by
  intro y hy
  obtain ⟨s, hs, rfl⟩ := List.mem_map.1 hy
  exact fldS_ok (h s (List.mem_of_mem_drop (List.mem_of_mem_take hs))))
theorem secsM_rows {sl : List SlotD} (h : ∀ k, (secM sl k).length = 128) (ks : List Nat) : ∀ p ∈ secsM sl ks, p.length = 128 := by
  intro p hp
  obtain ⟨k, _, rfl⟩ := List.mem_map.1 hp
  rw [Array.length_toList, cells_size, h]
theorem secsM_len {sl : List SlotD} (ks : List (SpotC (tens sl.length))) : (secsM sl (ks.map (·.1))).length = ks.length := by unfold secsM; rw [List.length_map, List.length_map]
theorem cells_getD {S : List Nat} (h : S.length = 128) {j : Nat} (hj : j < 128) : (cells S)[j]? = some (byteV (S.getD j 0)) := by
  unfold cells
  rw [List.getElem?_toArray, List.getElem?_map, List.getElem?_eq_getElem (by omega)]
  simp [List.getD, List.getElem?_eq_getElem (show j < S.length by omega)]
theorem cells_onecell {S : List Nat} {u : Value} (hu : u ∈ (cells S).toList) : u.oneCell' = true := by
  have := cells_one S
  rw [Array.all_eq_true'] at this
  exact this u (by simpa using hu)
set_option maxHeartbeats 1200000 in
theorem msectors_is {B : Nat} {w : World} {g gs : Nat} {sl : List SlotD} (h : IsMap B w g gs sl) : Calls Try.prog 13 #[.pointer (some ⟨g, 0, none⟩)] w fun e w' => ∃ v, e = .returned v ∧
    w'.ownsRow w.heap.size 41 128 v (tens sl.length) (flatR (secsM sl (List.range (tens sl.length)))) ∧ Below w.heap.size w w' := by
  have c0 := map_facts h
  have hlen := h.2.2.2.2.1
  have hlen1 := h.2.2.2.1
  have hgl := (map_lt h).1
  have HH := Lib.hid h
  refine (callsIn_wide (n := 5)).1 ?_
  refine callsIn_of_wp_marks Try.func13 rfl trivial ?_ rfl
  simp only [Try.ntmps13, List.size_toArray, List.length_cons, List.length_nil, Nat.reduceAdd, Nat.reduceSub, Array.replicate_succ, Array.replicate_zero, List.push_toArray, List.append_toArray, List.nil_append, List.cons_append]
  have bL := below_box w (.cells #[.slice none 0 0] 36)
  have nL := heap_alloc_new w (.cells #[.slice none 0 0] 36)
  have c1 := (bL.cell (p := ⟨g, 0, none⟩) hgl).trans c0
  obtain ⟨N, hN⟩ : ∃ N, sl.length = N := ⟨_, rfl⟩
  rw [hN] at c0 c1 hlen hlen1
  have HN := Lib.hid hN
  have HLN := Lib.hid (And.intro hlen hlen1)
  clear h hN hlen hlen1
  gi_wp2_with fail
  refine ⟨trivial, ?_⟩
  refine (chunk_in _ gs N _).mono ?_
  rintro e w1 ⟨rfl, rfl⟩
  gi_wp2_with fail
  obtain ⟨W0, hW0⟩ : ∃ W0, w.alloc (.cells #[.slice none 0 0] 36) = W0 := ⟨_, rfl⟩
  have s0 : W0.heap.size = w.heap.size + 1 := by rw [← hW0]; simp
  rw [hW0] at bL nL ⊢
  have b1 := below_box W0 (.cells #[.slice (some ⟨gs, 0, none⟩) N N] 24)
  have n1 := heap_alloc_new W0 (.cells #[.slice (some ⟨gs, 0, none⟩) N N] 24)
  obtain ⟨W2, hW2⟩ : ∃ W2, W0.alloc (.cells #[.slice (some ⟨gs, 0, none⟩) N N] 24) = W2 := ⟨_, rfl⟩
  have s2 : W2.heap.size = w.heap.size + 2 := by rw [← hW2]; simp [s0]
  rw [hW2] at b1 n1 ⊢
  have b2 := below_box W2 (.cells #[.int .i64 10] 3)
  have n2 := heap_alloc_new W2 (.cells #[.int .i64 10] 3)
  obtain ⟨W1, hW1⟩ : ∃ W1, W2.alloc (.cells #[.int .i64 10] 3) = W1 := ⟨_, rfl⟩
  have s1 : W1.heap.size = w.heap.size + 3 := by rw [← hW1]; simp [s2]
  rw [hW1] at b2 n2 ⊢
  rw [s0] at n1
  rw [s2] at n2
  have m0 : W1.heap[w.heap.size]? = some (.cells #[.slice none 0 0] 36 (0, 0)) := (b2.block w.heap.size (by omega)).trans ((b1.block w.heap.size (by omega)).trans nL)
  have m1 : W1.heap[w.heap.size + 1]? = some (.cells #[.slice (some ⟨gs, 0, none⟩) N N] 24 (0, 0)) := (b2.block (w.heap.size + 1) (by omega)).trans n1
  have k1 : W1.cell? ⟨w.heap.size + 1, 0, none⟩ = some (.slice (some ⟨gs, 0, none⟩) N N) := by unfold World.cell?; rw [m1]; rfl
  have k2 : W1.cell? ⟨w.heap.size + 1 + 1, 0, none⟩ = some (.int .i64 10) := by unfold World.cell?; rw [n2]; rfl
  have bB : Below w.heap.size w W1 := below_next (below_next bL b1) b2
  have HM1 : Hid (Boxed W1 (w.heap.size + 1) 24 (.slice (some ⟨gs, 0, none⟩) N N)) := Lib.hid m1
  have HM2 : Hid (Boxed W1 (w.heap.size + 1 + 1) 3 (.int .i64 10)) := Lib.hid n2
  clear hW0 hW1 hW2 bL b1 b2 n1 n2 nL m1 s0 s2 c0 c1
  obtain rfl := HN.out
  have HS := Lib.hid s1
  refine wpIn_rangeFunc_ownG rfl (by omega) (gf := 97) (lb := #[.pointer (some ⟨w.heap.size + 1, 0, none⟩), .pointer (some ⟨w.heap.size + 1 + 1, 0, none⟩)]) rfl trivial (enters_of Try.func97 (by kernel_rfl) rfl)
    (chunk_stops _ (by omega) (w.heap.size + 1) (w.heap.size + 1 + 1) gs sl.length HLN.out.2 HLN.out.1 W1 (by omega) (by omega) k1 k2) Keep2.trans (keep2_b (by omega) (by omega)) (Below.refl _ _) (fun _ => rfl)
    (SecI sl w gs) (fun _ _ _ => False)
    (OwnFrom.and (Own.from (holdsRow_own' sl w) _) (OwnFrom.and (ownFrom_below (Nat.le_refl _) (by omega)) (OwnFrom.and (Own.from (boxed_own (w.heap.size + 1) 24 (fun _ => .slice (some ⟨gs, 0, none⟩) sl.length sl.length)) _) (Own.from (boxed_own (w.heap.size + 1 + 1) 3 (fun _ => .int .i64 10)) _))))
    (fun c => Own.from (fun s A B row hs hg hr => hs) _)
    ⟨⟨_, m0, World.ownsRow_nil _ _ _ _⟩, bB, HM1.out, HM2.out⟩
    (fun x => { tmps := #[.pointer (some ⟨g, 0, none⟩), undef, .slice none 0 0, .pointer (some ⟨w.heap.size, 0, none⟩), .slice (some ⟨gs, x.1 * 10 * 4, none⟩) (min 10 (sl.length - x.1 * 10)) (min 10 (sl.length - x.1 * 10)), undef, undef,
          .pointer (some ⟨g, 0, none⟩), .pointer (some ⟨g, 0, none⟩), .pointer (some ⟨g, 0, none⟩), .slice (some ⟨gs, 0, none⟩) sl.length sl.length,
          .func (.func 97) #[] #[.pointer (some ⟨w.heap.size + 1, 0, none⟩), .pointer (some ⟨w.heap.size + 1 + 1, 0, none⟩)],
          .slice (some ⟨gs, x.1 * 10 * 4, none⟩) (min 10 (sl.length - x.1 * 10)) (min 10 (sl.length - x.1 * 10)), undef, undef, undef, undef, undef, undef, undef, undef, undef, undef], defers := [] }) ?assign ?body ?done ?stop
  case assign =>
    intro l x W K hK
    dsimp only [encC]
    gi_wp2
    exact hK
  case body =>
    rintro l pre x W ⟨⟨v, hv, hr⟩, hB, hq1, hq2⟩ hpl
    have hx := x.2
    obtain ⟨k, hk⟩ : ∃ k, x.1 = k := ⟨_, rfl⟩
    have hN2 := HLN.out.1
    have hkn : k * 10 < sl.length := by rw [hk] at hx; unfold tens at hx; omega
    have hpl2 : pre.length < 21 := by have : tens sl.length ≤ 20 := by unfold tens; omega
                                      omega
    obtain ⟨L, hL⟩ : ∃ L, ((sl.drop (k * 10)).take 10).map fldS = L := ⟨_, rfl⟩
    obtain ⟨q, hq⟩ : ∃ q, min 10 (sl.length - k * 10) = q := ⟨_, rfl⟩
    have hLq : L.length = q := by rw [← hL, List.length_map, List.length_take, List.length_drop, hq]
    have hRL : ReadsR W (some ⟨gs, k * 10 * 4, none⟩) 4 (L.map rowV) := by
      rw [← hL, fldS_rows]
      exact ((map_reads HH.out).below hB).part (k * 10) 10
    have hLF : ∀ y ∈ L, IsFSlot y := by
      rw [← hL]
      intro y hy
      obtain ⟨s, hs, rfl⟩ := List.mem_map.1 hy
      exact fldS_ok (HH.out.2.2.2.2.2 s (List.mem_of_mem_drop (List.mem_of_mem_take hs)))
    have hws := writeSlots_is L hLF (some ⟨gs, k * 10 * 4, none⟩) q hRL
    rw [hLq] at hws
    have hS8 := writeSlot_length hLF
    have hsm : secM sl k = (writeSlot L).1 := by unfold secM; rw [hL]
    obtain ⟨S, hS⟩ : ∃ S, (writeSlot L).1 = S := ⟨_, rfl⟩
    obtain ⟨er, her⟩ : ∃ er, (writeSlot L).2 = er := ⟨_, rfl⟩
    rw [hS, her] at hws
    rw [hS] at hS8 hsm
    have HS8L : Hid (∀ k, (secM sl k).length = 128) := Lib.hid (secM_len (fun s hs => HH.out.2.2.2.2.2 s hs))
    have HWS := Lib.hid hws
    have HSM := Lib.hid hsm
    have HB := Lib.hid hB
    have HXK := Lib.hid hk
    have HV := Lib.hid hv
    have HR := Lib.hid hr
    have HQ1 := Lib.hid hq1
    have HQ2 := Lib.hid hq2
    have HS8 := Lib.hid hS8
    simp only [hk, hq]
    clear hRL hLF hws hL hLq hq hS her hkn hx hN2 hsm hB hk hv hr hq1 hq2 hS8
    refine wpIn_block ?_
    refine wpIn_seq ?_
    refine wpIn_region_round (by kernel_rfl) ?_
    intro K hK
    have hz := zero_sector
    have HKK := Lib.hid hK
    clear hK
    go_wp2_with fail
    refine HWS.out.mono ?_
    rintro e W3 ⟨rfl, hb⟩
    have g3 := grown_noneM hb
    have hv3 := HV.out.kept g3 (fun e => by cases e)
    have hq3 := HQ1.out.kept g3 (fun e => by cases e)
    have hp3 := HQ2.out.kept g3 (fun e => by cases e)
    have hr3 : OwnsR' w.heap.size W3 41 128 v (secsM sl (pre.map (·.1))) := ⟨secsM_rows HS8L.out _, by rw [secsM_len]; exact HR.out.kept g3 (by by_cases hvb : v.ownBlock = none; exact .inl hvb; exact .inr hvb)⟩
    have hBW : Below w.heap.size w W3 := HB.out.trans (hb.mono HB.out.size)
    have hsz3 : w.heap.size ≤ W3.heap.size := hBW.size
    have HK3 : Hid (KeepsFrom W1.heap.size W W3) := by show _; exact KeepsFrom.of_grownBy g3 (fun j e => by cases e)
    have nS := heap_alloc_new W3 (.cells (cells noughts) 41)
    have eS := World.setRow_alloc_new W3 (cells noughts) (cells S) 41
    have nS2 := heap_alloc_new W3 (.cells (cells S) 41)
    have hv4 := hv3.alloc (.cells (cells S) 41)
    have hq4 := hq3.alloc (.cells (cells S) 41)
    have hp4 := hp3.alloc (.cells (cells S) 41)
    have hr4 := hr3.alloc (.cells (cells S) 41)
    have hB4 := hBW.alloc hsz3 (.cells (cells S) 41)
    have K4 : KeepsFrom W1.heap.size W (W3.alloc (.cells (cells S) 41)) := HK3.out.trans ((KeepsOthers.alloc W3 _).from _)
    obtain ⟨W4, hW4⟩ : ∃ W4, W3.alloc (.cells (cells S) 41) = W4 := ⟨_, rfl⟩
    have s4 : W4.heap.size = W3.heap.size + 1 := by rw [← hW4]; simp
    rw [hW4] at eS nS2 hv4 hr4 hq4 hp4 hB4 K4
    clear hb g3 hv3 hq3 hp3 hr3 hBW HK3 hW4
    have HV4 := Lib.hid hv4
    have HQ4 := Lib.hid hq4
    have HP4 := Lib.hid hp4
    have HR4 := Lib.hid hr4
    have HB4 := Lib.hid hB4
    have HK4 := Lib.hid K4
    have HS4 := Lib.hid s4
    have HSZ := Lib.hid hsz3
    clear hv4 hq4 hp4 hr4 hB4 K4 s4 hsz3
    go_wp2_with (refine wpList_store_sector rfl _ _ rfl W3.heap.size S rfl rfl HS8.out 41 _ nS rfl ?_; rw [eS])
    refine HKK.out _ _ ?_
    clear HKK nS eS hz HWS
    clear K
    refine wpIn_region_round (by kernel_rfl) ?_
    intro K hK
    have HKK := Lib.hid hK
    clear hK
    have cv := HV4.out.cell
    have hld : ∀ j, j < 128 → W4.cell? ⟨W3.heap.size, 0 + j, none⟩ = some (byteV (S.getD j 0)) := fun j hj => by
      rw [Nat.zero_add]
      exact (cell_of_row nS2 j).trans (cells_getD HS8.out hj)
    have HLD := Lib.hid hld
    have HO5 := Lib.hid (HR4.out.alloc (.cells (cells S) 41))
    have n5 := heap_alloc_new W4 (.cells (cells S) 41)
    have hrow : ∀ j u, ((cells S).toList)[j]? = some u → (W4.alloc (.cells (cells S) 41)).cell? ⟨W4.heap.size, j, none⟩ = some u := fun j u hu => (cell_of_row n5 j).trans (by rw [← Array.getElem?_toList]; exact hu)
    have HROW := Lib.hid hrow
    have HLL : Hid ((secsM sl (pre.map (·.1))).length ≤ 20) := Lib.hid (by rw [secsM_len]; omega)
    have hS8l : (cells S).toList.length = 128 := by rw [Array.length_toList, cells_size, HS8.out]
    have HS8T := Lib.hid hS8l
    have HLE : Hid (w.heap.size ≤ (W4.alloc (.cells (cells S) 41)).heap.size) := Lib.hid (by have := HS4.out; have := HSZ.out; simp; omega)
    clear hld n5 hrow nS2 hS8l
    have HSZ4 : Hid (w.heap.size ≤ W4.heap.size) := Lib.hid (by have := HS4.out; have := HSZ.out; omega)
    have HQ5 := Lib.hid (HQ4.out.alloc (.cells (cells S) 41))
    have HP5 := Lib.hid (HP4.out.alloc (.cells (cells S) 41))
    go_wp2_with (first
      | (refine wpList_load_sector rfl _ rfl W3.heap.size 0 S rfl HS8.out HLD.out ?_)
      | (refine wpList_slice_sector rfl _ rfl S rfl HS8.out ?_)
      | (at_builtin; refine wpList_append_row_at rfl _ _ _ rfl w.heap.size 41 _ 128 128 Try.underlying36 sec_info rfl (by decide) v _ rfl HO5.out W4.heap.size 1 (cells S).toList rfl HS8T.out HROW.out (fun u hu => cells_onecell hu) (by have := HLL.out; omega) (by have := HLL.out; unfold maxLen; omega) HLE.out ?_; intro v5 w5 o5 g5 _; have BA := Boxed.appended HV4.out (by decide) HR4.out.2 HSZ4.out (Nat.le_refl _) o5.2 g5; have cb := BA.1.cell; have fb := BA.1.frozen; have hrd := o5.reads; obtain ⟨n5, hn5⟩ : ∃ n, (secsM sl (pre.map (·.1)) ++ [(cells S).toList]).length = n := ⟨_, rfl⟩; rw [hn5] at hrd; have HN5 := Lib.hid hn5; have NB := Lib.hid BA.2; have HQ6 := Lib.hid ((HQ5.out.kept g5 (HQ5.out.not_row (by decide) HO5.out.2)).other (B' := w.heap.size) (by omega) v5); have HP6 := Lib.hid ((HP5.out.kept g5 (HP5.out.not_row (by decide) HO5.out.2)).other (B' := w.heap.size) (by omega) v5); clear BA hn5 o5 g5; obtain ⟨a5, c5, rfl, -, -⟩ := hrd))
    refine HKK.out _ _ ?_
    have e1 : secsM sl ((pre ++ [x]).map (·.1)) = secsM sl (pre.map (·.1)) ++ [(cells S).toList] := by
      unfold secsM
      rw [List.map_append, List.map_append]
      simp only [List.map_cons, List.map_nil, HXK.out, HSM.out]
    have e2 : (pre ++ [x]).length = n5 := by rw [← HN5.out, List.length_append, List.length_append, secsM_len]; rfl
    refine ⟨HK4.out.trans (NB.out.2.2.1.from _), ⟨HQ6.out.trans HQ1.out.symm, HP6.out.trans HQ2.out.symm⟩, ⟨_, NB.out.1, ?_⟩, HB4.out.trans NB.out.2.2.2, HQ6.out, HP6.out⟩
    rw [e1, e2]
    have h9 := NB.out.2.1
    rw [HN5.out] at h9
    exact h9
  case done =>
    rintro Dn ys W2 hDn hys ⟨⟨v, hv, hr⟩, hB, hq, hp⟩ hK
    have hvc := hv.cell
    clear hv hq hp
    gi_wp2
    refine ⟨by simp, .inl ⟨_, _, rfl, run_takeDeferred hK, ?_⟩⟩
    have hg := grownBy_putObj' W2 Dn (.deferred none)
    have hrow : ∀ r, some Dn = some r → ∃ o : Obj, W2.heap[r]? = some o ∧ o.isCells = false := fun r e => by cases e; exact ⟨_, hK, rfl⟩
    have hl : ys.length = tens sl.length := by rw [← List.length_map (f := (·.1)), hys, List.length_range]
    rw [hl, hys] at hr
    refine ⟨v, (results_tmp (fn := Try.f13) (t := 2) rfl _ _ _).trans rfl, ⟨v, rfl, hr.kept hg ?_, hB.trans (belowK_b (w := w) (Nat.le_refl _) W2 Dn _ _ (by omega) hK rfl rfl)⟩⟩
    right
    intro e
    rcases hr.2 with ⟨rfl, _⟩ | ⟨g', cap, cur, rfl, _, hg', _⟩
    · cases e
    · obtain rfl : g' = Dn := by simpa [Value.ownBlock] using e
      rw [hK] at hg'
      cases hg'
  case stop =>
    rintro Dn c pre W2 hDn _ hf
    exact hf.elim
end Go.Proofs.Ytgakidimipipeaa

namespace Go.Proofs.Ytgakidimipipeaa
open Go.RowKit Go.Sort
set_option linter.unusedVariables false
set_option linter.unusedSimpArgs false
set_option maxRecDepth 100000

theorem fldsSlot {l : List FldD} (h : IsFSlot l) : ∀ x ∈ l, FldOk x := by
  obtain ⟨z0, z1, z2, z3, rfl, k0, k1, k2, k3⟩ := h
  intro x hx
  simp only [fldSlot, List.mem_cons, List.not_mem_nil, or_false] at hx
  rcases hx with rfl | rfl | rfl | rfl
  · exact ⟨by dsimp only; omega, by dsimp only; omega, k0⟩
  · exact ⟨by dsimp only; omega, by dsimp only; omega, (by unfold I64; dsimp only; omega)⟩
  · exact ⟨by dsimp only; omega, by dsimp only; omega, k2⟩
  · exact ⟨by dsimp only; omega, by dsimp only; omega, k3⟩
theorem fldsSlot_flat {L : List (List FldD)} (h : ∀ x ∈ L, IsFSlot x) : ∀ x ∈ L.flatten, FldOk x := by
  intro x hx
  obtain ⟨l, hl, hx⟩ := List.mem_flatten.1 hx
  exact fldsSlot (h l hl) x hx
theorem flenSlot {L : List (List FldD)} (h : ∀ x ∈ L, IsFSlot x) : L.flatten.length = L.length * 4 := by
  induction L with
  | nil => rfl
  | cons x L ih =>
    rw [List.flatten_cons, List.length_append, isFSlot_length (h x (by simp)), ih fun y hy => h y (by simp [hy]), List.length_cons, Nat.succ_mul]
    omega
noncomputable def okSlot (L : List (List FldD)) : Bool := decide ((writeSlot L).2 = 0)
theorem writeSlot_no {L : List (List FldD)} (h : upSlot L = false) : writeSlot L = (noughts, 1) := if_pos (.inl h)
theorem writeSlot_up {L : List (List FldD)} (hL : ∀ x ∈ L, IsFSlot x) (h : upSlot L = true) : (writeSlot L).1 = sealedL 4 (fieldsP L.flatten) ∧ okSlot L = okB (fieldsP L.flatten) := by
  have hk := okFs_iff (fldsSlot_flat hL)
  by_cases hr : roomU L.flatten
  · obtain ⟨h1, h2⟩ := wr_room hr
    have e : writeSlot L = (sealL 4 (wrB L.flatten), 0) := if_neg (by rw [h, h1]; simp)
    unfold okSlot
    rw [e, h2]
    refine ⟨?_, ?_⟩
    · show _ = if okFs _ then _ else _
      rw [if_pos (hk.2 hr), lowsF_is (fldsSlot_flat hL) hr]
    · show decide ((0 : Int) = 0) = decide (okFs _)
      rw [decide_eq_true (hk.2 hr)]
      rfl
  · have h1 := wr_bad hr
    have e : writeSlot L = (noughts, 1) := if_pos (.inr h1)
    unfold okSlot
    rw [e]
    refine ⟨?_, ?_⟩
    · show _ = if okFs _ then _ else _
      rw [if_neg (fun h => hr (hk.1 h))]
    · show decide ((1 : Int) = 0) = decide (okFs _)
      rw [decide_eq_false (fun h => hr (hk.1 h))]
      rfl
set_option maxHeartbeats 3200000 in
theorem rwriteSlots_is {w : World} (L : List (List FldD)) (hL : ∀ x ∈ L, IsFSlot x) (a : Option Addr) (cap : Nat) (hr : ReadsR w a 4 (L.map rowV)) (hl20 : L.length ≤ 20) :
    Calls Try.prog 54 #[.slice a L.length cap] w fun e w' => e = .returned (.tuple #[.agg (cells (writeSlot L).1), .bool (okSlot L)]) ∧ Below w.heap.size w w' := by
  have hz := zero_full
  have hbld := build_full
  have b1 := below_box w (.cells (cells noughts) 40)
  have n1 := heap_alloc_new w (.cells (cells noughts) 40)
  obtain ⟨w1, hw1⟩ : ∃ w1, w.alloc (.cells (cells noughts) 40) = w1 := ⟨_, rfl⟩
  have hs1 : w1.heap.size = w.heap.size + 1 := by rw [← hw1]; simp
  rw [hw1] at b1 n1
  have HB1 := Lib.hid b1
  have HR := Lib.hid hr
  have HL := Lib.hid hL
  obtain ⟨n, hn⟩ : ∃ n, L.length = n := ⟨_, rfl⟩
  have HN := Lib.hid hn
  rw [hn] at hl20 ⊢
  clear b1 hr hL hn
  go_enter Try.func54, Try.ntmps54
  go_wp2_with fail
  go_loopw [4, 5] (fun v i wr => ∃ k : Nat, k ≤ n ∧ i = .int .i64 k ∧ Hid (∀ x ∈ L.take k, maySlot x = true) ∧ Hid (OwnsR' w1.heap.size wr 172 2 v ((fieldsP (L.take k).flatten).map fieldV)) ∧ Hid (Below w1.heap.size w1 wr)) (fun _ i _ => n - (intOf i).toNat)
  case atStart => exact ⟨0, Nat.zero_le _, rfl, Lib.hid (by simp), Lib.hid (OwnsR'.nil _ _ _ _), Lib.hid (Below.refl _ _)⟩
  case round =>
    obtain ⟨k, hk, rfl, HA, HO, HB⟩ := hrel
    have n1r := (HB.out.block w.heap.size (by omega)).trans n1
    have HBW : Hid (Below w.heap.size w _) := Lib.hid (HB1.out.trans (HB.out.mono HB1.out.size))
    by_cases hlt : k < n
    · obtain ⟨x, hx⟩ : ∃ x, L[k]? = some x := ⟨_, List.getElem?_eq_getElem (by rw [HN.out]; exact hlt)⟩
      have hxi := HL.out x (List.mem_of_getElem? hx)
      have HXI := Lib.hid hxi
      obtain ⟨z0, z1, z2, z3, rfl, k0, k1, k2, k3⟩ := hxi
      obtain ⟨b, off, rfl, hb, hc⟩ := (HR.out.below HBW.out).row (show (L.map rowV)[k]? = some (rowV (fldSlot z0 z1 z2 z3)) by rw [List.getElem?_map, hx]; rfl)
      rename_i wr _
      have hcell : ∀ (i : Nat) (u : Value), (rowV (fldSlot z0 z1 z2 z3))[i]? = some u → wr.cell? ⟨b, off + k * 4 + i, none⟩ = some u := fun i u hi => by
        have h1 := hc i u hi
        rwa [← Nat.add_assoc] at h1
      have c_0 : wr.cell? ⟨b, off + k * 4, none⟩ = some (.int .i64 z0) := hcell 0 _ rfl
      have c_1 : wr.cell? ⟨b, off + k * 4 + 1, none⟩ = some (.int .u32 z1) := hcell 1 _ rfl
      have c_2 : wr.cell? ⟨b, off + k * 4 + 2, none⟩ = some (.int .i64 z2) := hcell 2 _ rfl
      have c_3 : wr.cell? ⟨b, off + k * 4 + 3, none⟩ = some (.int .i64 z3) := hcell 3 _ rfl
      have hx0 : (0 : Int) ≤ (k : Int) := by omega
      have hx1 : (k : Int) < (n : Int) := by omega
      have hw_1 : IntKind.i64.wrap z1 = z1 := IntWalk.i64_in _ (by omega)
      have HX := Lib.hid hx
      clear hc hcell hx hb
      by_cases hmy : 0 ≤ z3 ∧ z3 ≤ 2
      · obtain ⟨hmy1, hmy2⟩ := hmy
        have HMY : Hid (maySlot (fldSlot z0 z1 z2 z3) = true) := Lib.hid (decide_eq_true ⟨hmy1, hmy2⟩)
        have hd0 : decide (z3 < 0) = false := decide_eq_false (by omega)
        have hd1 : decide (2 < z3) = false := decide_eq_false (by omega)
        have hOb := (HO.out.alloc (.cells #[.int .i64 z0, .int .u32 z1, .int .i64 z2, .int .i64 z3] 27)).alloc (.cells #[.int .i64 4, .int .i64 z0, .int .i64 4, .int .i64 z1, .int .i64 2, .int .i64 z2, .int .i64 1, .int .i64 z3] 172)
        have HOB := Lib.hid hOb
        have hbelow : Below w1.heap.size w1 ((wr.alloc (.cells #[.int .i64 z0, .int .u32 z1, .int .i64 z2, .int .i64 z3] 27)).alloc (.cells #[.int .i64 4, .int .i64 z0, .int .i64 4, .int .i64 z1, .int .i64 2, .int .i64 z2, .int .i64 1, .int .i64 z3] 172)) := (HB.out.alloc HB.out.size _).alloc (by have := HB.out.size; simp; omega) _
        have HBB := Lib.hid hbelow
        have hnews : ReadsR ((wr.alloc (.cells #[.int .i64 z0, .int .u32 z1, .int .i64 z2, .int .i64 z3] 27)).alloc (.cells #[.int .i64 4, .int .i64 z0, .int .i64 4, .int .i64 z1, .int .i64 2, .int .i64 z2, .int .i64 1, .int .i64 z3] 172)) (some ⟨(wr.alloc (.cells #[.int .i64 z0, .int .u32 z1, .int .i64 z2, .int .i64 z3] 27)).heap.size, 0, none⟩) 2 [[.int .i64 4, .int .i64 z0], [.int .i64 4, .int .i64 z1], [.int .i64 2, .int .i64 z2], [.int .i64 1, .int .i64 z3]] := readsR_new _ _ (by intro p hp; simp only [List.mem_cons, List.not_mem_nil, or_false] at hp; rcases hp with rfl | rfl | rfl | rfl <;> rfl) rfl
        have HNEWS := Lib.hid hnews
        have hsz2 : (wr.alloc (.cells #[.int .i64 z0, .int .u32 z1, .int .i64 z2, .int .i64 z3] 27)).heap.size = wr.heap.size + 1 := by simp
        rw [hsz2] at HNEWS
        have HLEN : Hid (((fieldsP (L.take k).flatten).map fieldV).length = k * 4) := by
          show _ = _
          rw [List.length_map, fieldsP_length, flenSlot (fun x hx => HL.out x (List.mem_of_mem_take hx)), List.length_take, HN.out, Nat.min_eq_left (by omega)]
        clear hOb hbelow hnews hsz2 hmy1 hmy2
        go_wp2_with (at_builtin; refine wpList_append_rows' rfl _ _ _ rfl w1.heap.size 172 _ 2 16 Try.underlying170 info_field rfl (by decide) _ _ rfl HOB.out _ _ [[.int .i64 4, .int .i64 z0], [.int .i64 4, .int .i64 z1], [.int .i64 2, .int .i64 z2], [.int .i64 1, .int .i64 z3]] rfl HNEWS.out (fieldV_one [(4, z0), (4, z1), (2, z2), (1, z3)]) (by rw [HLEN.out]; simp; omega) (by rw [HLEN.out]; unfold maxLen; simp; omega) HBB.out.size ?_; intro v4 w4 o4 g4; have B4 := Lib.hid (HOB.out.grown HBB.out HBB.out.size g4); have O4 := Lib.hid o4; clear o4 g4)
        go_roundw
        case rel =>
          refine ⟨k + 1, by omega, by go_num, Lib.hid fun x hx => ?_, ?_, B4⟩
          · rw [List.take_add_one, HX.out] at hx
            rcases List.mem_append.1 hx with hx | hx
            · exact HA.out x hx
            · obtain rfl : x = fldSlot z0 z1 z2 z3 := by simpa using hx
              exact HMY.out
          · show OwnsR' _ _ _ _ _ _
            have e : (L.take (k + 1)).flatten = (L.take k).flatten ++ fldSlot z0 z1 z2 z3 := by rw [List.take_add_one, HX.out, List.flatten_append]; simp only [Option.toList_some, List.flatten_cons, List.flatten_nil, List.append_nil]
            rw [e, fieldsP_append, List.map_append]
            exact O4.out
        case measure => simp [intOf]; omega
      · have HMY : Hid (upSlot L = false) := by
          show _ = _
          unfold upSlot
          rw [List.all_eq_false.2 ⟨_, List.mem_of_getElem? HX.out, by show ¬ decide (0 ≤ z3 ∧ z3 ≤ 2) = true; rw [decide_eq_false hmy]; decide⟩, Bool.and_false]
        have HF := Lib.hid (writeSlot_no HMY.out)
        have HOK : Hid (okSlot L = false) := by show _ = _; unfold okSlot; rw [HF.out]; rfl
        have hbx := below_box wr (.cells #[.int .i64 z0, .int .u32 z1, .int .i64 z2, .int .i64 z3] 27)
        have n1x := (hbx.block w.heap.size (by have := HB.out.size; omega)).trans n1r
        have HBX : Hid (Below w.heap.size w (wr.alloc (.cells #[.int .i64 z0, .int .u32 z1, .int .i64 z2, .int .i64 z3] 27))) := Lib.hid (below_next HBW.out hbx)
        have hd9 := setRow_heap _ w.heap.size _ (cells noughts) _ _ n1x
        have hb9 := below_setRow (g := w.heap.size) HBX.out (Nat.le_refl _) (cells noughts)
        clear hbx
        by_cases h0 : z3 < 0
        · have hd0 : decide (z3 < 0) = true := decide_eq_true h0
          clear hmy h0
          go_wp2_with (refine wpList_store_full rfl _ _ rfl w.heap.size noughts rfl rfl rfl _ _ n1x rfl ?_)
          refine bodyPost_ret (results_full_tmp rfl _ _ w.heap.size noughts _ _ rfl hd9 rfl) rfl ?_
          exact ⟨by rw [HF.out, HOK.out]; rfl, hb9⟩
        · have hd0 : decide (z3 < 0) = false := decide_eq_false h0
          have hd1 : decide (2 < z3) = true := decide_eq_true (by omega)
          clear hmy h0
          go_wp2_with (refine wpList_store_full rfl _ _ rfl w.heap.size noughts rfl rfl rfl _ _ n1x rfl ?_)
          refine bodyPost_ret (results_full_tmp rfl _ _ w.heap.size noughts _ _ rfl hd9 rfl) rfl ?_
          exact ⟨by rw [HF.out, HOK.out]; rfl, hb9⟩
    · obtain rfl : k = n := by omega
      have hall : ∀ x ∈ L, maySlot x = true := by
        have h := HA.out
        rw [List.take_of_length_le (by rw [HN.out]; exact Nat.le_refl _)] at h
        exact h
      have hO := HO.out
      rw [List.take_of_length_le (by rw [HN.out]; exact Nat.le_refl _)] at hO
      obtain ⟨a4, c4, rfl, hr4, hl4, hc4⟩ := hO.reads
      have hlen4 : ((fieldsP L.flatten).map fieldV).length = k * 4 := by rw [List.length_map, fieldsP_length, flenSlot HL.out, HN.out]
      by_cases hm : k ≤ 10
      · have hmI : ¬ ((10 : Int) < (k : Int)) := by omega
        have hup : upSlot L = true := by unfold upSlot; rw [HN.out, decide_eq_true hm, Bool.true_and]; exact List.all_eq_true.2 hall
        obtain ⟨e1, e2⟩ := writeSlot_up HL.out hup
        have HE := Lib.hid (And.intro e1 e2)
        have hlow : (lowsF (fieldsP L.flatten)).length = k * 11 := by rw [lowsF_len, widths_flat (fun x hx => isFSlot_widths (HL.out x hx)), HN.out]
        have HSE := Lib.hid (rsealed_is 4 (by decide) (by decide) (fieldsP L.flatten) (fieldsP_ok (fldsSlot_flat HL.out)) (by rw [hlow]; omega) a4 _ c4 _ (readsF_of hr4) (by rw [fieldsP_length, flenSlot HL.out, HN.out]; omega))
        have hsl := writeSlot_length HL.out
        rw [e1] at hsl
        rw [hlen4]
        have hlenP : (fieldsP L.flatten).length = k * 4 := by rw [fieldsP_length, flenSlot HL.out, HN.out]
        rw [hlenP] at HSE
        clear e1 e2 hlow hall hup hO hr4 hl4 hc4 hlen4 hlenP
        go_wp2_with fail
        refine HSE.out.mono ?_
        rintro e w5 ⟨rfl, b5⟩
        have n25 := (b5.block w.heap.size (by have := HB.out.size; omega)).trans n1r
        have HB5 := Lib.hid (below_next HBW.out b5)
        obtain ⟨sl, hsle⟩ : ∃ x, sealedL 4 (fieldsP L.flatten) = x := ⟨_, rfl⟩
        rw [hsle] at hsl HE ⊢
        have hd9 := setRow_heap w5 w.heap.size _ (cells sl) _ _ n25
        have hb9 := below_setRow (g := w.heap.size) HB5.out (Nat.le_refl _) (cells sl)
        clear b5 hsle n1r
        go_wp2_with (refine wpList_store_full rfl _ _ rfl w.heap.size sl rfl rfl hsl _ _ n25 rfl ?_)
        refine bodyPost_ret (results_full_tmp rfl _ _ w.heap.size sl _ _ rfl hd9 hsl) rfl ?_
        exact ⟨by rw [HE.out.1, HE.out.2]; rfl, hb9⟩
      · have hmI : ((10 : Int) < (k : Int)) := by omega
        have hup : upSlot L = false := by unfold upSlot; rw [HN.out, decide_eq_false hm, Bool.false_and]
        have HF := Lib.hid (writeSlot_no hup)
        have HOK : Hid (okSlot L = false) := by show _ = _; unfold okSlot; rw [HF.out]; rfl
        have hd9 := setRow_heap _ w.heap.size _ (cells noughts) _ _ n1r
        have hb9 := below_setRow (g := w.heap.size) HBW.out (Nat.le_refl _) (cells noughts)
        clear hall hup hO hr4 hl4 hc4 hlen4
        go_wp2_with (refine wpList_store_full rfl _ _ rfl w.heap.size noughts rfl rfl rfl _ _ n1r rfl ?_)
        refine bodyPost_ret (results_full_tmp rfl _ _ w.heap.size noughts _ _ rfl hd9 rfl) rfl ?_
        exact ⟨by rw [HF.out, HOK.out]; rfl, hb9⟩
end Go.Proofs.Ytgakidimipipeaa

namespace Go.Proofs.Ytgakidimipipeaa
open Go.ChangeShapes Go.WideShapes Go.ChangeAt Go.RowKit
set_option linter.unusedVariables false
set_option maxRecDepth 100000

/-- The slice's elements are these numbers. -/
def ReadsI (w : World) (a : Option Addr) (len : Nat) (l : List Int) : Prop :=
  l.length = len ∧ (l = [] ∨ ∃ b off, a = some ⟨b, off, none⟩ ∧ b < w.heap.size ∧ ∀ i, i < len → w.cell? ⟨b, off + i, none⟩ = some (.int .i64 (l[i]?.getD 0)))
theorem readsI_of_cells {w : World} {x : Addr} {zs : List Int} {len : Nat} (hl : len ≤ zs.length)
    (hc : ∀ i, i < zs.length → w.cell? (x.add i) = some (.int .i64 (zs.getD i 0))) : ReadsI w (some x) len (zs.take len) := by
  refine ⟨by simp; omega, ?_⟩
  by_cases h0 : len = 0
  · left; simp [h0]
  · obtain ⟨b, off, spot⟩ := x
    have hc0 := hc 0 (by omega)
    have hspot : spot = none := by simpa [Addr.add] using World.cell?_spot hc0
    subst hspot
    refine .inr ⟨b, off, rfl, World.block_lt_of_cell? _ _ hc0, fun i hi => ?_⟩
    have hadd : (⟨b, off, none⟩ : Addr).add i = ⟨b, off + i, none⟩ := by unfold Addr.add; split <;> simp_all
    have h1 := hc i (by omega)
    rw [hadd] at h1
    rw [h1, List.getElem?_take, if_pos hi, List.getD_eq_getElem?_getD]
theorem bytesI : Try.prog.bytesOf 3 = 8 := by kernel_rfl
theorem open_nums {H : Type} {enc : TypeId × Value → H} {W : World} {base : Nat} {v : Value} {d : DataW H} {ps : List MemPlace}
    (hok : Value.okWide Try.prog W .any base 45 v) (h : DataW.Trod enc Try.prog W 0 (fun _ => true) true 45 v d ps) (hw : (d.weights Try.prog 45).all (· ≤ reachBytes) = true) :
    ∃ a len cap l, v = .slice a len cap ∧ ReadsI W a len l ∧ len ≤ cap ∧ cap ≤ 140737488351232 ∧ ∀ x ∈ l, (Lit.int .i64 x).wf = true := by
  obtain ⟨a0, len0, cap0, rfl⟩ := okWide_slice Try.underlying45 hok
  obtain ⟨fuel, hf⟩ := h
  rcases open_ints Try.underlying45 Try.underlying3 (by kernel_rfl) hf with ⟨hcs, _⟩ | ⟨x, l, c, zs, hcs, _, hl, hm, hz, hx, hcell, hwz⟩
  · simp [Value.cells] at hcs
    obtain ⟨rfl, rfl, rfl⟩ := hcs
    exact ⟨none, 0, 0, [], rfl, ⟨rfl, .inl rfl⟩, by omega, by omega, by intro y hy; simp at hy⟩
  · simp [Value.cells] at hcs
    obtain ⟨rfl, rfl, rfl⟩ := hcs
    simp only [if_true] at hz
    obtain ⟨rfl, _⟩ := Prod.mk.inj hx
    have hcap : cap0 ≤ 140737488351232 := by
      have h0 : (zs.length * 8 ≤ reachBytes) := by
        have := List.all_eq_true.1 hw (((lits (H := H) .i64 (zs.take len0)).length + (lits (H := H) .i64 (zs.drop len0)).length) * Try.prog.bytesOf 3) (by simp [DataW.weights, Try.underlying45])
        rw [bytesI, lits_length, lits_length] at this
        simp only [List.length_take, List.length_drop, decide_eq_true_eq] at this
        omega
      simp only [reachBytes] at h0
      omega
    exact ⟨_, _, _, _, rfl, readsI_of_cells (by omega) hcell, hl, hcap, fun y hy => hwz y (List.mem_of_mem_take hy)⟩
end Go.Proofs.Ytgakidimipipeaa

namespace Go.Proofs.Ytgakidimipipeaa
open Go.RowKit Go.Sort
set_option linter.unusedVariables false
set_option linter.unusedSimpArgs false
set_option maxRecDepth 100000

def numsV (l : List Int) : List Value := l.map fun z => .int .i64 z
theorem numsV_one (l : List Int) : OneCells (numsV l) := by
  intro u hu
  obtain ⟨x, _, rfl⟩ := List.mem_map.1 hu
  rfl
theorem numsV_append (l m : List Int) : numsV (l ++ m) = numsV l ++ numsV m := by unfold numsV; rw [List.map_append]
theorem numsV_length (l : List Int) : (numsV l).length = l.length := by unfold numsV; rw [List.length_map]
theorem numsV_get {l : List Int} {i : Nat} {x : Int} (h : l[i]? = some x) : (numsV l)[i]? = some (.int .i64 x) := by unfold numsV; rw [List.getElem?_map, h]; rfl
def zsOf (l : List FldD) : List Int := l.map (·.z)
theorem zsOf_append (l m : List FldD) : zsOf (l ++ m) = zsOf l ++ zsOf m := by unfold zsOf; rw [List.map_append]
theorem zsOf_length (l : List FldD) : (zsOf l).length = l.length := by unfold zsOf; rw [List.length_map]
theorem stO_at : ∀ (l : List FldD) (b : List Nat) (i : Nat) (x : FldD), l[i]? = some x → widths (l.take i) + x.width ≤ b.length → (stO (.rd b) l)[i]? = some ⟨x.kind, x.width, ((le ((b.drop (widths (l.take i))).take x.width) : Nat) : Int)⟩
  | [], b, i, x, h, _ => by simp at h
  | y :: l, b, 0, x, h, hl => by
    simp only [List.getElem?_cons_zero, Option.some.injEq] at h
    subst h
    have hl' : 0 + y.width ≤ b.length := hl
    rw [stO_rd_cons (by omega)]
    show some _ = some _
    have e : widths ((y :: l).take 0) = 0 := rfl
    rw [e, List.drop_zero]
  | y :: l, b, i + 1, x, h, hl => by
    have hl' : y.width + widths (l.take i) + x.width ≤ b.length := hl
    rw [stO_rd_cons (by omega), List.getElem?_cons_succ, stO_at l (b.drop y.width) i x (by simpa using h) (by simp; omega), List.drop_drop]
    rfl
theorem runS_whole (z : List FldD) (hw : ∀ x ∈ z, x.width ≤ 8) {b : List Nat} (hb : Bytes b) : ∀ m, m * widths z ≤ b.length → runS z [] (.rd b) m = .rd (b.drop (m * widths z))
  | 0, _ => by show PS.rd b = _; rw [Nat.zero_mul, List.drop_zero]
  | m + 1, h => by
    rw [Nat.succ_mul] at h
    show stS (runS z [] (.rd b) m) (itemAt z [] m) = _
    rw [runS_whole z hw hb m (by omega), itemAt_nil, (rd_whole z (b.drop (m * widths z)) (hb.drop _) hw (by simp; omega)).1, List.drop_drop, Nat.succ_mul]
/-- What the document reads: numbers, if there are just so many whole rounds of them. -/
def openedOk (k : Nat) (z : List FldD) (s : List Nat) : Bool := openB s && decide (kindL s = k) && decide ((bodyL s).length % widths z = 0)
def openedL (k : Nat) (z : List FldD) (s : List Nat) : List Int := if openedOk k z s = true then zsOf (itemsR z (bodyL s)).flatten else []
theorem stO_pos {z : List FldD} (hw : ∀ x ∈ z, x.width ≤ 4) {b : List Nat} (hb : Bytes b) : ∀ x ∈ stO (.rd b) z, 0 ≤ x.z ∧ x.z < 4294967296 := by
  intro x hx
  obtain ⟨m, hm, rfl⟩ := List.mem_iff_getElem.1 hx
  have hm' : m < z.length := by rw [stO_length] at hm; exact hm
  obtain ⟨v, h1, h2⟩ := stO_rd z b hb hw m z[m] (List.getElem?_eq_getElem hm')
  rw [List.getElem?_eq_getElem hm] at h1
  rw [Option.some.inj h1]
  exact h2
theorem info_i64 : (Try.prog.info? 2).map (fun i => (i.zero, i.size, i.bytes)) = some (some (.int .i64 0), 1, 8) := by kernel_rfl
theorem widths_take_snoc {z : List FldD} {i : Nat} {x : FldD} (h : z[i]? = some x) : widths (z.take (i + 1)) = widths (z.take i) + x.width := by
  rw [List.take_add_one, h, widths_append]
  rfl
def OpenedPost (w : World) (k : Nat) (z : List FldD) (s : List Nat) (e : Ending) (w' : World) : Prop := Below w.heap.size w w' ∧ ∃ v, e = .returned (.tuple #[v, .bool (openedOk k z s)]) ∧ OwnsV w.heap.size w' 2 v (numsV (openedL k z s))
end Go.Proofs.Ytgakidimipipeaa
