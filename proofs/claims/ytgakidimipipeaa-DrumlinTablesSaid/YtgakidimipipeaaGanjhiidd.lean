/- The document's ReadSlots: what it reads of any sector is what the program reads. Its numbers. Append of one row, at a step of a region that draws its order. The document's ReadSlots: what it reads of any sector is what the program reads. Rows of Slots that came in, opened. Codec's own ReadSlots. The law of Slots: what it needs of what is written and read. -/
import Derived.Test.YtgakidimipipeaaGkngglbdk
import Derived.Test.YtgakidimipipeaaGnnhdfgbn
import Derived.Deep.RegionHeld3
import Derived.Test.YtgakidimipipeaaGbndcdfka
import Derived.Deep.RegionLaw
import Derived.Test.YtgakidimipipeaaOpenRec
import Derived.Test.YtgakidimipipeaaGocfcichb
import Derived.Test.YtgakidimipipeaaGodngmhjg
namespace Go.Proofs.Ytgakidimipipeaa
open Go.RowKit Go.Sort
set_option linter.unusedVariables false
set_option linter.unusedSimpArgs false
set_option maxRecDepth 100000

theorem zeroSlot_w8 : ∀ x ∈ zeroSlot, x.width ≤ 8 := fun x hx => by have := zeroSlot_width x hx; omega
theorem countSlot_is {s : List Nat} (hb : Bytes s) (ho : openedOk 4 zeroSlot s = true) : ∃ c, c * 11 = (bodyL s).length ∧ (itemsR zeroSlot (bodyL s)).length = c ∧ lowsU (itemsR zeroSlot (bodyL s)).flatten = bodyL s ∧ roomU (itemsR zeroSlot (bodyL s)).flatten ∧ bO s = bodyL s ∧ sealL 4 (bodyL s) = s ∧ (bodyL s).length ≤ 120 := by
  unfold openedOk at ho
  simp only [Bool.and_eq_true, decide_eq_true_eq] at ho
  obtain ⟨⟨h1, h2⟩, h3⟩ := ho
  have hbo : bO s = bodyL s := if_pos h1
  rw [zeroSlot_widths] at h3
  obtain ⟨c, hc⟩ := Nat.dvd_of_mod_eq_zero h3
  have hc' : c * 11 = (bodyL s).length := by rw [hc, Nat.mul_comm]
  obtain ⟨i1, i2, i3⟩ := items_whole zeroSlot_cons zeroSlot_w8 (bodyL_byt hb) c (by rw [zeroSlot_widths]; exact hc')
  unfold openB at h1
  obtain ⟨_, h5, h6⟩ := of_decide_eq_true h1
  rw [h2] at h6
  refine ⟨c, hc', ?_, i2, i3, hbo, h6, h5⟩
  unfold itemsR
  rw [runD_length, i1]
theorem readSlot_yes {s : List Nat} (hb : Bytes s) (ho : openedOk 4 zeroSlot s = true) : readSlot s = if upSlot (itemsR zeroSlot (bodyL s)) = true then (itemsR zeroSlot (bodyL s), 0) else ([], 21) := by
  obtain ⟨c, _, _, i2, i3, hbo, h6, _⟩ := countSlot_is hb ho
  obtain ⟨w1, w2⟩ := wr_room i3
  unfold readSlot
  rw [hbo]
  by_cases hu : upSlot (itemsR zeroSlot (bodyL s)) = true
  · have e : writeSlot (itemsR zeroSlot (bodyL s)) = (sealL 4 (wrB (itemsR zeroSlot (bodyL s)).flatten), 0) := if_neg (by rw [hu, w1]; simp)
    rw [e, w2, i2, if_pos ⟨rfl, h6⟩, if_pos hu]
  · have hu' : upSlot (itemsR zeroSlot (bodyL s)) = false := by simpa using hu
    rw [writeSlot_no hu', if_neg (by rintro ⟨h, _⟩; exact absurd h (by decide)), if_neg hu]
theorem readSlot_no {s : List Nat} (hs : s.length = 128) (hb : Bytes s) (ho : openedOk 4 zeroSlot s = false) : readSlot s = ([], 21) := by
  unfold readSlot
  by_cases hc : (writeSlot (itemsR zeroSlot (bO s))).2 = 0 ∧ (writeSlot (itemsR zeroSlot (bO s))).1 = s
  · obtain ⟨h1, h2⟩ := hc
    exfalso
    have hL := itemsSlot_is (bO_bytes hb)
    obtain ⟨L, hLe⟩ : ∃ L, itemsR zeroSlot (bO s) = L := ⟨_, rfl⟩
    rw [hLe] at h1 h2 hL
    by_cases hn : upSlot L = false ∨ wrF L.flatten = true
    · have e : writeSlot L = (noughts, 1) := if_pos hn
      rw [e] at h1
      exact absurd h1 (by decide)
    · have e : writeSlot L = (sealL 4 (wrB L.flatten), 0) := if_neg hn
      rw [e] at h2
      have hu : upSlot L = true := by cases h : upSlot L; exact absurd (.inl h) hn; rfl
      have hl := upSlot_len hu
      have hw := wrSlot_len hL
      have h120 : (wrB L.flatten).length ≤ 120 := by rw [hw]; omega
      have h2' : sealL 4 (wrB L.flatten) = s := h2
      have : openedOk 4 zeroSlot s = true := by
        unfold openedOk
        rw [← h2', openB_sealL (by decide) h120, sealL_kind, sealL_body _ _ h120, hw, zeroSlot_widths, Nat.mul_mod_left]
        rfl
      rw [this] at ho
      exact absurd ho (by decide)
  · rw [if_neg hc]
theorem numsSlot_at {L : List (List FldD)} (hL : ∀ x ∈ L, IsFSlot x) {j : Nat} {x : List FldD} (hx : L[j]? = some x) (i : Nat) (hi : i < 4) : (numsV (zsOf L.flatten))[j * 4 + i]? = (numsV (zsOf x))[i]? := by
  have e : numsV (zsOf L.flatten) = flatR (L.map fun x => numsV (zsOf x)) := by
    clear hx hL
    induction L with
    | nil => rfl
    | cons y L ih =>
      rw [List.flatten_cons, zsOf_append, numsV_append, ih]
      rfl
  rw [e]
  refine flatR_get ?_ (by rw [List.getElem?_map, hx]; rfl) hi
  intro p hp
  obtain ⟨y, hy, rfl⟩ := List.mem_map.1 hp
  show (numsV (zsOf y)).length = _
  rw [numsV_length, zsOf_length, isFSlot_length (hL y hy)]
theorem numsSlot_len {L : List (List FldD)} (hL : ∀ x ∈ L, IsFSlot x) : (numsV (zsOf L.flatten)).length = L.length * 4 := by rw [numsV_length, zsOf_length, flenSlot hL]
theorem itemsSlot_pos {b : List Nat} (hb : Bytes b) : ∀ x ∈ itemsR zeroSlot b, ∃ z0 z1 z2 z3 : Int, x = fldSlot z0 z1 z2 z3 ∧ (0 ≤ z0 ∧ z0 < 4294967296) ∧ (0 ≤ z1 ∧ z1 < 4294967296) ∧ (0 ≤ z2 ∧ z2 < 4294967296) ∧ (0 ≤ z3 ∧ z3 < 4294967296) := by
  intro x hx
  obtain ⟨b', rfl, hb'⟩ := runD_mem _ _ _ x hx
  have hpos := stO_pos zeroSlot_width (hb' hb)
  obtain ⟨z0, z1, z2, z3, h, _⟩ := outSlot_is (hb' hb)
  rw [h] at hpos
  refine ⟨z0, z1, z2, z3, h, hpos (⟨.i64, 4, z0⟩) (by simp [fldSlot]), hpos (⟨.u32, 4, z1⟩) (by simp [fldSlot]), hpos (⟨.i64, 2, z2⟩) (by simp [fldSlot]), hpos (⟨.i64, 1, z3⟩) (by simp [fldSlot])⟩
theorem widthsR_Slot : zeroSlot.map (fun x => (x.width : Int)) = [4, 4, 2, 1] := rfl
theorem rowSlot_len (L : List (List FldD)) (hL : ∀ x ∈ L, IsFSlot x) : ∀ p ∈ L.map rowV, p.length = 4 := by
  intro p hp
  obtain ⟨y, hy, rfl⟩ := List.mem_map.1 hp
  unfold rowV
  rw [List.length_map, isFSlot_length (hL y hy)]
def RReadsSlotPost (w : World) (r : List (List FldD) × Int) (e : Ending) (w' : World) : Prop := Below w.heap.size w w' ∧ ∃ a c, e = .returned (.tuple #[.slice a r.1.length c, .bool (decide (r.2 = 0))]) ∧ OwnsR' w.heap.size w' 27 4 (.slice a r.1.length c) (r.1.map rowV)
theorem infoRSlot : (Try.prog.info? 27).map (fun i => (i.zero, i.size, i.bytes)) = some (some (.agg #[.int .i64 0, .int .u32 0, .int .i64 0, .int .i64 0]), 4, 32) := by kernel_rfl
end Go.Proofs.Ytgakidimipipeaa

namespace Go.Proofs.Ytgakidimipipeaa
open Go.RowKit
set_option linter.unusedVariables false
set_option maxRecDepth 100000

theorem step_append_row_at {P : Program} {w : World} {ops : Array Oper} {o : Oper} {a : Act} {K : Act → World → Prop} {Q : Exit → Act → World → Prop} {E : Prop} (hgd : Region.wanted o (yielded ops a.tmps) = true) (s x : Operand) (t : TypeId)
    (ho : o.op = .call { callee := .builtin .append, args := #[s, x], argTypes := #[t, t] })
    (B : Nat) (e : TypeId) (z : Value) (k bytes : Nat) (ht : P.underlying t = some (.slice e)) (hinfo : (P.info? e).map (fun i => (i.zero, i.size, i.bytes)) = some (some z, k, bytes)) (hzs : z.cells.size = k) (hk : 0 < k)
    (v : Value) (l : List (List Value)) (hs : a.eval s = v) (hown : OwnsR' B w e k v l) (g c : Nat) (r : List Value) (hx : a.eval x = .slice (some ⟨g, 0, none⟩) 1 c) (hrl : r.length = k) (hr : ∀ j u, r[j]? = some u → w.cell? ⟨g, j, none⟩ = some u) (hone : ∀ u ∈ r, u.oneCell' = true)
    (hb : (l.length + 1) * bytes ≤ 140737488355328) (hb2 : l.length + 1 ≤ maxLen) (hB : B ≤ w.heap.size)
    (h : ∀ v' w', OwnsR' B w' e k v' (l ++ [r]) → w.grownBy w' v.ownBlock → K (a.put o.dst v') w') : if Region.wanted o (yielded ops a.tmps) = true then Oper.wp P o a w K Q else E := by
  rw [if_pos hgd]
  obtain ⟨i0, hi, hz0, hz1, hz2⟩ := info_parts hinfo
  refine wp_append_own w s x t ho B e i0 z k bytes ht hi hz0 hz1 hz2 hzs hk v l.length (flatR l) hs hown.2 ⟨g, 0, none⟩ 1 c r hx (by rw [hrl, Nat.one_mul]) ?_ hone hb2 hb hB ?_
  · intro j u hu
    have hadd : (⟨g, 0, none⟩ : Addr).add j = ⟨g, j, none⟩ := by unfold Addr.add; split <;> simp_all
    rw [hadd]
    exact hr j u hu
  · intro v' w' h1 h2 _
    refine h v' w' ⟨?_, ?_⟩ h2
    · intro p hp
      rcases List.mem_append.1 hp with hp | hp
      · exact hown.1 p hp
      · obtain rfl : p = r := by simpa using hp
        exact hrl
    · rw [List.length_append, flatR_append]
      have e : flatR [r] = r := by simp [flatR]
      rw [e]
      exact h1
end Go.Proofs.Ytgakidimipipeaa

namespace Go.Proofs.Ytgakidimipipeaa
open Go.RowKit Go.Sort
set_option linter.unusedVariables false
set_option linter.unusedSimpArgs false
set_option maxRecDepth 100000

end Go.Proofs.Ytgakidimipipeaa

namespace Go.Proofs.Ytgakidimipipeaa
open Go.ChangeShapes Go.WideShapes Go.RowKit Go.Deep
set_option linter.unusedVariables false
set_option linter.unusedSimpArgs false
set_option maxRecDepth 100000

theorem rSlot_cells : Try.prog.cellsOf 27 = 4 := by kernel_rfl
theorem rSlot_of_trod {H : Type} {enc : TypeId × Value → H} {W : World} {m : Nat} {cs : List Value} {y : DataW H × List MemPlace} (hl : cs.length = 4)
    (h : DataW.trod enc Try.prog W 0 (fun _ => true) true m 27 cs = some y) : ∃ u : {l : List FldD // l.length = 4}, IsFSlot u.1 ∧ rowV u.1 = cs := by
  match cs, hl with
  | [v0, v1, v2, v3], _ =>
    obtain ⟨ys, n', _, _, _, hyl, hf⟩ := DataW.trod_struct Try.underlying27 h
    have get : ∀ j, j < 4 → ∃ u, ys[j]? = some u := fun j hj => ⟨ys[j]'(by rw [hyl]; exact hj), List.getElem?_eq_getElem _⟩
    obtain ⟨y0, e0⟩ := get 0 (by decide)
    have f0 := (hf 0 _ rfl).trans e0
    replace f0 : DataW.trod enc Try.prog W 0 (fun _ => true) true n' 3 [v0] = some y0 := f0
    obtain ⟨z0, gz0, _, wf0⟩ := DataW.trod_int Try.underlying3 f0
    have hv0 : v0 = .int .i64 z0 := by simpa using gz0
    obtain ⟨y1, e1⟩ := get 1 (by decide)
    have f1 := (hf 1 _ rfl).trans e1
    replace f1 : DataW.trod enc Try.prog W 0 (fun _ => true) true n' 25 [v1] = some y1 := f1
    obtain ⟨z1, gz1, _, wf1⟩ := DataW.trod_int Try.underlying25 f1
    have hv1 : v1 = .int .u32 z1 := by simpa using gz1
    obtain ⟨y2, e2⟩ := get 2 (by decide)
    have f2 := (hf 2 _ rfl).trans e2
    replace f2 : DataW.trod enc Try.prog W 0 (fun _ => true) true n' 3 [v2] = some y2 := f2
    obtain ⟨z2, gz2, _, wf2⟩ := DataW.trod_int Try.underlying3 f2
    have hv2 : v2 = .int .i64 z2 := by simpa using gz2
    obtain ⟨y3, e3⟩ := get 3 (by decide)
    have f3 := (hf 3 _ rfl).trans e3
    replace f3 : DataW.trod enc Try.prog W 0 (fun _ => true) true n' 3 [v3] = some y3 := f3
    obtain ⟨z3, gz3, _, wf3⟩ := DataW.trod_int Try.underlying3 f3
    have hv3 : v3 = .int .i64 z3 := by simpa using gz3
    exact ⟨⟨fldSlot z0 z1 z2 z3, rfl⟩, ⟨z0, z1, z2, z3, rfl, i64_of_wf wf0, u32_of_wf' wf1, i64_of_wf wf2, i64_of_wf wf3⟩, by simp [fldSlot, rowV, hv0, hv1, hv2, hv3]⟩
theorem openSlots {H : Type} {enc : TypeId × Value → H} {W : World} {base : Nat} {v : Value} {d : DataW H} {pl : List MemPlace}
    (hok : Value.okWide Try.prog W .any base 22 v) (h : DataW.Trod enc Try.prog W 0 (fun _ => true) true 22 v d pl) :
    ∃ a cap, ∃ L : List (List FldD), v = .slice a L.length cap ∧ ReadsR W a 4 (L.map rowV) ∧ L.length ≤ cap ∧ ∀ x ∈ L, IsFSlot x := by
  obtain ⟨a, cap, us, rfl, hr, hc, hu⟩ := open_rows (fun x : {l : List FldD // l.length = 4} => rowV x.1) (fun x => IsFSlot x.1) ⟨zeroSlot, rfl⟩ 4 (by decide) (fun x => by unfold rowV; rw [List.length_map]; exact x.2) Try.underlying22 rSlot_cells (fun hl ht => rSlot_of_trod hl ht) hok h
  refine ⟨a, cap, us.map (·.1), by rw [List.length_map], ?_, by rw [List.length_map]; exact hc, ?_⟩
  · rw [List.map_map]
    exact hr
  · intro x hx
    obtain ⟨u, hu1, rfl⟩ := List.mem_map.1 hx
    exact hu u hu1
end Go.Proofs.Ytgakidimipipeaa

namespace Go.Proofs.Ytgakidimipipeaa
open Go.RowKit Go.Sort
set_option linter.unusedVariables false
set_option linter.unusedSimpArgs false
set_option maxRecDepth 100000

set_option maxHeartbeats 3200000 in
theorem readSlots_is {w : World} (s : List Nat) (hs : s.length = 128) (hb : Bytes s) :
    Calls Try.prog 56 #[.agg (cells s)] w (ReadsPost 28 4 w (readSlot s)) := by
  have b1 := below_box w (.cells (cells s) 41)
  have n1 := heap_alloc_new w (.cells (cells s) 41)
  obtain ⟨w1, hw1⟩ : ∃ w1, w.alloc (.cells (cells s) 41) = w1 := ⟨_, rfl⟩
  have hs1 : w1.heap.size = w.heap.size + 1 := by rw [← hw1]; simp
  rw [hw1] at b1 n1
  have HR : Hid (w1.rangeAt w.heap.size 0 (s.map byteV)) := Lib.hid (by have := row_range n1; simpa [cells] using this)
  have hgl : w.heap.size < w1.heap.size := by omega
  have hu := row_sector
  have hsz : (Try.prog.info? 41).map (·.size) = some (s.map byteV).length := by rw [size_sector, List.length_map, hs]
  have hl8 : (s.map byteV).length = 128 := by rw [List.length_map, hs]
  have hone := byteV_oneCell s
  have HB := Lib.hid b1
  have HREAD := Lib.hid (fun (W : World) (hW : Below w1.heap.size w1 W) (vu vr : Value) (hu : IsUpSlot W vu) (hv : IsRestSlot W vr) => (readSlot_is s hs hb vu vr hu hv).mono fun e w' k => And.intro (hW.trans (k.1.mono hW.size)) (readsPost_up (below_next b1 hW) k))
  obtain ⟨⟨rl, re⟩, hre⟩ : ∃ r, readSlot s = r := ⟨_, rfl⟩
  obtain ⟨rn, hrn⟩ : ∃ n, rl.length = n := ⟨_, rfl⟩
  have HRN := Lib.hid hrn
  rw [hre] at HREAD ⊢
  have H1 := (Below.refl w1.heap.size w1).drew
  clear b1 n1 hre hrn
  go_enter Try.func56, Try.ntmps56
  go_wp2_with fail
  go_region_held3 (fun W => W.rangeAt w.heap.size 0 (s.map byteV) ∧ Below w1.heap.size w1 W) (first | exact ⟨range_bel H1 hgl HR.out, H1⟩ | exact ⟨range_bel k5 hgl HR.out, k5⟩ | exact ⟨range_bel k6 hgl HR.out, k6⟩ | exact ⟨range_bel k7 hgl HR.out, k7⟩)
    ((first
      | (go_at_call 99; refine (uptoSlot_is _).mono ?_; rintro e w5 ⟨vu, rfl, hU, b5⟩; first | (have k5 := k6.trans (b5.mono k6.size); have hUr := hU; have hVr := hV.below b5) | (have k5 := H1.trans (b5.mono H1.size)); obtain ⟨u1, u2, rfl, _, _⟩ := id hU)
      | (go_at_call 101; refine (rest0Slot_is _).mono ?_; rintro e w6 ⟨vr, rfl, hV, b6⟩; first | (have k6 := k5.trans (b6.mono k5.size); have hUr := hU.below b6; have hVr := hV) | (have k6 := H1.trans (b6.mono H1.size)); obtain ⟨u3, rfl, _⟩ := id hV)
      | (go_at_call 104; refine (HREAD.out _ (by first | exact k6 | exact k5) _ _ hUr hVr).mono ?_; rintro e w7 ⟨b7, q7⟩; have k7 := b7; have HQ := Lib.hid q7; obtain ⟨_, a7, c7, rfl, o7⟩ := id q7; clear q7 o7; rw [show ((rl, re) : List (List FldD) × Int).1.length = rn from HRN.out])))
  all_goals
    go_wp2
    go_ret2
    have hq := HQ.out
    rw [show ((rl, re) : List (List FldD) × Int).1.length = rn from HRN.out] at hq
    exact hq
end Go.Proofs.Ytgakidimipipeaa

namespace Go.Proofs.Ytgakidimipipeaa
open Go.RowKit Go.Sort
set_option linter.unusedVariables false
set_option linter.unusedSimpArgs false
set_option maxRecDepth 100000

theorem writeSlot_bytes {L : List (List FldD)} (hL : ∀ x ∈ L, IsFSlot x) : Bytes (writeSlot L).1 := by
  cases hu : upSlot L with
  | false => rw [writeSlot_no hu]; exact noughts_byt
  | true =>
    rw [(writeSlot_up hL hu).1]
    unfold sealedL
    split
    · have hl := upSlot_len hu
      refine sealL_bytes (by decide) (lowsF_byt _) ?_
      rw [lowsF_len, widths_flat (fun x hx => isFSlot_widths (hL x hx))]
      omega
    · exact noughts_byt
theorem writeSlot_err (L : List (List FldD)) : ((writeSlot L).2 = 0 ∧ okSlot L = true) ∨ ((writeSlot L).2 = 1 ∧ okSlot L = false) := by
  have h : (writeSlot L).2 = 0 ∨ (writeSlot L).2 = 1 := by unfold writeSlot; split <;> simp
  unfold okSlot
  rcases h with h | h
  · exact .inl ⟨h, by rw [h]; rfl⟩
  · exact .inr ⟨h, by rw [h]; rfl⟩
theorem readSlot_err (s : List Nat) : (readSlot s).2 = 0 ∨ (readSlot s).2 = 21 := by unfold readSlot; split <;> simp
theorem readSlot_rows {s : List Nat} (hb : Bytes s) : ∀ x ∈ (readSlot s).1, ∃ z0 z1 z2 z3 : Int, x = fldSlot z0 z1 z2 z3 := by
  intro x hx
  unfold readSlot at hx
  split at hx
  · obtain ⟨z0, z1, z2, z3, rfl, _⟩ := itemsSlot_is (bO_bytes hb) x hx
    exact ⟨z0, z1, z2, z3, rfl⟩
  · simp at hx
theorem readSlot_len (s : List Nat) : (readSlot s).1.length ≤ 10 := by
  unfold readSlot
  split
  · rename_i h
    have h1 := h.1
    unfold writeSlot at h1
    split at h1
    · simp at h1
    · rename_i h2
      have hu : upSlot (itemsR zeroSlot (bO s)) = true := by cases hu : upSlot (itemsR zeroSlot (bO s)); exact absurd (.inl hu) h2; rfl
      exact upSlot_len hu
  · simp
end Go.Proofs.Ytgakidimipipeaa
