/- ImapGives' walk. -/
import Derived.Test.YtpmfkamagdifgaaMp
import Derived.Test.YtpmfkamagdifgaaGivesMath
import Derived.Test.YtpmfkamagdifgaaRel10
import Derived.Test.YtpmfkamagdifgaaOpenRec
import Derived.WalkLawsBesides
import Derived.Maps.OwnOps
namespace Go.Proofs.Ytpmfkamagdifgaa
open Go.ChangeShapes Go.WideShapes Go.ChangeAt Go.RowKit Go.Sort
set_option linter.unusedVariables false
set_option linter.unusedSimpArgs false
set_option maxRecDepth 100000

theorem and1_bound (s : Int) : 0 ≤ bits .and .i64 s 1 ∧ bits .and .i64 s 1 ≤ 1 := by
  unfold bits
  simp only [BitVec.toNat_and]
  have h : (BitVec.ofInt IntKind.i64.bits 1).toNat = 1 := rfl
  rw [h]
  have h2 : (BitVec.ofInt IntKind.i64.bits s).toNat &&& 1 ≤ 1 := Nat.and_le_right
  generalize (BitVec.ofInt IntKind.i64.bits s).toNat &&& 1 = q at *
  rw [IntWalk.i64_in _ (by omega)]
  omega
def actB (kd num nn s0 s1 s2 s3 : Int) : Obj := .cells #[.int .i64 kd, .int .i64 num, .int .i64 nn, .int .i64 s0, .int .u32 s1, .int .i64 s2, .int .i64 s3] 95
theorem clamp20 (n : Int) : ∃ m : Nat, max 1 (min n 20) = (m : Int) ∧ 1 ≤ m ∧ m ≤ 20 := ⟨(max 1 (min n 20)).toNat, by omega, by omega, by omega⟩
theorem zeroS_free (m : Nat) : (∀ k, usedAt (List.replicate m zeroS) k = false) ∧ (∀ k, versAt (List.replicate m zeroS) k = 0) ∧ (usedI (List.replicate m zeroS)).length = 0 := by
  refine ⟨fun k => ?_, fun k => ?_, ?_⟩
  · unfold usedAt
    rw [List.getElem?_replicate]
    by_cases h : (k - 1).toNat < m
    · rw [if_pos h]
      show (decide (1 ≤ k) && !((0 : Int) == 0)) = false
      simp
    · rw [if_neg h]
      simp
  · unfold versAt
    rw [List.getElem?_replicate]
    split
    · split
      · rename_i h
        split at h
        · injection h with h; rw [← h]; rfl
        · cases h
      · rfl
    · rfl
  · rw [usedI_count, List.countP_replicate]
    rfl
set_option maxHeartbeats 4000000 in
theorem imapGives_walk (n : Int) (a : Option Addr) (cap : Nat) (l : List Act10D) (w : World) (hr : ReadsR w a 7 (rowsOf act10V l)) (hfit : ∀ u ∈ l, Act10Fits u) (hcap : l.length ≤ cap) :
    Calls Try.prog 8 #[.int .i64 n, .slice a l.length cap] w fun e w' => e = .returned (.bool true) ∧ Below w.heap.size w w' := by
  have hmk := @run_makeMap Try.prog
  obtain ⟨m, hm, hm1, hm20⟩ := clamp20 n
  obtain ⟨L, hL⟩ : ∃ L, l.length = L := ⟨_, rfl⟩
  have HLN := Lib.hid hL
  rw [hL] at hcap ⊢
  have HR := Lib.hid hr
  have HF := Lib.hid hfit
  have hcl : clampM (m : Int) = m := by unfold clampM; omega
  have HCL := Lib.hid hcl
  clear hr hfit hcl hL
  go_enter Try.func8, Try.ntmps8
  go_wp2_with fail
  refine (awake10_true w).mono ?_
  rintro e w1 ⟨rfl, b1⟩
  have B1 := Lib.hid b1
  have HS1 := Lib.hid b1.size
  clear b1
  go_wp2_with fail
  refine (mnew_is (m : Int) w1 m HCL.out).mono ?_
  rintro e w2 ⟨g, gs, rfl, t2, b2⟩
  have B2 : Hid (Below w.heap.size w w2) := below_next B1.out b2
  have HS2 := Lib.hid b2.size
  obtain ⟨w3, hw3⟩ : ∃ x, w2.alloc (.map #[] 0) = x := ⟨_, rfl⟩
  obtain ⟨w4, hw4⟩ : ∃ x, w3.alloc (.map #[] 0) = x := ⟨_, rfl⟩
  obtain ⟨bh, hbh⟩ : ∃ x, w2.heap.size = x := ⟨_, rfl⟩
  obtain ⟨bl, hbl⟩ : ∃ x, w3.heap.size = x := ⟨_, rfl⟩
  have hs32 : w3.heap.size = w2.heap.size + 1 := by rw [← hw3]; simp
  have hbl2 : bl = bh + 1 := by rw [← hbl, hs32, hbh]
  have k1 : Below w2.heap.size w2 w3 := by rw [← hw3]; exact (Below.refl _ _).alloc (Nat.le_refl _) _
  have k2 : Below w3.heap.size w3 w4 := by rw [← hw4]; exact (Below.refl _ _).alloc (Nat.le_refl _) _
  have T4 : Hid (IsMap w1.heap.size w4 g gs (List.replicate m zeroS)) := Lib.hid ((t2.below k1).below k2)
  have B4 : Hid (Below w.heap.size w w4) := Lib.hid (below_next (below_next B2.out k1) k2)
  have hle2 : w.heap.size ≤ w2.heap.size := by have h1 := HS1.out; have h2 := HS2.out; omega
  have HH4 : Hid (IsHeld w.heap.size w4 bh 0 (usedI (List.replicate m zeroS)).length (usedAt (List.replicate m zeroS))) := by
    show IsHeld _ _ _ _ _ _
    rw [← hbh, (zeroS_free m).2.2]
    refine IsHeld.below ?_ k2
    rw [← hw3]
    exact (held_new w2 hle2).same rfl fun k _ => ((zeroS_free m).1 k).symm
  have HL4 : Hid (IsLast w.heap.size w4 bl 0 (versAt (List.replicate m zeroS))) := by
    show IsLast _ _ _ _ _
    rw [← hbl, ← hw4]
    exact (last_new w3 (by omega)).same fun k _ => ((zeroS_free m).2.1 k).symm
  have hbhl : bh ≠ bl := by omega
  have HBHL := Lib.hid hbhl
  clear t2 b2 B2 k1 k2 hbl2 hs32 hle2 hbhl HCL B1
  go_wp2
  clear hw3 hw4 hbh hbl hmk
  go_loopw [8] (fun i wr => ∃ (k : Nat) (sl : List SlotD), k ≤ L ∧ k ≤ 60 ∧ i = .int .i64 k ∧ Hid (sl.length = m) ∧ Hid (IsMap w1.heap.size wr g gs sl) ∧ Hid (IsHeld w.heap.size wr bh k (usedI sl).length (usedAt sl)) ∧ Hid (IsLast w.heap.size wr bl k (versAt sl)) ∧ Hid (Below w.heap.size w wr)) (fun i _ => 60 - (intOf i).toNat)
  case atStart => exact ⟨0, List.replicate m zeroS, Nat.zero_le _, by decide, rfl, List.length_replicate, T4, HH4, HL4, B4⟩
  case round =>
    obtain ⟨k, sl, hk1, hk2, rfl, HLE, HT, HH, HLA, HB⟩ := hrel
    clear T4 HH4 HL4 B4
    by_cases hlt : k < L
    · by_cases h60 : k < 60
      · obtain ⟨⟨kd, num, nn, s0, s1, s2, s3⟩, hx⟩ : ∃ x, l[k]? = some x := ⟨_, List.getElem?_eq_getElem (by rw [HLN.out]; exact hlt)⟩
        obtain ⟨p1, p2, p3, _⟩ := HF.out _ (List.mem_of_getElem? hx)
        dsimp only at p1 p2 p3
        obtain ⟨b, off, rfl, hb, hc⟩ := (HR.out.below HB.out).row (rowsOf_get hx)
        have c0 : wr.cell? ⟨b, off + k * 7, none⟩ = some (.int .i64 kd) := hc 0 _ rfl
        have c1 : wr.cell? ⟨b, off + k * 7 + 1, none⟩ = some (.int .i64 num) := by have := hc 1 _ rfl; rwa [← Nat.add_assoc] at this
        have c2 : wr.cell? ⟨b, off + k * 7 + 2, none⟩ = some (.int .i64 nn) := by have := hc 2 _ rfl; rwa [← Nat.add_assoc] at this
        have c3 : wr.cell? ⟨b, off + k * 7 + 3, none⟩ = some (.int .i64 s0) := by have := hc 3 _ rfl; rwa [← Nat.add_assoc] at this
        have c4 : wr.cell? ⟨b, off + k * 7 + 4, none⟩ = some (.int .u32 s1) := by have := hc 4 _ rfl; rwa [← Nat.add_assoc] at this
        have c5 : wr.cell? ⟨b, off + k * 7 + 5, none⟩ = some (.int .i64 s2) := by have := hc 5 _ rfl; rwa [← Nat.add_assoc] at this
        have c6 : wr.cell? ⟨b, off + k * 7 + 6, none⟩ = some (.int .i64 s3) := by have := hc 6 _ rfl; rwa [← Nat.add_assoc] at this
        have hx1 : (0 : Int) ≤ (k : Int) := by omega
        have hx2 : (k : Int) < (L : Int) := by omega
        have hx3 : (k : Int) < 60 := by omega
        obtain ⟨wb, hwb⟩ : ∃ x, wr.alloc (.cells #[.int .i64 kd, .int .i64 num, .int .i64 nn, .int .i64 s0, .int .u32 s1, .int .i64 s2, .int .i64 s3] 95) = x := ⟨_, rfl⟩
        have kb : Below wr.heap.size wr wb := by rw [← hwb]; exact (Below.refl _ _).alloc (Nat.le_refl _) _
        obtain ⟨gb, hgb⟩ : ∃ x, wr.heap.size = x := ⟨_, rfl⟩
        have hgbn : wb.heap[gb]? = some (.cells #[.int .i64 kd, .int .i64 num, .int .i64 nn, .int .i64 s0, .int .u32 s1, .int .i64 s2, .int .i64 s3] 95 (0, 0)) := by rw [← hwb, ← hgb]; exact heap_alloc_new wr _
        have HGB := Lib.hid hgbn
        have TB : Hid (IsMap w1.heap.size wb g gs sl) := Lib.hid (HT.out.below kb)
        have AB : Hid (IsHeld w.heap.size wb bh k (usedI sl).length (usedAt sl)) := Lib.hid (HH.out.below kb)
        have LB : Hid (IsLast w.heap.size wb bl k (versAt sl)) := Lib.hid (HLA.out.below kb)
        have BB : Hid (Below w.heap.size w wb) := Lib.hid (below_next HB.out kb)
        have hglt : gs < gb := by rw [← hgb]; exact (map_lt HT.out).2
        have hhlt : bh < gb := by rw [← hgb]; exact HH.out.lt
        have hllt : bl < gb := by rw [← hgb]; exact HLA.out.lt
        have d0 : wb.cell? ⟨gb, 0, none⟩ = some (.int .i64 kd) := by unfold World.cell?; rw [hgbn]; rfl
        have d1 : wb.cell? ⟨gb, 1, none⟩ = some (.int .i64 num) := by unfold World.cell?; rw [hgbn]; rfl
        have d2 : wb.cell? ⟨gb, 2, none⟩ = some (.int .i64 nn) := by unfold World.cell?; rw [hgbn]; rfl
        have HX := Lib.hid hx
        clear hc hx hb hgbn kb HR HF hlt h60
        by_cases hkd1 : kd = 1
        · subst hkd1
          by_cases hin : 1 ≤ num ∧ num ≤ (m : Int)
          · obtain ⟨i, rfl⟩ : ∃ i : Nat, num = (i : Int) + 1 := ⟨(num - 1).toNat, by omega⟩
            have hi : i < sl.length := by have := HLE.out; omega
            obtain ⟨s, hs⟩ : ∃ s, sl[i]? = some s := ⟨_, List.getElem?_eq_getElem hi⟩
            have HI := Lib.hid hi
            have HU := Lib.hid hs
            have hp := usedAt_of hs
            have HN : Hid (I64 ((i : Int) + 1)) := p2
            clear hi hs hin
            cases hk : s.kind == 0 with
            | true =>
              rw [hk] at hp
              have hp : usedAt sl ((i : Int) + 1) = false := hp
              have HK := Lib.hid hk
              clear hk
              go_wp2_with fail
              refine (mrel_free TB.out i s HU.out HK.out).mono ?_
              rintro e w5 ⟨rfl, b5⟩
              have T5 := Lib.hid (TB.out.below b5)
              have A5 := Lib.hid (AB.out.below b5)
              have L5 := Lib.hid (LB.out.below b5)
              have B5 : Hid (Below w.heap.size w w5) := Lib.hid (below_next BB.out b5)
              have d15 : w5.cell? ⟨gb, 1, none⟩ = some (.int .i64 ((i : Int) + 1)) := by unfold World.cell?; rw [b5.block gb (Array.getElem?_eq_some_iff.1 HGB.out).1, HGB.out]; rfl
              clear b5
              clear d0 d1 d2 c0 c1 c2 c3 c4 c5 c6 hwb hgb
              go_wp2_with (first
                | (at_lookup; refine wpList_held_look rfl _ _ rfl A5.out rfl _ HN.out rfl ?_; intro c)
                | (at_delete; refine wpList_held_del rfl _ _ rfl A5.out rfl _ HN.out rfl ?_; intro w6 a6 g6; have A6 := Lib.hid a6; clear a6; have G6 := Lib.hid g6; clear g6))
              go_roundw
              case rel =>
                have hne := A5.out.ne2 T5.out
                have t6 := T5.out.keptM G6.out hne.1 hne.2
                have l6 := (L5.out.kept G6.out (by simpa using HBHL.out.symm)).mono (Nat.le_succ k)
                have b6 := B5.out.grown G6.out B5.out.size (by intro j hj; obtain rfl := Option.some.inj hj; exact A5.out.1)
                have a6 := A6.out.mono (Nat.le_succ k)
                refine ⟨k + 1, sl, by omega, by omega, by go_num, HLE, t6, a6.same ?_ ?_, l6, b6⟩
                · rw [hp]; simp
                · intro j _
                  by_cases e : j = ((i : Int) + 1)
                  · subst e; rw [hp]; simp
                  · simp [e]
              case measure => simp [intOf]; omega
            | false =>
              rw [hk] at hp
              have hp : usedAt sl ((i : Int) + 1) = true := hp
              have HK := Lib.hid hk
              clear hk
              go_wp2_with fail
              refine (mrel_yes TB.out i s HU.out HK.out).mono ?_
              rintro e w5 ⟨rfl, t5, g5⟩
              have T5 := Lib.hid t5
              have A5 := Lib.hid (AB.out.kept g5 (AB.out.ne TB.out))
              have L5 := Lib.hid (LB.out.kept g5 (LB.out.ne TB.out))
              have B5 : Hid (Below w.heap.size w w5) := Lib.hid (BB.out.grown g5 BB.out.size (by intro j hj; obtain rfl := Option.some.inj hj; exact Nat.le_trans HS1.out (TB.out.2.1.lt gs rfl).1))
              have d15 : w5.cell? ⟨gb, 1, none⟩ = some (.int .i64 ((i : Int) + 1)) := by unfold World.cell?; rw [g5.block gb (Array.getElem?_eq_some_iff.1 HGB.out).1 (by intro e; have := Option.some.inj e; omega), HGB.out]; rfl
              clear t5 g5
              clear d0 d1 d2 c0 c1 c2 c3 c4 c5 c6 hwb hgb
              go_wp2_with (first
                | (at_lookup; refine wpList_held_look rfl _ _ rfl A5.out rfl _ HN.out rfl ?_; intro c)
                | (at_delete; refine wpList_held_del rfl _ _ rfl A5.out rfl _ HN.out rfl ?_; intro w6 a6 g6; have A6 := Lib.hid a6; clear a6; have G6 := Lib.hid g6; clear g6))
              go_roundw
              case rel =>
                have hne := A5.out.ne2 T5.out
                have t6 := T5.out.keptM G6.out hne.1 hne.2
                have l6 := (L5.out.kept G6.out (by simpa using HBHL.out.symm)).mono (Nat.le_succ k)
                have b6 := B5.out.grown G6.out B5.out.size (by intro j hj; obtain rfl := Option.some.inj hj; exact A5.out.1)
                have a6 := A6.out.mono (Nat.le_succ k)
                refine ⟨k + 1, sl.set i ⟨0, s.version, 0, 0⟩, by omega, by omega, by go_num, by show _ = _; rw [List.length_set]; exact HLE.out, t6, a6.same ?_ ?_, l6.same ?_, b6⟩
                · have := usedI_set HU.out ⟨0, s.version, 0, 0⟩
                  rw [hp, if_pos rfl]
                  rw [show (s.kind == 0) = false from HK.out] at this
                  simp at this
                  omega
                · intro j _
                  rw [usedAt_set HI.out]
                  by_cases e : j = (i : Int) + 1
                  · subst e; simp
                  · simp [e]
                · intro j _
                  rw [versAt_set HI.out]
                  by_cases e : j = (i : Int) + 1
                  · subst e; rw [if_pos rfl]; have := versAt_of HU.out; exact this
                  · rw [if_neg e]
              case measure => simp [intOf]; omega
          · have HO : Hid (num < 1 ∨ (sl.length : Int) < num) := by show _ ∨ _; have := HLE.out; omega
            have hp : usedAt sl num = false := usedAt_out HO.out
            have HN : Hid (I64 num) := p2
            clear hin
            go_wp2_with fail
            refine (mrel_no TB.out num HO.out).mono ?_
            rintro e w5 ⟨rfl, rfl⟩
            have T5 := Lib.hid (TB.out)
            have A5 := Lib.hid (AB.out)
            have L5 := Lib.hid (LB.out)
            have B5 : Hid (Below w.heap.size w wb) := Lib.hid (BB.out)
            clear d0 d2 c0 c1 c2 c3 c4 c5 c6 hwb hgb
            go_wp2_with (first
              | (at_lookup; refine wpList_held_look rfl _ _ rfl A5.out rfl _ HN.out rfl ?_; intro c)
              | (at_delete; refine wpList_held_del rfl _ _ rfl A5.out rfl _ HN.out rfl ?_; intro w6 a6 g6; have A6 := Lib.hid a6; clear a6; have G6 := Lib.hid g6; clear g6))
            go_roundw
            case rel =>
              have hne := A5.out.ne2 T5.out
              have t6 := T5.out.keptM G6.out hne.1 hne.2
              have l6 := (L5.out.kept G6.out (by simpa using HBHL.out.symm)).mono (Nat.le_succ k)
              have b6 := B5.out.grown G6.out B5.out.size (by intro j hj; obtain rfl := Option.some.inj hj; exact A5.out.1)
              have a6 := A6.out.mono (Nat.le_succ k)
              refine ⟨k + 1, sl, by omega, by omega, by go_num, HLE, t6, a6.same ?_ ?_, l6, b6⟩
              · rw [hp]; simp
              · intro j _
                by_cases e : j = num
                · subst e; rw [hp]; simp
                · simp [e]
            case measure => simp [intOf]; omega
        · have hq := and1_bound nn
          obtain ⟨q, hqe⟩ : ∃ q, bits .and .i64 nn 1 = q := ⟨_, rfl⟩
          rw [hqe] at hq
          obtain ⟨hq0, hq1⟩ := hq
          rcases firstI_or (fun s : SlotD => s.kind == 0) sl with ⟨hf, hall⟩ | ⟨i, s, hf, hs, hfree, hbef⟩
          · have hfull := usedI_full hall
            have HFI := Lib.hid hf
            have AB' : Hid (IsHeld w.heap.size wb bh k m (usedAt sl)) := Lib.hid (AB.out.same (by rw [hfull]; exact HLE.out) fun _ _ => rfl)
            have HFU : Hid ((usedI sl).length = m) := by show _ = _; rw [hfull]; exact HLE.out
            clear hf hall hfull
            go_wp2_with fail
            refine (malloc_none TB.out HFI.out (1 + q) (by omega) (by omega)).mono ?_
            rintro e w5 ⟨rfl, b5⟩
            have T5 := Lib.hid (TB.out.below b5)
            have A5 := Lib.hid (AB'.out.below b5)
            have L5 := Lib.hid (LB.out.below b5)
            have B5 : Hid (Below w.heap.size w w5) := Lib.hid (below_next BB.out b5)
            clear b5 d0 d1 d2 c0 c1 c2 c3 c4 c5 c6 hwb hgb hqe
            go_wp2_with (at_len; refine wpList_held_len rfl _ rfl A5.out rfl ?_)
            go_roundw
            case rel => exact ⟨k + 1, sl, by omega, by omega, by go_num, HLE, T5.out, (A5.out.mono (Nat.le_succ k)).same HFU.out.symm fun _ _ => rfl, L5.out.mono (Nat.le_succ k), B5.out⟩
            case measure => simp [intOf]; omega
          · have HFI := Lib.hid hf
            have HU := Lib.hid hs
            have hil : i < sl.length := (List.getElem?_eq_some_iff.1 hs).1
            have HI := Lib.hid hil
            have him : i < m := by have := HLE.out; omega
            have hso : SlotOk s := TB.out.2.2.2.2.2 s (List.mem_of_getElem? hs)
            have hv0 := hso.2.2.1
            have hv1 := hso.2.2.2.1
            have hp : usedAt sl ((i : Int) + 1) = false := by rw [usedAt_of hs]; show (!(s.kind == 0)) = false; rw [show (s.kind == 0) = true from hfree]; rfl
            have hpv : versAt sl ((i : Int) + 1) = s.version := versAt_of hs
            have HN : Hid (I64 ((i : Int) + 1)) := by show _ ∧ _; omega
            have HBEF := Lib.hid hbef
            have HFR := Lib.hid hfree
            obtain ⟨nv, hnv⟩ : ∃ nv, nextV s.version = nv := ⟨_, rfl⟩
            have hwv : IntKind.u32.wrap (s.version + 1) = nv := by
              rw [← hnv]
              unfold nextV
              rw [IntKind.wrap_u32]
            have hnvb : 0 ≤ nv ∧ nv < 4294967296 := by rw [← hnv]; unfold nextV; omega
            have HAL := Lib.hid (malloc_yes TB.out i s HU.out HFI.out (1 + q) (by omega) (by omega))
            rw [hnv] at HAL
            have hile : (i : Int) + 1 ≤ (m : Int) := by omega
            have hi0 : decide ((i : Int) + 1 < 1) = false := decide_eq_false (by omega)
            have hi1 : decide ((m : Int) < (i : Int) + 1) = false := decide_eq_false (by omega)
            clear hf hs hil hso hbef hfree hnv
            go_wp2_with fail
            refine HAL.out.mono ?_
            rintro e w5 ⟨rfl, t5, g5⟩
            have T5 := Lib.hid t5
            have A5 := Lib.hid (AB.out.kept g5 (AB.out.ne TB.out))
            have L5 := Lib.hid (LB.out.kept g5 (LB.out.ne TB.out))
            have B5 : Hid (Below w.heap.size w w5) := Lib.hid (BB.out.grown g5 BB.out.size (by intro j hj; obtain rfl := Option.some.inj hj; exact Nat.le_trans HS1.out (TB.out.2.1.lt gs rfl).1))
            clear t5 g5 d0 d1 d2 c0 c1 c2 c3 c4 c5 c6 hwb hgb hqe
            go_wp2_with (first
              | (at_lookup; refine wpList_held_look rfl _ _ rfl A5.out rfl _ HN.out rfl ?_; intro c)
              | (at_lookup; refine wpList_last_look rfl _ _ rfl L5.out rfl _ HN.out rfl ?_))
            clear hp hpv hwv
            go_loop [18] (fun kv => ∃ j : Nat, 1 ≤ j ∧ j ≤ i + 1 ∧ kv = .int .i64 j) (fun kv => i + 1 - (intOf kv).toNat)
            case atStart => exact ⟨1, Nat.le_refl _, by omega, rfl⟩
            case round =>
              obtain ⟨j, hj1, hj2, rfl⟩ := hrel
              by_cases hj : j < i + 1
              · have hpj : usedAt sl (j : Int) = true := by
                  obtain ⟨j', rfl⟩ : ∃ j', j = j' + 1 := ⟨j - 1, by omega⟩
                  obtain ⟨t', hx⟩ : ∃ t', sl[j']? = some t' := ⟨_, List.getElem?_eq_getElem (by have := HI.out; omega)⟩
                  rw [show ((j' + 1 : Nat) : Int) = (j' : Int) + 1 by omega, usedAt_of hx]
                  have := HBEF.out j' _ (by omega) hx
                  rw [show (t'.kind == 0) = false from this]
                  rfl
                have HJ : Hid (I64 (j : Int)) := by show _ ∧ _; omega
                have hjI : (j : Int) < (i : Int) + 1 := by omega
                go_wp2_with (at_lookup; refine wpList_held_look rfl _ _ rfl A5.out rfl _ HJ.out rfl ?_; intro c2)
                go_round
                case rel => exact ⟨j + 1, by omega, by omega, by go_num⟩
                case measure => simp [intOf]; omega
              · obtain rfl : j = i + 1 := by omega
                have hjI : ¬ ((i + 1 : Nat) : Int) < (i : Int) + 1 := by omega
                go_wp2_with (first
                  | (at_mapUpdate; refine wpList_held_put rfl _ _ _ rfl A5.out rfl (by unfold maxLen; omega) _ HN.out rfl _ hnvb rfl ?_; intro w6 a6 g6; have A6 := Lib.hid a6; clear a6; have G6 := Lib.hid g6; clear g6; have L6 := Lib.hid (L5.out.kept G6.out (by simpa using HBHL.out.symm)))
                  | (at_mapUpdate; refine wpList_last_put rfl _ _ _ rfl L6.out rfl (by unfold maxLen; omega) _ HN.out rfl _ hnvb rfl ?_; intro w7 l7 g7; have L7 := Lib.hid l7; clear l7; have G7 := Lib.hid g7; clear g7))
                go_roundw
                case rel =>
                  have hne := A5.out.ne2 T5.out
                  have t6 := T5.out.keptM G6.out hne.1 hne.2
                  have hne2 := L6.out.ne2 t6
                  have t7 := t6.keptM G7.out hne2.1 hne2.2
                  have a7 := A6.out.kept G7.out (by simpa using HBHL.out)
                  have b6 := B5.out.grown G6.out B5.out.size (by intro j hj; obtain rfl := Option.some.inj hj; exact A5.out.1)
                  have b7 := b6.grown G7.out b6.size (by intro j hj; obtain rfl := Option.some.inj hj; exact L5.out.1)
                  refine ⟨k + 1, sl.set i ⟨0, nv, 0, 1 + q⟩, by omega, by omega, by go_num, by show _ = _; rw [List.length_set]; exact HLE.out, t7, a7.same ?_ ?_, L7.out.same ?_, b7⟩
                  · have := usedI_set HU.out ⟨0, nv, 0, 1 + q⟩
                    have hu : usedAt sl ((i : Int) + 1) = false := by rw [usedAt_of HU.out]; show (!(s.kind == 0)) = false; rw [show (s.kind == 0) = true from HFR.out]; rfl
                    rw [hu]
                    rw [show (s.kind == 0) = true from HFR.out, show ((1 + q : Int) == 0) = false by simp; omega] at this
                    simp at this ⊢
                    omega
                  · intro j _
                    rw [usedAt_set HI.out]
                    by_cases e : j = (i : Int) + 1
                    · rw [if_pos e]
                      have : ((1 + q : Int) == 0) = false := by simp; omega
                      simp [e, this]
                    · rw [if_neg e]; simp [e]
                  · intro j _
                    rw [versAt_set HI.out]
                case measure => simp [intOf]; omega
      · have hge : ¬ ((k : Int) < 60) := by omega
        have hkl : (k : Int) < (L : Int) := by omega
        clear h60 hlt
        go_wp2_with fail
        refine (mcount_is HT.out).mono ?_
        rintro e w5 ⟨rfl, b5⟩
        have A5 := Lib.hid (HH.out.below b5)
        have B5 := Lib.hid (below_next HB.out b5)
        clear b5
        go_wp2_with (at_len; refine wpList_held_len rfl _ rfl A5.out rfl ?_)
        go_ret
        exact ⟨rfl, B5.out⟩
    · have hge : ¬ ((k : Int) < (L : Int)) := by omega
      clear hlt
      go_wp2_with fail
      refine (mcount_is HT.out).mono ?_
      rintro e w5 ⟨rfl, b5⟩
      have A5 := Lib.hid (HH.out.below b5)
      have B5 := Lib.hid (below_next HB.out b5)
      clear b5
      go_wp2_with (at_len; refine wpList_held_len rfl _ rfl A5.out rfl ?_)
      go_ret
      exact ⟨rfl, B5.out⟩
end Go.Proofs.Ytpmfkamagdifgaa
