/- The law UsageLoads is true for every input: a table is made of all its parts, and of nothing that may not be. No condition. -/
import Derived.Test.YtnlbjpnhepdicaaLoad9n
import Derived.Test.YtnlbjpnhepdicaaOpenUse
import Derived.Test.YtnlbjpnhepdicaaRTab
import Derived.Test.YtnlbjpnhepdicaaIs9
import Derived.Test.YtnlbjpnhepdicaaAwake9
import Derived.Deep.DeepCutAuto
namespace Go.Proofs.Ytnlbjpnhepdicaa
open Go.ChangeShapes Go.WideShapes Go.ChangeAt Go.RowKit Go.Sort
set_option linter.unusedVariables false
set_option linter.unusedSimpArgs false
set_option maxRecDepth 100000

theorem ReadsR.take {w : World} {a : Option Addr} {us : List UseD} (h : ReadsR w a 3 (usesV us)) (k : Nat) : ReadsR w a 3 (usesV (us.take k)) := by
  refine ⟨uses_rows' _, ?_⟩
  rcases h.2 with h2 | ⟨b, off, e, hb, hc⟩
  · left
    have : us = [] := by unfold usesV at h2; simpa using h2
    subst this
    simp [usesV]
  · refine .inr ⟨b, off, e, hb, fun i x hi => hc i x ?_⟩
    have e2 : flatR (usesV us) = flatR (usesV (us.take k)) ++ flatR (usesV (us.drop k)) := by
      rw [← flatR_append]
      unfold usesV
      rw [← List.map_append, List.take_append_drop]
    rw [e2, List.getElem?_append_left (List.getElem?_eq_some_iff.1 hi).1]
    exact hi
theorem OwnsR'.some_of {B : Nat} {w : World} {e : TypeId} {k n c : Nat} {a : Option Addr} {l : List (List Value)} (h : OwnsR' B w e k (.slice a n c) l) (hl : 0 < l.length) : ∃ g, a = some ⟨g, 0, none⟩ := by
  rcases h.2.2 with ⟨_, h2⟩ | ⟨g, cap, cur, e1, _⟩
  · omega
  · obtain ⟨h1, _, _⟩ := Value.slice.inj e1
    exact ⟨g, h1⟩
theorem IsTab.kept {B : Nat} {w w' : World} {g gs : Nat} {room : Int} {us : List UseD} (h : IsTab B w g gs room us) {row : Option Nat} (hg : w.grownBy w' row) (hr : ∀ j, row = some j → j < B) : IsTab B w' g gs room us := by
  have hB : B ≤ gs := (h.2.1.lt gs rfl).1
  refine ⟨?_, ?_, h.2.2⟩
  · rw [hg.block g (tab_lt h).1 (fun e => by have := hr g e.symm; have := h.2.2.1; omega)]
    exact h.1
  · exact h.2.1.kept hg (.inr (by intro e; have := hr gs (by rw [← e]; rfl); omega))
theorem grown_setCell (w : World) (a : Addr) (v : Value) : w.grownBy (w.setCell a v) (some a.block) := by
  exact ⟨rfl, rfl, rfl, by simp [World.setCell], fun k hk hne => Below.heap_setCell _ _ _ _ (fun e => hne (by rw [e]))⟩
theorem ReadsR.litU {w : World} {g : Nat} (u : UseD) (e : TypeId) (hg : w.heap.size = g) : ReadsR (w.alloc (.cells #[.int .i64 u.live, .int .i64 u.state, .int .u32 u.age] e)) (some ⟨g, 0, none⟩) 3 [useV u] := by
  subst hg
  refine ⟨by intro p hp; simp at hp; subst hp; rfl, .inr ⟨w.heap.size, 0, rfl, by simp, fun i x hi => ?_⟩⟩
  rw [Nat.zero_add]
  unfold World.cell?
  rw [heap_alloc_new]
  have : flatR [useV u] = [.int .i64 u.live, .int .i64 u.state, .int .u32 u.age] := rfl
  rw [this] at hi
  simpa using hi
theorem box_kept {B : Nat} {w w9 : World} {e t1 : TypeId} {k : Nat} {v : Value} {l : List (List Value)} {x y z : Value} {o2 : Obj} (ho : OwnsR' B w e k v l) (hg : ((w.alloc (.cells #[x, y, z] t1)).alloc o2).grownBy w9 v.ownBlock) :
    w9.cell? ⟨w.heap.size, 0, none⟩ = some x ∧ w9.cell? ⟨w.heap.size, 1, none⟩ = some y ∧ w9.cell? ⟨w.heap.size, 2, none⟩ = some z := by
  have h : w9.heap[w.heap.size]? = some (.cells #[x, y, z] t1 (0, 0)) := by
    rw [hg.block w.heap.size (by simp; omega) (fun e => by have := (ho.lt w.heap.size e.symm).2; omega), Below.heap_alloc _ _ _ (by simp)]
    exact heap_alloc_new w _
  refine ⟨?_, ?_, ?_⟩ <;> (unfold World.cell?; rw [h]; rfl)
def okTo (R : Int) (n : Nat) (us : List UseD) (k : Nat) : Bool := decide (0 < n) && decide (n ≤ 200) && !((us.take k).any (badU R))
theorem okTo_succ {R : Int} {n : Nat} {us : List UseD} {k : Nat} {u : UseD} (h : us[k]? = some u) : okTo R n us (k + 1) = (okTo R n us k && !(badU R u)) := by
  unfold okTo
  rw [List.take_add_one, h, List.any_append]
  simp [Bool.and_assoc]
theorem first_bad {R : Int} : ∀ (us : List UseD), us.any (badU R) = true → ∃ (m : Nat) (x : UseD), us[m]? = some x ∧ badU R x = true ∧ ∀ (j : Nat) (u : UseD), j < m → us[j]? = some u → badU R u = false
  | [], h => by simp at h
  | u :: us, h => by
    cases hb : badU R u with
    | true => exact ⟨0, u, rfl, hb, fun j v hj => absurd hj (Nat.not_lt_zero _)⟩
    | false =>
      rw [List.any_cons, hb, Bool.false_or] at h
      obtain ⟨m, x, h1, h2, h3⟩ := first_bad us h
      refine ⟨m + 1, x, by simpa using h1, h2, fun j v hj hv => ?_⟩
      cases j with
      | zero => obtain rfl : u = v := by simpa using hv
                exact hb
      | succ j => exact h3 j v (by omega) (by simpa using hv)
theorem good_all {R : Int} {us : List UseD} (h : us.any (badU R) = false) : ∀ u ∈ us, badU R u = false := by
  intro u hu
  rw [List.any_eq_false] at h
  simpa using h u hu
set_option maxHeartbeats 4000000 in
theorem usageLoads_walk (room : Int) (a : Option Addr) (cap : Nat) (us : List UseD) (w : World) (hroom : I64 room) (hr : ReadsR w a 3 (usesV us)) (hcap : us.length ≤ cap) (hfit : ∀ u ∈ us, UseFits u) :
    Calls Try.prog 7 #[.int .i64 room, .slice a us.length cap] w fun e w' => e = .returned (.bool true) ∧ Below w.heap.size w w' := by
  have HRM := Lib.hid hroom
  have HR := Lib.hid hr
  have HFIT := Lib.hid hfit
  clear hroom hr hfit
  obtain ⟨L, hL⟩ : ∃ L, us.length = L := ⟨_, rfl⟩
  have HL := Lib.hid hL
  rw [hL] at hcap ⊢
  clear hL
  go_enter Try.func7, Try.ntmps7
  go_wp2_with fail
  refine (awake9_true w).mono ?_
  rintro e w1 ⟨rfl, b1⟩
  have B1 := Lib.hid b1
  clear b1
  go_upto_if 17 with (fail)
  go_cut [1] (fun s wx => w1 = wx ∧ ∃ n, s = .slice a n cap ∧ Hid ((us.take 210).length = n))
  case first =>
    by_cases h210 : 210 < L
    · have hx : (210 : Int) < (L : Int) := by omega
      have hy : (210 : Int) ≤ (cap : Int) := by omega
      go_wp2
      go_meet
      exact ⟨rfl, 210, rfl, by show _ = _; rw [List.length_take, HL.out]; omega⟩
    · have hx : ¬ (210 : Int) < (L : Int) := by omega
      go_wp2
      go_meet
      exact ⟨rfl, L, rfl, by show _ = _; rw [List.length_take, HL.out]; omega⟩
  case rest =>
    obtain ⟨rfl, n, rfl, HN⟩ := hcut
    have HR0 := Lib.hid (HR.out.take 210)
    have HR2 := Lib.hid ((HR.out.below B1.out).take 210)
    have HF2 := Lib.hid (fun u (hu : u ∈ us.take 210) => HFIT.out u (List.mem_of_mem_take hu))
    have hn210 : n ≤ 210 := by rw [← HN.out]; exact List.length_take_le _ _
    generalize us.take 210 = us at *
    clear HR HL HFIT hcap
    go_wp2_with fail
    refine (rnew_is 1 room w1 1 rfl).mono ?_
    rintro e w2 ⟨gr, rfl, hor, b2⟩
    obtain ⟨R, hR⟩ : ∃ R, clampI 4096 room = R := ⟨_, rfl⟩
    have HRR := Lib.hid hR
    rw [hR]
    have B2 := Lib.hid (B1.out.trans (b2.mono B1.out.size))
    have HR3 := Lib.hid (HR2.out.below b2)
    clear hR hor b2 HR2
    rw [show (List.replicate 1 zeroU).length = 1 from rfl]
    go_upto_region 7 with (fail)
    go_cut [7] (fun v wx => v = .bool (okTo R n us 0) ∧ w2.alloc (.cells #[.int .i64 R, .slice (some ⟨gr, 0, none⟩) 1 1] 59) = wx)
    case first =>
      have E0 : Hid (okTo R n us 0 = (decide (0 < n) && decide (n ≤ 200))) := by show _ = _; unfold okTo; simp
      by_cases n0 : n = 0
      · subst n0
        go_wp2
        go_meet
        exact ⟨by rw [E0.out]; rfl, rfl⟩
      · by_cases n2 : 200 < n
        · have t1 : (0 : Int) < (n : Int) := by omega
          have t2 : ¬ (n : Int) ≤ 200 := by omega
          have T3 : Hid ((decide (0 < n) && decide (n ≤ 200)) = false) := by show _ = _; simp; omega
          go_wp2
          go_meet
          exact ⟨by rw [E0.out, T3.out], rfl⟩
        · have t1 : (0 : Int) < (n : Int) := by omega
          have t2 : (n : Int) ≤ 200 := by omega
          have T3 : Hid ((decide (0 < n) && decide (n ≤ 200)) = true) := by show _ = _; simp; omega
          go_wp2
          go_meet
          exact ⟨by rw [E0.out, T3.out], rfl⟩
    case rest =>
      obtain ⟨rfl, hwc⟩ := hcut
      have b3 := below_box w2 (.cells #[.int .i64 R, .slice (some ⟨gr, 0, none⟩) 1 1] 59)
      have hn3 := heap_alloc_new w2 (.cells #[.int .i64 R, .slice (some ⟨gr, 0, none⟩) 1 1] 59)
      have hsz : wc.heap.size = w2.heap.size + 1 := by rw [← hwc]; simp
      rw [hwc] at b3 hn3
      have B3 := Lib.hid (B2.out.trans (b3.mono B2.out.size))
      have HRd := Lib.hid (HR3.out.below b3)
      obtain ⟨p6, hp6⟩ : ∃ p, w2.heap.size = p := ⟨_, rfl⟩
      have hw6 : w.heap.size ≤ p6 := by rw [← hp6]; exact B2.out.size
      rw [hp6] at hn3 hsz ⊢
      have HN3 := Lib.hid hn3
      have HSZ := Lib.hid hsz
      have HW6 := Lib.hid hw6
      have k0 : wc.cell? ⟨p6, 0, none⟩ = some (.int .i64 R) := by unfold World.cell?; rw [hn3]; rfl
      have k1 : wc.cell? ⟨p6, 1, none⟩ = some (.slice (some ⟨gr, 0, none⟩) 1 1) := by unfold World.cell?; rw [hn3]; rfl
      have HC6 := Lib.hid (fun W (hW : Below wc.heap.size wc W) => (⟨(hW.cell (p := ⟨p6, 0, none⟩) (by rw [hsz]; simp)).trans k0, (hW.cell (p := ⟨p6, 1, none⟩) (by rw [hsz]; simp)).trans k1⟩ : W.cell? ⟨p6, 0, none⟩ = some (.int .i64 R) ∧ W.cell? ⟨p6, 1, none⟩ = some (.slice (some ⟨gr, 0, none⟩) 1 1)))
      clear hwc b3 hn3 hp6 hw6 hsz k0 k1 B2 HR3
      go_wp2_with fail
      go_loopw [5, 7, 32] (fun v5 v7 i wr => ∃ k : Nat, k ≤ n ∧ i = .int .i64 k ∧ v7 = .bool (okTo R n us k) ∧ Hid (OwnsR' wc.heap.size wr 47 3 v5 (usesV (us.take k))) ∧ Hid (Below wc.heap.size wc wr)) (fun _ _ i _ => n - (intOf i).toNat)
      case atStart => exact ⟨0, Nat.zero_le _, rfl, rfl, OwnsR'.nil _ _ _ _, Below.refl _ _⟩
      case round =>
        obtain ⟨k, hk, rfl, rfl, HO, HB⟩ := hrel
        by_cases hlt : k < n
        · obtain ⟨u, hrow⟩ : ∃ r, us[k]? = some r := ⟨_, List.getElem?_eq_getElem (by rw [HN.out]; exact hlt)⟩
          obtain ⟨b, off, rfl, hb, hc⟩ := (HRd.out.below HB.out).row (usesV_get hrow)
          have d0 : wr.cell? ⟨b, off + k * 3, none⟩ = some (.int .i64 u.live) := hc 0 _ rfl
          have d1 : wr.cell? ⟨b, off + k * 3 + 1, none⟩ = some (.int .i64 u.state) := by have := hc 1 _ rfl; rwa [← Nat.add_assoc] at this
          have d2 : wr.cell? ⟨b, off + k * 3 + 2, none⟩ = some (.int .u32 u.age) := by have := hc 2 _ rfl; rwa [← Nat.add_assoc] at this
          have hx1 : (0 : Int) ≤ (k : Int) := by omega
          have hx2 : (k : Int) < (n : Int) := by omega
          have HS := Lib.hid (okTo_succ (R := R) (n := n) hrow)
          have HNext : Hid (usesV (us.take (k + 1)) = usesV (us.take k) ++ [useV u]) := by
            show _ = _
            rw [List.take_add_one, hrow]
            unfold usesV
            rw [List.map_append]
            rfl
          have HKL : Hid ((usesV (us.take k)).length ≤ 210) := by show _ ≤ _; rw [usesV_length, List.length_take]; omega
          obtain ⟨f0, f1⟩ := HC6.out wr HB.out
          obtain ⟨v, hv⟩ : ∃ v, okTo R n us k = v := ⟨_, rfl⟩
          have HV := Lib.hid hv
          rw [hv]
          clear hc hrow hb hv
          cases v with
          | false =>
            have HOK2 : Hid (okTo R n us (k + 1) = false) := by show _ = _; rw [HS.out, HV.out]; rfl
            go_wp2_with (at_builtin; refine wpList_append_rows' rfl (.tmp 36) (.tmp 44) 44 rfl wc.heap.size 47 _ 3 24 Try.underlying44 info_use rfl (by decide) _ (usesV (us.take k)) rfl ((HO.out.alloc _).alloc _) _ 1 [useV u] rfl (ReadsR.litU u _ (by simp)) (by intro p hp y hy; simp at hp; subst hp; simp [useV] at hy; rcases hy with rfl | rfl | rfl <;> rfl) (by have := HKL.out; simp only [List.length_cons, List.length_nil]; omega) (by have := HKL.out; unfold maxLen; simp only [List.length_cons, List.length_nil]; omega) ((HB.out.alloc HB.out.size _).alloc (HB.out.alloc HB.out.size _).size _).size ?_; intro v9 w9 ho9 hg9)
            go_roundw
            case rel => exact ⟨k + 1, by omega, by go_num, by rw [HOK2.out], by show OwnsR' _ _ _ _ _ _; rw [HNext.out]; exact ho9, ((HO.out.alloc (.cells #[.int .i64 u.live, .int .i64 u.state, .int .u32 u.age] 46)).alloc (.cells #[.int .i64 u.live, .int .i64 u.state, .int .u32 u.age] 47)).grown ((HB.out.alloc HB.out.size _).alloc (HB.out.alloc HB.out.size _).size _) ((HB.out.alloc HB.out.size _).alloc (HB.out.alloc HB.out.size _).size _).size hg9⟩
            case measure => simp [intOf]; omega
          | true =>
            have HOK2' : Hid (okTo R n us (k + 1) = !(badU R u)) := by show _ = _; rw [HS.out, HV.out]; rfl
            by_cases q1 : u.live < 0
            · have HOK2 : Hid (okTo R n us (k + 1) = false) := by show _ = _; rw [HOK2'.out]; simp [badU, q1]
              have q1' : ¬ (0 : Int) ≤ u.live := by omega
              go_wp2_with (at_builtin; refine wpList_append_rows' rfl (.tmp 36) (.tmp 44) 44 rfl wc.heap.size 47 _ 3 24 Try.underlying44 info_use rfl (by decide) _ (usesV (us.take k)) rfl ((HO.out.alloc _).alloc _) _ 1 [useV u] rfl (ReadsR.litU u _ (by simp)) (by intro p hp y hy; simp at hp; subst hp; simp [useV] at hy; rcases hy with rfl | rfl | rfl <;> rfl) (by have := HKL.out; simp only [List.length_cons, List.length_nil]; omega) (by have := HKL.out; unfold maxLen; simp only [List.length_cons, List.length_nil]; omega) ((HB.out.alloc HB.out.size _).alloc (HB.out.alloc HB.out.size _).size _).size ?_; intro v9 w9 ho9 hg9; obtain ⟨x0, x1, x2⟩ := box_kept HO.out hg9; have y0 := (HC6.out w9 (((HO.out.alloc (.cells #[.int .i64 u.live, .int .i64 u.state, .int .u32 u.age] 46)).alloc (.cells #[.int .i64 u.live, .int .i64 u.state, .int .u32 u.age] 47)).grown ((HB.out.alloc HB.out.size _).alloc (HB.out.alloc HB.out.size _).size _) ((HB.out.alloc HB.out.size _).alloc (HB.out.alloc HB.out.size _).size _).size hg9)).1)
              go_roundw
              case rel => exact ⟨k + 1, by omega, by go_num, by rw [HOK2.out], by show OwnsR' _ _ _ _ _ _; rw [HNext.out]; exact ho9, ((HO.out.alloc (.cells #[.int .i64 u.live, .int .i64 u.state, .int .u32 u.age] 46)).alloc (.cells #[.int .i64 u.live, .int .i64 u.state, .int .u32 u.age] 47)).grown ((HB.out.alloc HB.out.size _).alloc (HB.out.alloc HB.out.size _).size _) ((HB.out.alloc HB.out.size _).alloc (HB.out.alloc HB.out.size _).size _).size hg9⟩
              case measure => simp [intOf]; omega
            · have q1' : (0 : Int) ≤ u.live := by omega
              by_cases q2 : R < u.live
              · have HOK2 : Hid (okTo R n us (k + 1) = false) := by show _ = _; rw [HOK2'.out]; simp [badU, q2]
                have q2' : ¬ u.live ≤ R := by omega
                go_wp2_with (at_builtin; refine wpList_append_rows' rfl (.tmp 36) (.tmp 44) 44 rfl wc.heap.size 47 _ 3 24 Try.underlying44 info_use rfl (by decide) _ (usesV (us.take k)) rfl ((HO.out.alloc _).alloc _) _ 1 [useV u] rfl (ReadsR.litU u _ (by simp)) (by intro p hp y hy; simp at hp; subst hp; simp [useV] at hy; rcases hy with rfl | rfl | rfl <;> rfl) (by have := HKL.out; simp only [List.length_cons, List.length_nil]; omega) (by have := HKL.out; unfold maxLen; simp only [List.length_cons, List.length_nil]; omega) ((HB.out.alloc HB.out.size _).alloc (HB.out.alloc HB.out.size _).size _).size ?_; intro v9 w9 ho9 hg9; obtain ⟨x0, x1, x2⟩ := box_kept HO.out hg9; have y0 := (HC6.out w9 (((HO.out.alloc (.cells #[.int .i64 u.live, .int .i64 u.state, .int .u32 u.age] 46)).alloc (.cells #[.int .i64 u.live, .int .i64 u.state, .int .u32 u.age] 47)).grown ((HB.out.alloc HB.out.size _).alloc (HB.out.alloc HB.out.size _).size _) ((HB.out.alloc HB.out.size _).alloc (HB.out.alloc HB.out.size _).size _).size hg9)).1)
                go_roundw
                case rel => exact ⟨k + 1, by omega, by go_num, by rw [HOK2.out], by show OwnsR' _ _ _ _ _ _; rw [HNext.out]; exact ho9, ((HO.out.alloc (.cells #[.int .i64 u.live, .int .i64 u.state, .int .u32 u.age] 46)).alloc (.cells #[.int .i64 u.live, .int .i64 u.state, .int .u32 u.age] 47)).grown ((HB.out.alloc HB.out.size _).alloc (HB.out.alloc HB.out.size _).size _) ((HB.out.alloc HB.out.size _).alloc (HB.out.alloc HB.out.size _).size _).size hg9⟩
                case measure => simp [intOf]; omega
              · have q2' : u.live ≤ R := by omega
                by_cases q3 : u.state < 0
                · have HOK2 : Hid (okTo R n us (k + 1) = false) := by show _ = _; rw [HOK2'.out]; simp [badU, q3]
                  have q3' : ¬ (0 : Int) ≤ u.state := by omega
                  go_wp2_with (at_builtin; refine wpList_append_rows' rfl (.tmp 36) (.tmp 44) 44 rfl wc.heap.size 47 _ 3 24 Try.underlying44 info_use rfl (by decide) _ (usesV (us.take k)) rfl ((HO.out.alloc _).alloc _) _ 1 [useV u] rfl (ReadsR.litU u _ (by simp)) (by intro p hp y hy; simp at hp; subst hp; simp [useV] at hy; rcases hy with rfl | rfl | rfl <;> rfl) (by have := HKL.out; simp only [List.length_cons, List.length_nil]; omega) (by have := HKL.out; unfold maxLen; simp only [List.length_cons, List.length_nil]; omega) ((HB.out.alloc HB.out.size _).alloc (HB.out.alloc HB.out.size _).size _).size ?_; intro v9 w9 ho9 hg9; obtain ⟨x0, x1, x2⟩ := box_kept HO.out hg9; have y0 := (HC6.out w9 (((HO.out.alloc (.cells #[.int .i64 u.live, .int .i64 u.state, .int .u32 u.age] 46)).alloc (.cells #[.int .i64 u.live, .int .i64 u.state, .int .u32 u.age] 47)).grown ((HB.out.alloc HB.out.size _).alloc (HB.out.alloc HB.out.size _).size _) ((HB.out.alloc HB.out.size _).alloc (HB.out.alloc HB.out.size _).size _).size hg9)).1)
                  go_roundw
                  case rel => exact ⟨k + 1, by omega, by go_num, by rw [HOK2.out], by show OwnsR' _ _ _ _ _ _; rw [HNext.out]; exact ho9, ((HO.out.alloc (.cells #[.int .i64 u.live, .int .i64 u.state, .int .u32 u.age] 46)).alloc (.cells #[.int .i64 u.live, .int .i64 u.state, .int .u32 u.age] 47)).grown ((HB.out.alloc HB.out.size _).alloc (HB.out.alloc HB.out.size _).size _) ((HB.out.alloc HB.out.size _).alloc (HB.out.alloc HB.out.size _).size _).size hg9⟩
                  case measure => simp [intOf]; omega
                · have q3' : (0 : Int) ≤ u.state := by omega
                  by_cases q4 : 3 < u.state
                  · have HOK2 : Hid (okTo R n us (k + 1) = false) := by show _ = _; rw [HOK2'.out]; simp [badU, q4]
                    have q4' : ¬ u.state ≤ 3 := by omega
                    go_wp2_with (at_builtin; refine wpList_append_rows' rfl (.tmp 36) (.tmp 44) 44 rfl wc.heap.size 47 _ 3 24 Try.underlying44 info_use rfl (by decide) _ (usesV (us.take k)) rfl ((HO.out.alloc _).alloc _) _ 1 [useV u] rfl (ReadsR.litU u _ (by simp)) (by intro p hp y hy; simp at hp; subst hp; simp [useV] at hy; rcases hy with rfl | rfl | rfl <;> rfl) (by have := HKL.out; simp only [List.length_cons, List.length_nil]; omega) (by have := HKL.out; unfold maxLen; simp only [List.length_cons, List.length_nil]; omega) ((HB.out.alloc HB.out.size _).alloc (HB.out.alloc HB.out.size _).size _).size ?_; intro v9 w9 ho9 hg9; obtain ⟨x0, x1, x2⟩ := box_kept HO.out hg9; have y0 := (HC6.out w9 (((HO.out.alloc (.cells #[.int .i64 u.live, .int .i64 u.state, .int .u32 u.age] 46)).alloc (.cells #[.int .i64 u.live, .int .i64 u.state, .int .u32 u.age] 47)).grown ((HB.out.alloc HB.out.size _).alloc (HB.out.alloc HB.out.size _).size _) ((HB.out.alloc HB.out.size _).alloc (HB.out.alloc HB.out.size _).size _).size hg9)).1)
                    go_roundw
                    case rel => exact ⟨k + 1, by omega, by go_num, by rw [HOK2.out], by show OwnsR' _ _ _ _ _ _; rw [HNext.out]; exact ho9, ((HO.out.alloc (.cells #[.int .i64 u.live, .int .i64 u.state, .int .u32 u.age] 46)).alloc (.cells #[.int .i64 u.live, .int .i64 u.state, .int .u32 u.age] 47)).grown ((HB.out.alloc HB.out.size _).alloc (HB.out.alloc HB.out.size _).size _) ((HB.out.alloc HB.out.size _).alloc (HB.out.alloc HB.out.size _).size _).size hg9⟩
                    case measure => simp [intOf]; omega
                  · have HOK2 : Hid (okTo R n us (k + 1) = true) := by show _ = _; rw [HOK2'.out]; simp [badU]; omega
                    have q4' : u.state ≤ 3 := by omega
                    go_wp2_with (at_builtin; refine wpList_append_rows' rfl (.tmp 36) (.tmp 44) 44 rfl wc.heap.size 47 _ 3 24 Try.underlying44 info_use rfl (by decide) _ (usesV (us.take k)) rfl ((HO.out.alloc _).alloc _) _ 1 [useV u] rfl (ReadsR.litU u _ (by simp)) (by intro p hp y hy; simp at hp; subst hp; simp [useV] at hy; rcases hy with rfl | rfl | rfl <;> rfl) (by have := HKL.out; simp only [List.length_cons, List.length_nil]; omega) (by have := HKL.out; unfold maxLen; simp only [List.length_cons, List.length_nil]; omega) ((HB.out.alloc HB.out.size _).alloc (HB.out.alloc HB.out.size _).size _).size ?_; intro v9 w9 ho9 hg9; obtain ⟨x0, x1, x2⟩ := box_kept HO.out hg9; have y0 := (HC6.out w9 (((HO.out.alloc (.cells #[.int .i64 u.live, .int .i64 u.state, .int .u32 u.age] 46)).alloc (.cells #[.int .i64 u.live, .int .i64 u.state, .int .u32 u.age] 47)).grown ((HB.out.alloc HB.out.size _).alloc (HB.out.alloc HB.out.size _).size _) ((HB.out.alloc HB.out.size _).alloc (HB.out.alloc HB.out.size _).size _).size hg9)).1)
                    go_roundw
                    case rel => exact ⟨k + 1, by omega, by go_num, by rw [HOK2.out], by show OwnsR' _ _ _ _ _ _; rw [HNext.out]; exact ho9, ((HO.out.alloc (.cells #[.int .i64 u.live, .int .i64 u.state, .int .u32 u.age] 46)).alloc (.cells #[.int .i64 u.live, .int .i64 u.state, .int .u32 u.age] 47)).grown ((HB.out.alloc HB.out.size _).alloc (HB.out.alloc HB.out.size _).size _) ((HB.out.alloc HB.out.size _).alloc (HB.out.alloc HB.out.size _).size _).size hg9⟩
                    case measure => simp [intOf]; omega
        · have hkn : k = n := by omega
          subst hkn
          have hfull : us.take k = us := List.take_of_length_le (by rw [HN.out]; exact Nat.le_refl _)
          have ho := HO.out
          rw [hfull] at ho
          obtain ⟨ao, co, hvo, hro, hco, _⟩ := ho.reads
          rw [usesV_length, HN.out] at hvo hco
          subst hvo
          have HOW := Lib.hid ho
          have HRO := Lib.hid hro
          have HCO := Lib.hid hco
          have B4 := Lib.hid (B3.out.trans (HB.out.mono B3.out.size))
          have hok0 : okTo R k us k = (decide (0 < k) && decide (k ≤ 200) && !(us.any (badU R))) := by unfold okTo; rw [hfull]
          obtain ⟨v, hv⟩ : ∃ v, okTo R k us k = v := ⟨_, rfl⟩
          rw [hv]
          rw [hv] at hok0
          have HOK0 := Lib.hid hok0
          clear hfull ho hro hco hv hok0 HO
          cases v with
          | false =>
            have HLD : Hid (Calls Try.prog 29 #[.int .i64 room, .slice ao k co] wr (NoneE wr)) := by
              show Calls _ _ _ _ _
              by_cases hlen : k = 0 ∨ 200 < k
              · exact tload_len room ao co k wr HRM.out hlen (by omega)
              · have hany : us.any (badU R) = true := by
                  have h1 := HOK0.out
                  have h2 : decide (0 < k) = true := by simp; omega
                  have h3 : decide (k ≤ 200) = true := by simp; omega
                  rw [h2, h3] at h1
                  simpa using h1.symm
                obtain ⟨m, x, h1, h2, h3⟩ := first_bad us hany
                have h4 := tload_bad room ao co us wr HRO.out HRM.out (by rw [HN.out]; omega) (by rw [HN.out]; omega) (fun u hu => (HF2.out u hu).2.2) m x h1 (by rw [HRR.out]; exact h2) (fun j u hj hu => by rw [HRR.out]; exact h3 j u hj hu)
                rw [HN.out] at h4
                exact h4
            go_wp2_with fail
            refine HLD.out.mono ?_
            rintro e w4 ⟨rfl, b4⟩
            go_wp2
            go_ret
            exact ⟨rfl, B4.out.trans (b4.mono B4.out.size)⟩
          | true =>
            have h123 : 0 < k ∧ k ≤ 200 ∧ us.any (badU R) = false := by
              have h1 := HOK0.out
              cases hd1 : decide (0 < k) <;> cases hd2 : decide (k ≤ 200) <;> cases hd3 : us.any (badU R) <;> rw [hd1, hd2, hd3] at h1 <;> simp at h1
              exact ⟨of_decide_eq_true hd1, of_decide_eq_true hd2, rfl⟩
            have hall : ∀ u ∈ us, UseOk R u := fun u hu => by
              have h1 := bad_of (good_all h123.2.2 u hu)
              exact ⟨h1.1, h1.2.1, h1.2.2.1, h1.2.2.2, (HF2.out u hu).2.2⟩
            have HLD := Lib.hid (fun (W : World) (x : Option Addr) (c : Nat) (hx : ReadsR W x 3 (usesV us)) => tload_yes room x c us W hx HRM.out (by rw [HN.out]; omega) (by rw [HN.out]; omega) (by rw [HRR.out]; exact hall))
            rw [HRR.out, HN.out] at HLD
            have hk0 : (0 : Int) < (k : Int) := by omega
            clear h123 hall HOK0
            go_wp2_with fail
            refine (HLD.out wr ao co HRO.out).mono ?_
            rintro e w4 ⟨g, gs, rfl, t4, b4⟩
            have T4 := Lib.hid t4
            have BB4 := Lib.hid b4
            have BC4 := Lib.hid (below_next HB.out b4)
            obtain ⟨x0, x1⟩ := HC6.out w4 BC4.out
            have hfr : w4.frozen? ⟨p6, 1, none⟩ = false := frozen_of_row _ _ _ _ _ ((BC4.out.block p6 (by rw [HSZ.out]; simp)).trans HN3.out)
            have hp6 : p6 < wr.heap.size := by have := HB.out.size; have := HSZ.out; omega
            have HP6 := Lib.hid hp6
            have y0 := (World.cell?_setCell_other w4 (a := ⟨p6, 1, none⟩) (b := ⟨p6, 0, none⟩) (v := .slice a k cap) (by simp)).trans x0
            have y1 := World.cell?_setCell_same w4 (a := ⟨p6, 1, none⟩) (v := .slice a k cap) x1
            obtain ⟨w5, hw5⟩ : ∃ w5, w4.setCell ⟨p6, 1, none⟩ (.slice a k cap) = w5 := ⟨_, rfl⟩
            have hg5 : w4.grownBy w5 (some p6) := by rw [← hw5]; exact grown_setCell _ _ _
            have T5 := Lib.hid (t4.kept hg5 (fun j hj => by cases hj; exact hp6))
            have O5 := Lib.hid ((HOW.out.below b4).kept hg5 (.inr (fun e => by have := (HOW.out.lt p6 e).1; have := HSZ.out; omega)))
            have B5 : Hid (Below w.heap.size w w5) := by
              show Below _ _ _
              rw [← hw5]
              exact (B4.out.trans (b4.mono B4.out.size)).setCell HW6.out _
            rw [hw5] at y0 y1
            have hs5 : w4.heap.size ≤ w5.heap.size := hg5.size
            have hp65 : p6 < w5.heap.size := by have := b4.size; omega
            have HC5 := Lib.hid (fun W (hW : Below w5.heap.size w5 W) => (⟨(hW.cell (p := ⟨p6, 0, none⟩) hp65).trans y0, (hW.cell (p := ⟨p6, 1, none⟩) hp65).trans y1⟩ : W.cell? ⟨p6, 0, none⟩ = some (.int .i64 R) ∧ W.cell? ⟨p6, 1, none⟩ = some (.slice a k cap)))
            have HRW := Lib.hid (fun (W : World) (hW : Below w.heap.size w W) => HR0.out.below hW)
            have HIS := Lib.hid (fun (W : World) (q : Nat) (g gs : Nat) (hT : IsTab q W g gs R us) (hW : Below w.heap.size w W) => is_true hT R a cap (HRW.out W hW))
            rw [HN.out] at HIS
            have HW5 := Lib.hid hw5
            clear t4 b4 hg5 hs5 hp65 hw5 y0 y1 hp6
            go_wp2_with fail
            rw [HW5.out]
            refine (HIS.out w5 _ g gs T5.out B5.out).mono ?_
            rintro e w6 ⟨rfl, b6⟩
            have B6 := Lib.hid (B5.out.trans (b6.mono B5.out.size))
            have C6 := Lib.hid b6
            have T6 := Lib.hid (T5.out.below b6)
            have O6 := Lib.hid (O5.out.below b6)
            clear b6 x0 x1 hfr
            go_wp2_with fail
            refine (tuses_is T6.out).mono ?_
            rintro e w7 ⟨v7, rfl, o7, b7⟩
            obtain ⟨a7, c7, rfl, hr7, _, _⟩ := o7.reads
            rw [usesV_length, HN.out]
            have HR7 := Lib.hid hr7
            have B7 := Lib.hid (B6.out.trans (b7.mono B6.out.size))
            have C7 := Lib.hid (below_next C6.out b7)
            have T7 := Lib.hid (T6.out.below b7)
            have O7 := Lib.hid (O6.out.below b7)
            clear b7 hr7 o7
            go_wp2_with fail
            refine (HLD.out w7 a7 c7 HR7.out).mono ?_
            rintro e w8 ⟨g2, gs2, rfl, t8, b8⟩
            have T8 := Lib.hid t8
            have B8 := Lib.hid (B7.out.trans (b8.mono B7.out.size))
            have C8 := Lib.hid (below_next C7.out b8)
            have TT8 := Lib.hid (T7.out.below b8)
            have O8 := Lib.hid (O7.out.below b8)
            clear b8 t8
            obtain ⟨go, rfl⟩ := O8.out.some_of (by rw [usesV_length, HN.out]; omega)
            obtain ⟨z0, z1⟩ := HC5.out w8 C8.out
            have hgo := O8.out.lt go rfl
            have hfr8 := O8.out.frozen (by rw [usesV_length, HN.out]) 0
            obtain ⟨u0, hu0⟩ : ∃ x, us[0]? = some x := ⟨_, List.getElem?_eq_getElem (by rw [HN.out]; omega)⟩
            have hc8 : w8.cell? ⟨go, 0, none⟩ = some (.int .i64 u0.live) := O8.out.head.2.2 0 _ (usesV_get hu0) 0 _ rfl
            clear hu0
            have hgop : go ≠ p6 := by have := HSZ.out; omega
            have y0 := (World.cell?_setCell_other w8 (a := ⟨go, 0, none⟩) (b := ⟨p6, 0, none⟩) (v := .int .i64 (-7)) (by intro e; cases e; exact hgop rfl)).trans z0
            have y1 := (World.cell?_setCell_other w8 (a := ⟨go, 0, none⟩) (b := ⟨p6, 1, none⟩) (v := .int .i64 (-7)) (by intro e; cases e)).trans z1
            have Y0 := y0
            have Y1 := y1
            obtain ⟨w9, hw9⟩ : ∃ w9, w8.setCell ⟨go, 0, none⟩ (.int .i64 (-7)) = w9 := ⟨_, rfl⟩
            rw [hw9] at y0 y1
            have hg9 : w8.grownBy w9 (some go) := by rw [← hw9]; exact grown_setCell _ _ _
            have hgo7 : go < w7.heap.size := (O7.out.lt go rfl).2
            have hgor : go < wr.heap.size := (HOW.out.lt go rfl).2
            have T9 := Lib.hid (T8.out.kept hg9 (fun j hj => by cases hj; exact hgo7))
            have TT9 := Lib.hid (TT8.out.kept hg9 (fun j hj => by cases hj; exact hgor))
            have B9 : Hid (Below w.heap.size w w9) := by
              show Below _ _ _
              rw [← hw9]
              exact B8.out.setCell (by have := hgo.1; have := HSZ.out; have := HW6.out; show w.heap.size ≤ go; omega) _
            have hp69 : p6 < w9.heap.size := World.block_lt_of_cell? _ _ y0
            have HC9 := Lib.hid (fun W (hW : Below w9.heap.size w9 W) => (⟨(hW.cell (p := ⟨p6, 0, none⟩) hp69).trans y0, (hW.cell (p := ⟨p6, 1, none⟩) hp69).trans y1⟩ : W.cell? ⟨p6, 0, none⟩ = some (.int .i64 R) ∧ W.cell? ⟨p6, 1, none⟩ = some (.slice a k cap)))
            have HW9 := Lib.hid hw9
            have HGOP := Lib.hid hgop
            clear hgo hgop hg9 hgo7 hgor hp69 hw9 z0 z1
            go_wp2_with fail
            rw [HW9.out]
            refine (HIS.out w9 _ g2 gs2 T9.out B9.out).mono ?_
            rintro e w10 ⟨rfl, b10⟩
            have B10 := Lib.hid (B9.out.trans (b10.mono B9.out.size))
            have TT10 := Lib.hid (TT9.out.below b10)
            obtain ⟨v0, v1⟩ := HC9.out w10 b10
            clear b10 y0 y1 Y0 Y1 hfr8 hc8
            go_wp2_with fail
            refine (HIS.out w10 _ g gs TT10.out B10.out).mono ?_
            rintro e w11 ⟨rfl, b11⟩
            go_wp2
            go_ret
            exact ⟨rfl, B10.out.trans (b11.mono B10.out.size)⟩
set_option maxRecDepth 100000 in
theorem usageLoads_lifted (os : Os) (started : os.Started) (H : Type) (enc : TypeId × Value → H) :
    ReturnsInHanded {} Try.checked os 7 .any (Rows.usageLoadsSpec.pre6 enc Try.prog Try.f7 Rows.usageLoadsRow.domain false) (Rows.usageLoadsSpec.post enc Try.prog Try.f7 false true false false) :=
  law_lifted (s := Rows.usageLoadsSpec) started Try.func7 (by kernel_rfl) rfl (fun ds hd => by
        match ds, hd with
        | [_, _], _ => rfl) rfl
      (of_decide_eq_true (by kernel_rfl))
      (ChangeSpec.witness6 (enc := enc) (C := Try.checked) false ⟨#[], #[.int .i64 0, .slice none 0 0], []⟩ 8 (by kernel_rfl) (by kernel_rfl) (by kernel_rfl) (by kernel_rfl))
      (fun W base args ds ps hval hA hsz => by
        rw [Try.params7] at hA hval hsz
        obtain ⟨v0, vs0, d0, ds0, p0, q0, hargs, rfl, rfl, h0, r0⟩ := trodAll_cons hA
        obtain ⟨v1, vs1, d1, ds1, p1, q1, rfl, rfl, rfl, h1, r1⟩ := trodAll_cons r0
        obtain ⟨rfl, rfl, rfl⟩ := trodAll_nil r1
        obtain rfl : args = #[v0, v1] := by cases args; simp_all
        simp only [DataW.weightsEach, List.all_append, Bool.and_eq_true] at hsz
        obtain ⟨z0, z1, _⟩ := hsz
        obtain ⟨n, rfl, rfl, rfl, wf⟩ := open_int Try.underlying3 (hval 0 3 v0 rfl rfl) h0
        obtain ⟨a, cap, us, rfl, hr, hc, hfit⟩ := open_uses (hval 1 43 v1 rfl rfl) h1
        exact usageLoads_walk n a cap us W (i64_of_wf wf) hr hc hfit)

theorem usageLoads_holds : Rows.UsageLoadsSaid :=
  OpenClaim.holds_of_wide 7 Try.f7 rfl rfl rfl rfl rfl rfl rfl ⟨rfl, rfl, rfl, rfl, rfl⟩ rfl rfl rfl rfl rfl (by kernel_rfl) Try.func7 (by kernel_rfl)
    (of_decide_eq_true (by kernel_rfl)) (by unfold Func.isWrapper; first | (rw [if_pos (by decide +kernel)]; kernel_rfl) | (rw [if_neg (by decide +kernel)]; exact ⟨rfl, rfl⟩))
    (fun os started H enc _ => usageLoads_lifted os started H enc)
#print axioms usageLoads_holds
end Go.Proofs.Ytnlbjpnhepdicaa
