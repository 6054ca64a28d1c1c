/- The law CleanTells, walked. -/
import Derived.Test.YtplkglepbedhoaaWorst16
import Derived.Deep.DeepCutAuto
import Derived.BigQuiet
import Derived.Deep.QuietTactic
namespace Go.Proofs.Ytplkglepbedhoaa
open Go.RowKit Go.Sort
set_option linter.unusedVariables false
set_option linter.unusedSimpArgs false
set_option maxRecDepth 100000

theorem info_ruse16 : (Try.prog.info? 27).map (fun i => (i.zero, i.size, i.bytes)) = some (some (.agg #[.int .i64 0, .int .i64 0, .int .u32 0]), 3, 24) := by kernel_rfl
theorem box_kept16 {B : Nat} {w w9 : World} {e t1 : TypeId} {k : Nat} {v : Value} {l : List (List Value)} {x y z : Value} {o2 : Obj} (ho : OwnsR' B w e k v l) (hg : ((w.alloc (.cells #[x, y, z] t1)).alloc o2).grownBy w9 v.ownBlock) :
    w9.cell? ⟨w.heap.size, 0, none⟩ = some x ∧ w9.cell? ⟨w.heap.size, 1, none⟩ = some y ∧ w9.cell? ⟨w.heap.size, 2, none⟩ = some z := by
  have h : w9.heap[w.heap.size]? = some (.cells #[x, y, z] t1 (0, 0)) := by
    rw [hg.block w.heap.size (by simp; omega) (fun e => by have := (ho.lt w.heap.size e.symm).2; omega), Below.heap_alloc _ _ _ (by simp)]
    exact heap_alloc_new w _
  refine ⟨?_, ?_, ?_⟩ <;> (unfold World.cell?; rw [h]; rfl)
theorem apart16 {B : Nat} {w : World} {e e' : TypeId} {k k' : Nat} {v v' : Value} {l l' : List (List Value)} (h : OwnsR' B w e k v l) (h' : OwnsR' B w e' k' v' l') (hne : e ≠ e') : v.ownBlock = none ∨ v.ownBlock ≠ v'.ownBlock := by
  rcases h.2.2 with ⟨rfl, _⟩ | ⟨g, cap, cur, rfl, _, hg, _⟩
  · left; rfl
  · right
    rcases h'.2.2 with ⟨rfl, _⟩ | ⟨g', cap', cur', rfl, _, hg', _⟩
    · intro h; cases h
    · intro h
      obtain rfl : g = g' := by simpa [Value.ownBlock] using h
      rw [hg] at hg'
      simp at hg'
      exact hne hg'.2
theorem take16 {w : World} {a : Option Addr} {us : List UseD} (h : ReadsR w a 3 (usesV us)) (k : Nat) : ReadsR w a 3 (usesV (us.take k)) := by
  refine ⟨uses_rows' _, ?_⟩
  rcases h.2 with h2 | ⟨b, off, e, hb, hc⟩
  · left
    have : us = [] := by unfold usesV at h2; simpa using h2
    subst this
    simp [usesV]
  · refine .inr ⟨b, off, e, hb, fun i x hi => hc i x ?_⟩
    have e2 : flatR (usesV us) = flatR (usesV (us.take k)) ++ flatR (usesV (us.drop k)) := by
      rw [← flatR_append]
      unfold usesV
      rw [← List.map_append, List.take_append_drop]
    rw [e2, List.getElem?_append_left (List.getElem?_eq_some_iff.1 hi).1]
    exact hi
def cutU (u : UseD) : UseD := ⟨max 0 (min u.live 5000), u.state, u.age⟩
theorem cutU_fine (us : List UseD) : FineU (us.map cutU) := by
  intro u hu
  obtain ⟨x, _, rfl⟩ := List.mem_map.1 hu
  unfold cutU
  dsimp only
  omega
def cntH (us : List UseD) (k : Nat) : Nat := (placesL halfU us k).length
theorem cntH_yes {us : List UseD} {k : Nat} {u : UseD} (h : us[k]? = some u) (hs : halfU u = true) : cntH us (k + 1) = cntH us k + 1 := by unfold cntH; rw [placesL_yes h hs, List.length_append]; rfl
theorem cntH_no {us : List UseD} {k : Nat} {u : UseD} (h : us[k]? = some u) (hs : halfU u = false) : cntH us (k + 1) = cntH us k := by unfold cntH; rw [placesL_no h hs]
theorem cntH_le (us : List UseD) (k : Nat) : cntH us k ≤ k := placesL_length _ _ _
/-- What comes k-th of all that are so. -/
theorem placesL_nth {α : Type} {p : α → Bool} {l : List α} {k : Nat} {x : α} (h : l[k]? = some x) (hp : p x = true) : ∀ n, k < n → (placesL p l n)[(placesL p l k).length]? = some k := by
  intro n hn
  obtain ⟨d, rfl⟩ : ∃ d, n = k + 1 + d := ⟨n - (k + 1), by omega⟩
  clear hn
  induction d with
  | zero =>
    rw [Nat.add_zero, placesL_yes h hp]
    simp
  | succ d ih =>
    have e : placesL p l (k + 1 + (d + 1)) = placesL p l (k + 1 + d) ++ (placesL p l (k + 1 + (d + 1))).drop (placesL p l (k + 1 + d)).length := by
      unfold placesL
      rw [show k + 1 + (d + 1) = (k + 1 + d) + 1 from rfl, List.range_succ, List.filter_append]
      simp
    rw [e, List.getElem?_append_left (List.getElem?_eq_some_iff.1 ih).1]
    exact ih
theorem len_parts (room : Int) (us : List UseD) (n : Nat) : (partsL room us (placesL halfU us n)).length = cntH us n := by unfold partsL cntH; rw [List.length_map]
theorem part_nth {room : Int} {us : List UseD} {k n : Nat} {u : UseD} (h : us[k]? = some u) (hs : halfU u = true) (hk : k < n) : (partsL room us (placesL halfU us n))[cntH us k]? = some (wordQ room u.live) := by
  unfold partsL cntH
  rw [List.getElem?_map, placesL_nth h hs n hk]
  show some (wordQ room (liveAt us k)) = _
  rw [liveAt_get h]

set_option maxHeartbeats 4000000 in
theorem cleanTells_walk (a : Option Addr) (cap : Nat) (us : List UseD) (room0 : Int) (w : World) (hr : ReadsR w a 3 (usesV us)) (hcap : us.length ≤ cap) :
    Calls Try.prog 3 #[.slice a us.length cap, .int .i64 room0] w fun e w' => e = .returned (.bool true) ∧ Below w.heap.size w w' := by
  have HR := Lib.hid hr
  clear hr
  obtain ⟨L, hL⟩ : ∃ L, us.length = L := ⟨_, rfl⟩
  have HL := Lib.hid hL
  rw [hL] at hcap ⊢
  obtain ⟨room, hroom⟩ : ∃ r, max 1 (min room0 4096) = r := ⟨_, rfl⟩
  have h0 : 1 ≤ room := by omega
  have h1 : room ≤ 4096 := by omega
  clear hL
  go_enter Try.func3, Try.ntmps3
  go_wp2_with fail
  refine (awake16_true w).mono ?_
  rintro e w1 ⟨rfl, b1⟩
  have B1 := Lib.hid b1
  clear b1
  go_upto_if 18 with (fail)
  go_cut [0] (fun s wx => w1 = wx ∧ ∃ n, s = .slice a n cap ∧ Hid ((us.take 200).length = n))
  case first =>
    by_cases h210 : 200 < L
    · have hx : (200 : Int) < (L : Int) := by omega
      have hy : (200 : Int) ≤ (cap : Int) := by omega
      go_wp2
      go_meet
      exact ⟨rfl, 200, rfl, by show _ = _; rw [List.length_take, HL.out]; omega⟩
    · have hx : ¬ (200 : Int) < (L : Int) := by omega
      go_wp2
      go_meet
      exact ⟨rfl, L, rfl, by show _ = _; rw [List.length_take, HL.out]; omega⟩
  case rest =>
    obtain ⟨rfl, n, rfl, HN⟩ := hcut
    have HR0 := Lib.hid (take16 HR.out 200)
    have hn2 : n ≤ 200 := by rw [← HN.out]; exact List.length_take_le _ _
    generalize us.take 200 = us at *
    clear HR HL hcap
    obtain ⟨fx, hfx⟩ : ∃ fx, us.map cutU = fx := ⟨_, rfl⟩
    have HFX := Lib.hid hfx
    have HFL : Hid (fx.length = n) := by show _ = _; rw [← hfx, List.length_map, HN.out]
    have HFF : Hid (FineU fx) := by show FineU fx; rw [← hfx]; exact cutU_fine us
    clear hfx
    go_wp2_with fail
    go_loopw [5, 6, 7, 26] (fun v5 v6 v7 i wr => ∃ k : Nat, k ≤ n ∧ i = .int .i64 k ∧ v7 = .int .i64 (cntH fx k) ∧ Hid (OwnsR' w1.heap.size wr 27 3 v6 (usesV (fx.take k))) ∧ Hid (OwnsR' w1.heap.size wr 28 3 v5 (usesV (fx.take k))) ∧ Hid (Below w1.heap.size w1 wr)) (fun _ _ _ i _ => n - (intOf i).toNat)
    case atStart => exact ⟨0, Nat.zero_le _, rfl, rfl, OwnsR'.nil _ _ _ _, OwnsR'.nil _ _ _ _, Below.refl _ _⟩
    case round =>
      obtain ⟨k, hk, rfl, rfl, HOW, HO, HB⟩ := hrel
      by_cases hlt : k < n
      · obtain ⟨u, hrow⟩ : ∃ r, us[k]? = some r := ⟨_, List.getElem?_eq_getElem (by rw [HN.out]; exact hlt)⟩
        obtain ⟨b, off, rfl, hb, hc⟩ := (HR0.out.below (below_next B1.out HB.out)).row (usesV_get hrow)
        have d0 : wr.cell? ⟨b, off + k * 3, none⟩ = some (.int .i64 u.live) := hc 0 _ rfl
        have d1 : wr.cell? ⟨b, off + k * 3 + 1, none⟩ = some (.int .i64 u.state) := by have := hc 1 _ rfl; rwa [← Nat.add_assoc] at this
        have d2 : wr.cell? ⟨b, off + k * 3 + 2, none⟩ = some (.int .u32 u.age) := by have := hc 2 _ rfl; rwa [← Nat.add_assoc] at this
        have hx1 : (0 : Int) ≤ (k : Int) := by omega
        have hx2 : (k : Int) < (n : Int) := by omega
        clear hc hb
        obtain ⟨fl, hfl⟩ : ∃ x, max 0 (min u.live 5000) = x := ⟨_, rfl⟩
        have hfu : cutU u = ⟨fl, u.state, u.age⟩ := by unfold cutU; rw [hfl]
        have hfk : fx[k]? = some ⟨fl, u.state, u.age⟩ := by rw [← HFX.out, List.getElem?_map, hrow, ← hfu]; rfl
        have HNext : Hid (usesV (fx.take (k + 1)) = usesV (fx.take k) ++ [useV ⟨fl, u.state, u.age⟩]) := by
          show _ = _
          rw [List.take_add_one, hfk]
          unfold usesV
          rw [List.map_append]
          rfl
        have HKL : Hid ((usesV (fx.take k)).length ≤ 200) := by show _ ≤ _; rw [usesV_length, List.length_take]; omega
        have HONE : Hid (OneRows [useV ⟨fl, u.state, u.age⟩]) := by
          intro p hp y hy
          simp at hp
          subst hp
          simp [useV] at hy
          rcases hy with rfl | rfl | rfl <;> rfl
        have HL1 : Hid (((usesV (fx.take k)).length + [useV ⟨fl, u.state, u.age⟩].length) * 24 ≤ 140737488355328) := by have := HKL.out; show _ ≤ _; simp only [List.length_cons, List.length_nil]; omega
        have HL2 : Hid ((usesV (fx.take k)).length + [useV ⟨fl, u.state, u.age⟩].length ≤ maxLen) := by have := HKL.out; show _ ≤ _; unfold maxLen; simp only [List.length_cons, List.length_nil]; omega
        have HA1 : Hid (OwnsR' w1.heap.size ((wr.alloc (.cells #[.int .i64 fl, .int .i64 u.state, .int .u32 u.age] 27)).alloc (.cells #[.int .i64 fl, .int .i64 u.state, .int .u32 u.age] 27)) 27 3 u6 (usesV (fx.take k))) := (HOW.out.alloc _).alloc _
        have HA2 : Hid (OwnsR' w1.heap.size ((wr.alloc (.cells #[.int .i64 fl, .int .i64 u.state, .int .u32 u.age] 27)).alloc (.cells #[.int .i64 fl, .int .i64 u.state, .int .u32 u.age] 27)) 28 3 u5 (usesV (fx.take k))) := (HO.out.alloc _).alloc _
        have HA4 : Hid (Below w1.heap.size w1 ((wr.alloc (.cells #[.int .i64 fl, .int .i64 u.state, .int .u32 u.age] 27)).alloc (.cells #[.int .i64 fl, .int .i64 u.state, .int .u32 u.age] 27))) := (HB.out.alloc HB.out.size _).alloc (HB.out.alloc HB.out.size _).size _
        have hrl := readsR_lit16 (cs := #[.int .i64 fl, .int .i64 u.state, .int .u32 u.age]) (e := 27) (us := [⟨fl, u.state, u.age⟩]) (wr.alloc (.cells #[.int .i64 fl, .int .i64 u.state, .int .u32 u.age] 27)) rfl (by simp)
        rw [show (wr.alloc (.cells #[.int .i64 fl, .int .i64 u.state, .int .u32 u.age] 27)).heap.size = wr.heap.size + 1 by simp] at hrl
        have HRL := Lib.hid hrl
        have HPS : Hid (w1.heap.size ≤ ((wr.alloc (.cells #[.int .i64 fl, .int .i64 u.state, .int .u32 u.age] 27)).alloc (.cells #[.int .i64 fl, .int .i64 u.state, .int .u32 u.age] 27)).heap.size) := HA4.out.size
        have HCY := Lib.hid (fun h => cntH_yes hfk h)
        have HCN := Lib.hid (fun h => cntH_no hfk h)
        have HHE : Hid (halfU ⟨fl, u.state, u.age⟩ = (u.state == 1 || u.state == 2)) := Lib.hid rfl
        have hcl : cntH fx k ≤ k := cntH_le fx k
        obtain ⟨cn, hcn⟩ : ∃ c, cntH fx k = c := ⟨_, rfl⟩
        rw [hcn] at HCY HCN hcl ⊢
        have hws : IntKind.i64.wrap ((cn : Int) + 1) = (cn : Int) + 1 := IntWalk.i64_in _ (by omega)
        clear hfu hfk hrow hrl hcn
        go_upto_region 14 with (at_builtin; refine wpList_append_rows' rfl (.tmp 35) (.tmp 37) 22 rfl w1.heap.size 27 (.agg #[.int .i64 0, .int .i64 0, .int .u32 0]) 3 24 Try.underlying22 info_ruse16 rfl (by decide) u6 (usesV (fx.take k)) rfl HA1.out (some ⟨wr.heap.size + 1, 0, none⟩) 1 [useV ⟨fl, u.state, u.age⟩] rfl HRL.out HONE.out HL1.out HL2.out HPS.out ?_; intro v9 w9 ho9 hg9; obtain ⟨x0, x1, x2⟩ := box_kept16 HOW.out hg9; have ho47 := HA2.out.kept hg9 (apart16 HA2.out HA1.out (by decide)); have hb9 := HA4.out.grown hg9 HA4.out.size (fun j hj => (HA1.out.lt j hj).1); rw [← HNext.out] at ho9)
        have HO9 := Lib.hid ho9
        have HO47 := Lib.hid ho47
        have HB9 := Lib.hid hb9
        have hrl := readsR_lit16 (cs := #[.int .i64 fl, .int .i64 u.state, .int .u32 u.age]) (e := 28) (us := [⟨fl, u.state, u.age⟩]) w9 rfl (by simp)
        have HRL2 := Lib.hid hrl
        have HA5 : Hid (OwnsR' w1.heap.size (w9.alloc (.cells #[.int .i64 fl, .int .i64 u.state, .int .u32 u.age] 28)) 28 3 u5 (usesV (fx.take k))) := HO47.out.alloc _
        have HA6 : Hid (OwnsR' w1.heap.size (w9.alloc (.cells #[.int .i64 fl, .int .i64 u.state, .int .u32 u.age] 28)) 27 3 v9 (usesV (fx.take (k + 1)))) := HO9.out.alloc _
        have HA8 : Hid (Below w1.heap.size w1 (w9.alloc (.cells #[.int .i64 fl, .int .i64 u.state, .int .u32 u.age] 28))) := HB9.out.alloc HB9.out.size _
        have HX9 : Hid (∀ V, (w9.alloc (.cells #[.int .i64 fl, .int .i64 u.state, .int .u32 u.age] 28)).grownBy V u5.ownBlock → V.cell? ⟨wr.heap.size, 1, none⟩ = some (.int .i64 u.state)) := Lib.hid (fun V hg => by
          have hbl : some wr.heap.size ≠ u5.ownBlock := fun e => by have := (HO.out.lt wr.heap.size e.symm).2; omega
          have hlt : wr.heap.size < w9.heap.size := World.block_lt_of_cell? _ _ x1
          have e1 : V.heap[wr.heap.size]? = w9.heap[wr.heap.size]? := (hg.block wr.heap.size (by simp; omega) hbl).trans (Below.heap_alloc _ _ _ hlt)
          unfold World.cell? at x1 ⊢
          rw [e1]
          exact x1)
        clear ho9 ho47 hb9 hg9 hrl
        cases hs1 : u.state == 1 with
        | true =>
          have hhf : halfU ⟨fl, u.state, u.age⟩ = true := by rw [HHE.out, hs1]; rfl
          have HNC := Lib.hid (HCY.out hhf)
          clear hhf
          go_wp2_with (at_builtin; refine wpList_append_rows' rfl (.tmp 39) (.tmp 47) 24 rfl w1.heap.size 28 (.agg #[.int .i64 0, .int .i64 0, .int .u32 0]) 3 24 Try.underlying24 info_use rfl (by decide) u5 (usesV (fx.take k)) rfl HA5.out (some ⟨w9.heap.size, 0, none⟩) 1 [useV ⟨fl, u.state, u.age⟩] rfl HRL2.out HONE.out HL1.out HL2.out HA8.out.size ?_; intro v11 w11 ho11 hg11; have x3 := HX9.out w11 hg11)
          go_roundw
          case rel =>
            refine ⟨k + 1, by omega, by go_num, by rw [HNC.out]; go_num, ?_, ?_, ?_⟩
            · exact HA6.out.kept hg11 (apart16 HA6.out HA5.out (by decide))
            · show OwnsR' _ _ _ _ _ _
              rw [HNext.out]
              exact ho11
            · exact HA8.out.grown hg11 HA8.out.size (fun j hj => (HA5.out.lt j hj).1)
          case measure => simp [intOf]; omega
        | false =>
          cases hs2 : u.state == 2 with
          | true =>
            have hhf : halfU ⟨fl, u.state, u.age⟩ = true := by rw [HHE.out, hs1, hs2]; rfl
            have HNC := Lib.hid (HCY.out hhf)
            clear hhf
            go_wp2_with (at_builtin; refine wpList_append_rows' rfl (.tmp 39) (.tmp 47) 24 rfl w1.heap.size 28 (.agg #[.int .i64 0, .int .i64 0, .int .u32 0]) 3 24 Try.underlying24 info_use rfl (by decide) u5 (usesV (fx.take k)) rfl HA5.out (some ⟨w9.heap.size, 0, none⟩) 1 [useV ⟨fl, u.state, u.age⟩] rfl HRL2.out HONE.out HL1.out HL2.out HA8.out.size ?_; intro v11 w11 ho11 hg11; have x3 := HX9.out w11 hg11)
            go_roundw
            case rel =>
              refine ⟨k + 1, by omega, by go_num, by rw [HNC.out]; go_num, ?_, ?_, ?_⟩
              · exact HA6.out.kept hg11 (apart16 HA6.out HA5.out (by decide))
              · show OwnsR' _ _ _ _ _ _
                rw [HNext.out]
                exact ho11
              · exact HA8.out.grown hg11 HA8.out.size (fun j hj => (HA5.out.lt j hj).1)
            case measure => simp [intOf]; omega
          | false =>
            have hhf : halfU ⟨fl, u.state, u.age⟩ = false := by rw [HHE.out, hs1, hs2]; rfl
            have HNC := Lib.hid (HCN.out hhf)
            clear hhf
            go_wp2_with (at_builtin; refine wpList_append_rows' rfl (.tmp 39) (.tmp 47) 24 rfl w1.heap.size 28 (.agg #[.int .i64 0, .int .i64 0, .int .u32 0]) 3 24 Try.underlying24 info_use rfl (by decide) u5 (usesV (fx.take k)) rfl HA5.out (some ⟨w9.heap.size, 0, none⟩) 1 [useV ⟨fl, u.state, u.age⟩] rfl HRL2.out HONE.out HL1.out HL2.out HA8.out.size ?_; intro v11 w11 ho11 hg11; have x3 := HX9.out w11 hg11)
            go_roundw
            case rel =>
              refine ⟨k + 1, by omega, by go_num, by rw [HNC.out], ?_, ?_, ?_⟩
              · exact HA6.out.kept hg11 (apart16 HA6.out HA5.out (by decide))
              · show OwnsR' _ _ _ _ _ _
                rw [HNext.out]
                exact ho11
              · exact HA8.out.grown hg11 HA8.out.size (fun j hj => (HA5.out.lt j hj).1)
            case measure => simp [intOf]; omega
      · have hkn : k = n := by omega
        subst hkn
        have hfull : fx.take k = fx := List.take_of_length_le (by rw [HFL.out]; exact Nat.le_refl _)
        have ho := HO.out
        have hw := HOW.out
        rw [hfull] at ho hw
        obtain ⟨ao, co, hvo, hro, _, _⟩ := ho.reads
        obtain ⟨aw, cw, hvw, hrw, _, _⟩ := hw.reads
        rw [usesV_length, HFL.out] at hvo hvw
        subst hvo
        subst hvw
        have HRO := Lib.hid hro
        have HRW := Lib.hid hrw
        have HBW := Lib.hid (below_next B1.out HB.out)
        have HFI := Lib.hid (fun (W : World) (hW : Below wr.heap.size wr W) => filled_is fx ao co W (HRO.out.below hW) (by rw [HFL.out]; omega) HFF.out room h0 h1)
        have HWA := Lib.hid (fun (W : World) (hW : Below wr.heap.size wr W) => waste_is fx ao co W (HRO.out.below hW) (by rw [HFL.out]; omega) HFF.out room h0 h1)
        have HWO := Lib.hid (fun (W : World) (hW : Below wr.heap.size wr W) => worst_is fx ao co W (HRO.out.below hW) (by rw [HFL.out]; omega) HFF.out room h0 h1)
        have HRWA := Lib.hid (fun (W : World) (hW : Below wr.heap.size wr W) => rwaste_is fx aw cw W (HRW.out.below hW) (by rw [HFL.out]; omega) HFF.out room h0 h1)
        have HRWO := Lib.hid (fun (W : World) (hW : Below wr.heap.size wr W) => rworst_is fx aw cw W (HRW.out.below hW) (by rw [HFL.out]; omega))
        have HLP := Lib.hid (len_parts room fx k)
        rw [HFL.out] at HFI HWA HWO HRWA HRWO
        generalize sumG room fx (inL 1 fx) = sg at *
        generalize worstTo fx k = wo at *
        clear hfull ho hw hro hrw
        go_wp2_with fail
        refine (HFI.out wr (Below.refl _ _)).mono ?_
        rintro e w4 ⟨v, rfl, ho4, b4⟩
        obtain ⟨af, cf, rfl, hrf, _, _⟩ := ho4.reads
        rw [fltsV_len, HLP.out] at hrf ⊢
        have HRF := Lib.hid hrf
        have B4 := Lib.hid b4
        obtain ⟨P, hP⟩ : ∃ P, cntH fx k = P := ⟨_, rfl⟩
        have hPk : P ≤ k := by rw [← hP]; exact cntH_le fx k
        rw [hP] at HRF ⊢
        have HPE := Lib.hid hP
        clear hrf b4 ho4 hP HFI
        go_wp2_with fail
        refine (HWA.out w4 B4.out).mono ?_
        rintro e w5 ⟨rfl, b5⟩
        have B5 := Lib.hid (below_next B4.out b5)
        have K5 := Lib.hid b5
        clear b5 HWA
        go_wp2_with fail
        refine (HRWA.out w5 B5.out).mono ?_
        rintro e w6 ⟨rfl, rfl⟩
        go_wp2_with fail
        refine (HWO.out w5 B5.out).mono ?_
        rintro e w6 ⟨rfl, b6⟩
        have B6 := Lib.hid (below_next B5.out b6)
        have K6 := Lib.hid (below_next K5.out b6)
        clear b6 HWO HRWA
        go_wp2_with fail
        refine (HRWO.out w6 B6.out).mono ?_
        rintro e w7 ⟨rfl, b7⟩
        have B7 := Lib.hid (below_next B6.out b7)
        have HRF7 := Lib.hid (HRF.out.below (below_next K6.out b7))
        have HRW7 := Lib.hid (HRW.out.below B7.out)
        have HB7 := Lib.hid (below_next HBW.out B7.out)
        clear b7 HRWO HRF K5 K6 B4 B5 B6
        go_wp2_with fail
        generalize wr = wa at *
        go_loopw [11, 86] (fun v11 i wr => ∃ j : Nat, j ≤ k ∧ i = .int .i64 j ∧ v11 = .int .i64 (cntH fx j) ∧ Hid (Below w7.heap.size w7 wr)) (fun _ i _ => k - (intOf i).toNat)
        case atStart => exact ⟨0, Nat.zero_le _, rfl, rfl, Below.refl _ _⟩
        case round =>
          obtain ⟨j, hj, rfl, rfl, HBJ⟩ := hrel
          by_cases hjk : j < k
          · obtain ⟨u, hu⟩ : ∃ u, fx[j]? = some u := ⟨_, List.getElem?_eq_getElem (by rw [HFL.out]; exact hjk)⟩
            obtain ⟨b, off, rfl, _, hc⟩ := (HRW7.out.below HBJ.out).row (usesV_get hu)
            have d0 : wr.cell? ⟨b, off + j * 3, none⟩ = some (.int .i64 u.live) := hc 0 _ rfl
            have d1 : wr.cell? ⟨b, off + j * 3 + 1, none⟩ = some (.int .i64 u.state) := by have := hc 1 _ rfl; rwa [← Nat.add_assoc] at this
            have d2 : wr.cell? ⟨b, off + j * 3 + 2, none⟩ = some (.int .u32 u.age) := by have := hc 2 _ rfl; rwa [← Nat.add_assoc] at this
            have hx1 : (0 : Int) ≤ (j : Int) := by omega
            have hx2 : (j : Int) < (k : Int) := by omega
            have hfu := HFF.out u (List.mem_of_getElem? hu)
            have HU := Lib.hid hu
            have hcl : cntH fx j ≤ j := cntH_le fx j
            clear hc hu
            have HHE : Hid (halfU u = (u.state == 1 || u.state == 2)) := Lib.hid rfl
            cases hh : (u.state == 1 || u.state == 2) with
            | false =>
              rw [Bool.or_eq_false_iff] at hh
              obtain ⟨hs1, hs2⟩ := hh
              have HNC := Lib.hid (cntH_no HU.out (HHE.out.trans (by rw [hs1, hs2]; rfl)))
              go_wp2_with fail
              go_roundw
              case rel => exact ⟨j + 1, by omega, by go_num, by rw [HNC.out], HBJ.out.alloc HBJ.out.size _⟩
              case measure => simp [intOf]; omega
            | true =>
              have HNC := Lib.hid (cntH_yes HU.out (HHE.out.trans hh))
              have hnth := part_nth (room := room) (n := k) HU.out (HHE.out.trans hh) hjk
              obtain ⟨g2, f2, rfl, _, e0⟩ := (HRF7.out.below HBJ.out).at (fltsV_get hnth)
              have hcP : cntH fx j < P := by
                have h2 := (List.getElem?_eq_some_iff.1 hnth).1
                rw [len_parts, HPE.out] at h2
                exact h2
              obtain ⟨hq, hqn, _⟩ := wordQ_is h0 h1 hfu.1 hfu.2
              obtain ⟨cn, hcn⟩ : ∃ c, cntH fx j = c := ⟨_, rfl⟩
              rw [hcn] at HNC hcl hcP e0 ⊢
              generalize wordQ room u.live = q at *
              have hrun := fun W => run_float_arith (P := Try.prog) W .quo 34 .f64 _ _ q hq
              have heq : (FloatKind.f64.format.order q q == some .eq) = true := by
                show (Ieee.double.order q q == some .eq) = true
                rw [order_self q hqn]; rfl
              have hneq : (FloatKind.f64.format.order q q != some .eq) = false := (isnan_of q).trans hqn
              have hws : IntKind.i64.wrap ((cn : Int) + 1) = (cn : Int) + 1 := IntWalk.i64_in _ (by omega)
              have hy1 : (0 : Int) ≤ (cn : Int) := by omega
              have hy2 : (cn : Int) < (P : Int) := by omega
              have e0' : (wr.alloc (.cells #[.int .i64 u.live, .int .i64 u.state, .int .u32 u.age] 27)).cell? ⟨g2, f2 + cn, none⟩ = some (.float .f64 q) := ((below_box wr _).cell (p := ⟨g2, f2 + cn, none⟩) (World.block_lt_of_cell? _ _ e0)).trans e0
              clear hcn hq hqn hnth hfu hcl
              cases hs1 : u.state == 1 with
              | true =>
                clear hh
                go_wp2_with fail
                go_quiet (fail)
                go_wp2_with fail
                go_roundw
                case rel => exact ⟨j + 1, by omega, by go_num, by rw [HNC.out]; go_num, below_next (HBJ.out.alloc HBJ.out.size _) (below_drewN _ _)⟩
                case measure => simp [intOf]; omega
              | false =>
                rw [hs1, Bool.false_or] at hh
                go_wp2_with fail
                go_quiet (fail)
                go_wp2_with fail
                go_roundw
                case rel => exact ⟨j + 1, by omega, by go_num, by rw [HNC.out]; go_num, below_next (HBJ.out.alloc HBJ.out.size _) (below_drewN _ _)⟩
                case measure => simp [intOf]; omega
          · have hjn : j = k := by omega
            subst hjn
            go_wp2
            go_ret
            exact ⟨rfl, below_next HB7.out HBJ.out⟩
end Go.Proofs.Ytplkglepbedhoaa
