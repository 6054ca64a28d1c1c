/- The document's Order. -/
import Derived.Test.YtnlbjpnhepdicaaRTab
import Derived.Test.YtnlbjpnhepdicaaRRank
import Derived.Deep.DeepCutAuto
namespace Go.Proofs.Ytnlbjpnhepdicaa
open Go.RowKit Go.Sort
set_option linter.unusedVariables false
set_option linter.unusedSimpArgs false
set_option maxRecDepth 100000

theorem cross_le {gu gv gx cu cv cx : Int} (hv : 0 < cv) (hu : 0 ≤ cu) (hx : 0 ≤ cx) (h1 : gu * cv ≤ gv * cu) (h2 : gv * cx ≤ gx * cv) : gu * cx ≤ gx * cu := by
  have e1 : gu * cv * cx ≤ gv * cu * cx := Int.mul_le_mul_of_nonneg_right h1 hx
  have e2 : gv * cx * cu ≤ gx * cv * cu := Int.mul_le_mul_of_nonneg_right h2 hu
  have a1 : gv * cu * cx = gv * cx * cu := by rw [Int.mul_assoc, Int.mul_comm cu, ← Int.mul_assoc]
  have a2 : gu * cx * cv = gu * cv * cx := by rw [Int.mul_assoc, Int.mul_comm cx, ← Int.mul_assoc]
  have a3 : gx * cu * cv = gx * cv * cu := by rw [Int.mul_assoc, Int.mul_comm cu, ← Int.mul_assoc]
  have e3 : gu * cx * cv ≤ gx * cu * cv := by rw [a2, a3]; omega
  exact Int.le_of_mul_le_mul_right e3 hv
theorem cross_lt {gu gv gx cu cv cx : Int} (hv : 0 < cv) (hu : 0 < cu) (hx : 0 < cx) (h1 : gv * cu < gu * cv) (h2 : gx * cv < gv * cx) : gx * cu < gu * cx := by
  have e1 : gv * cu * cx < gu * cv * cx := Int.mul_lt_mul_of_pos_right h1 hx
  have e2 : gx * cv * cu < gv * cx * cu := Int.mul_lt_mul_of_pos_right h2 hu
  have a1 : gv * cu * cx = gv * cx * cu := by rw [Int.mul_assoc, Int.mul_comm cu, ← Int.mul_assoc]
  have a2 : gu * cx * cv = gu * cv * cx := by rw [Int.mul_assoc, Int.mul_comm cx, ← Int.mul_assoc]
  have a3 : gx * cu * cv = gx * cv * cu := by rw [Int.mul_assoc, Int.mul_comm cu, ← Int.mul_assoc]
  have e3 : gx * cu * cv < gu * cx * cv := by rw [a2, a3]; omega
  exact Int.lt_of_mul_lt_mul_right e3 (by omega)
theorem weakU {room now : Int} {us : List UseD} (h : TabOk room us) : Weak (ltU room now us) (fun i => i < us.length) := by
  have key : ∀ a b (ha : a < us.length) (hb : b < us.length), ltU room now us a b = betterB room now us[a] us[b] := by
    intro a b ha hb
    unfold ltU
    rw [List.getElem?_eq_getElem ha, List.getElem?_eq_getElem hb]
  have cpos : ∀ a (ha : a < us.length), 0 < costI room us[a] := by
    intro a ha
    have := (h.2.2.2.2 us[a] (List.getElem_mem _)).1
    have := h.1
    unfold costI
    omega
  refine ⟨?_, ?_, ?_⟩
  · intro a ha
    rw [key a a ha ha]
    unfold betterB
    exact decide_eq_false (by omega)
  · intro a b c ha hb hc h1 h2
    rw [key a b ha hb] at h1
    rw [key b c hb hc] at h2
    rw [key a c ha hc]
    unfold betterB at *
    exact decide_eq_true (cross_lt (cpos b hb) (cpos a ha) (cpos c hc) (of_decide_eq_true h1) (of_decide_eq_true h2))
  · intro a b c ha hb hc h1 h2
    rw [key a b ha hb] at h1
    rw [key b c hb hc] at h2
    rw [key a c ha hc]
    unfold betterB at *
    have k1 := Int.not_lt.1 (of_decide_eq_false h1)
    have k2 := Int.not_lt.1 (of_decide_eq_false h2)
    exact decide_eq_false (Int.not_lt.2 (cross_le (cpos b hb) (Int.le_of_lt (cpos a ha)) (Int.le_of_lt (cpos c hc)) k1 k2))
theorem placesL_increasing {α : Type} (p : α → Bool) (l : List α) (k : Nat) : (placesL p l k).Pairwise (· < ·) := List.Pairwise.filter _ List.pairwise_lt_range
def cU (us : List UseD) (i : Nat) : Bool := match us[i]? with | some x => x.state == 1 | none => false
theorem inL_rem (us : List UseD) (n m : Nat) (hn : us.length = n) : remL (cU us) (List.replicate m false) n = inL 1 us := by
  rw [remL_none]
  unfold inL placesL
  rw [hn]
  apply List.filter_congr
  intro i _
  unfold cU
  cases us[i]? <;> rfl
def rorderL (room now : Int) (us : List UseD) : List Nat := selL (ltU room now us) us.length (inL 1 us)
theorem order_same {room now : Int} {us : List UseD} (h : TabOk room us) : orderL room now us = rorderL room now us :=
  sortL_selL (weakU h) (fun x hx => inL_lt hx) (placesL_increasing _ _ _) (placesL_length _ _ _)
set_option maxHeartbeats 4000000 in
theorem rorder_is (room : Int) (a : Option Addr) (cap : Nat) (us : List UseD) (now : Int) (h0 : 0 ≤ now) (h1 : now < 4294967296) (w : World) (hr : ReadsR w a 3 (usesV us)) (hok : TabOk room us) :
    Calls Try.prog 33 #[.agg #[.int .i64 room, .slice a us.length cap], .int .u32 now] w (RRankPost w (rorderL room now us)) := by
  have hlen := hok.2.2.2.1
  obtain ⟨W1, hW1⟩ : ∃ W1, w.alloc (.cells #[.int .i64 room, .slice a us.length cap] 59) = W1 := ⟨_, rfl⟩
  have b1 := below_box w (.cells #[.int .i64 room, .slice a us.length cap] 59)
  have hn1 := heap_alloc_new w (.cells #[.int .i64 room, .slice a us.length cap] 59)
  have hsz : W1.heap.size = w.heap.size + 1 := by rw [← hW1]; simp
  rw [hW1] at b1 hn1
  have c0 : W1.cell? ⟨w.heap.size, 0, none⟩ = some (.int .i64 room) := by unfold World.cell?; rw [hn1]; rfl
  have c1 : W1.cell? ⟨w.heap.size, 1, none⟩ = some (.slice a us.length cap) := by unfold World.cell?; rw [hn1]; rfl
  have HRd := Lib.hid (fun W (hW : Below W1.heap.size W1 W) => (hr.below b1).below hW)
  have HC := Lib.hid (fun W (hW : Below W1.heap.size W1 W) => (⟨(hW.cell (p := ⟨w.heap.size, 0, none⟩) (by rw [hsz]; simp)).trans c0, (hW.cell (p := ⟨w.heap.size, 1, none⟩) (by rw [hsz]; simp)).trans c1⟩ : W.cell? ⟨w.heap.size, 0, none⟩ = some (.int .i64 room) ∧ W.cell? ⟨w.heap.size, 1, none⟩ = some (.slice a us.length cap)))
  have HOK := Lib.hid hok
  have HB1 := Lib.hid b1
  obtain ⟨M, hM⟩ : ∃ M, rorderL room now us = M := ⟨_, rfl⟩
  rw [hM]
  obtain ⟨n, hnn⟩ : ∃ n, us.length = n := ⟨_, rfl⟩
  have hM0 : selL (ltU room now us) n (remL (cU us) (List.replicate n false) n) = M := by
    rw [inL_rem us n n hnn, ← hM, ← hnn]; rfl
  have HM0 := Lib.hid hM0
  have HN := Lib.hid hnn
  have HBET := Lib.hid (fun W (hW : Below W1.heap.size W1 W) (i j : Nat) (u v : UseD) (hu : us[i]? = some u) (hv : us[j]? = some v) => rbetter_is room a cap us i j u v hu hv now h0 h1 W ((hr.below b1).below hW) (hok.2.2.2.2 u (List.mem_of_getElem? hu)) (hok.2.2.2.2 v (List.mem_of_getElem? hv)) hok.1 hok.2.1)
  rw [hnn] at hlen HC c1 hW1 HBET ⊢
  have HW1 := Lib.hid hW1
  have hmk := fun W => run_make_bools n (by omega) W
  have hown := Lib.hid (made_bools W1 n (by omega))
  have HIR : Hid ((List.replicate n false).length = n) := List.length_replicate
  have HSZ := Lib.hid hsz
  clear hr hok b1 hn1 hM hM0 hnn hW1 hsz
  obtain ⟨u0, hu0⟩ : ∃ u0, List.replicate n false = u0 := ⟨_, rfl⟩
  rw [hu0] at HM0 hown HIR
  simp only [hu0] at hmk
  clear hu0
  go_enter Try.func33, Try.ntmps33
  go_upto_region 2 with (fail)
  have hw := HW1.out
  rw [hw]
  clear hw
  go_wp2
  go_loopg [5] n (fun gg v5 wr => ∃ (k : Nat) (acc : List Nat) (u : List Bool), k ≤ n ∧ n - k ≤ gg ∧ Hid (acc.length = k) ∧ Hid (u.length = n) ∧ Hid (OwnsV W1.heap.size wr 3 v5 (natV acc)) ∧ Hid (OwnsV W1.heap.size wr 4 (.slice (some ⟨W1.heap.size, 0, none⟩) n n) (boolV u)) ∧ Hid (acc ++ selL (ltU room now us) (n - k) (remL (cU us) u n) = M) ∧ Hid ((remL (cU us) u n).length ≤ n - k) ∧ Hid (Below W1.heap.size W1 wr))
  case atStart => exact ⟨0, [], u0, Nat.zero_le _, by omega, rfl, HIR, OwnsV.nil _ _ _, hown.out, by show [] ++ selL _ _ _ = M; exact HM0.out, by show _ ≤ _; exact remL_length _ _ _, below_box _ _⟩
  case round =>
    obtain ⟨k, acc, u, hk, hg, HK, HU, HO, HB, HSel, HRem, HW⟩ := hrel
    obtain ⟨wo, rfl⟩ : ∃ wo : World, wo = wr := ⟨_, rfl⟩
    obtain ⟨gko, rfl⟩ : ∃ x, x = gk := ⟨_, rfl⟩
    have hHO := HO.out.reads
    obtain ⟨a3, c3, hv3, _, _, _⟩ := hHO
    rw [natV_length, HK.out] at hv3
    subst hv3
    clear c0 c1
    go_wp2
    go_loopg [7, 8] n (fun gg2 s7 s8 wj => ∃ i : Nat, i ≤ n ∧ n - i ≤ gg2 ∧ s8 = .int .i64 i ∧ s7 = .int .i64 (bestI (pickL (ltU room now us) (remL (cU us) u i))) ∧ Hid (Below wo.heap.size wo wj))
    case atStart => exact ⟨0, Nat.zero_le _, by omega, rfl, rfl, Below.refl _ _⟩
    case round =>
      obtain ⟨i, hi, hg2, rfl, rfl, HJ⟩ := hrel
      obtain ⟨c0, c1⟩ := HC.out wr (below_next HW.out HJ.out)
      by_cases hin : i < n
      · obtain ⟨x, hx⟩ : ∃ x, us[i]? = some x := ⟨_, List.getElem?_eq_getElem (by rw [HN.out]; exact hin)⟩
        obtain ⟨b, off, rfl, hb, hc⟩ := (HRd.out _ (below_next HW.out HJ.out)).row (usesV_get hx)
        have d1 : wr.cell? ⟨b, off + i * 3 + 1, none⟩ = some (.int .i64 x.state) := by have := hc 1 _ rfl; rwa [← Nat.add_assoc] at this
        obtain ⟨ui, hui⟩ : ∃ x, u[i]? = some x := ⟨_, List.getElem?_eq_getElem (by rw [HU.out]; exact hin)⟩
        have cu := (HB.out.below HJ.out).cell (boolV_get hui)
        have hy1 : (0 : Int) ≤ (i : Int) := by omega
        have hy2 : (i : Int) < (n : Int) := by omega
        clear hc hb
        cases hst : x.state == 1 with
        | false =>
          have HS : Hid (bestI (pickL (ltU room now us) (remL (cU us) u (i + 1))) = bestI (pickL (ltU room now us) (remL (cU us) u i))) := pick_skip (by unfold cU; rw [hx]; simp only [hst]; rfl)
          clear hui hx
          generalize bestI (pickL (ltU room now us) (remL (cU us) u i)) = z at *
          go_wp2
          go_roundg (n - (i + 1))
          case measure => omega
          case rel => exact ⟨i + 1, by omega, by omega, by go_num, by rw [HS.out], HJ⟩
        | true =>
          cases ui with
          | true =>
            have HS : Hid (bestI (pickL (ltU room now us) (remL (cU us) u (i + 1))) = bestI (pickL (ltU room now us) (remL (cU us) u i))) := pick_skip (by simp [List.getD_eq_getElem?_getD, hui])
            clear hui hx
            generalize bestI (pickL (ltU room now us) (remL (cU us) u i)) = z at *
            go_wp2
            go_roundg (n - (i + 1))
            case measure => omega
            case rel => exact ⟨i + 1, by omega, by omega, by go_num, by rw [HS.out], HJ⟩
          | false =>
            have hcond : (cU us i && !(u.getD i false)) = true := by unfold cU; rw [hx]; simp only [hst]; simp [List.getD_eq_getElem?_getD, hui]
            cases hp : pickL (ltU room now us) (remL (cU us) u i) with
            | none =>
              have HS : Hid (bestI (pickL (ltU room now us) (remL (cU us) u (i + 1))) = (i : Int)) := pick_first hp hcond
              have hbn : bestI none = -1 := rfl
              rw [hbn]
              clear hui hcond hx hp hbn
              go_wp2
              go_roundg (n - (i + 1))
              case measure => omega
              case rel => exact ⟨i + 1, by omega, by omega, by go_num, by rw [HS.out], HJ⟩
            | some c =>
              have hbs : bestI (some c) = (c : Int) := rfl
              rw [hbs]
              have hci : c < i := (remL_mem (pickL_mem hp)).1
              obtain ⟨y, hy⟩ : ∃ y, us[c]? = some y := ⟨_, List.getElem?_eq_getElem (by rw [HN.out]; omega)⟩
              have hb0 : ¬ (c : Int) < 0 := by omega
              have hlt : ltU room now us i c = betterB room now x y := by unfold ltU; rw [hx, hy]
              have HBT := Lib.hid (HBET.out wr (below_next HW.out HJ.out) i c x y hx hy)
              cases hbb : betterB room now x y with
              | true =>
                rw [hbb] at HBT
                have HS : Hid (bestI (pickL (ltU room now us) (remL (cU us) u (i + 1))) = (i : Int)) := pick_better hp hcond (by rw [hlt, hbb])
                clear hui hcond hx hy hp hbs hlt hbb hci
                go_wp2_with (go_at_call 31; (with_reducible refine HBT.out.mono ?_); rintro e w5 ⟨rfl, b5⟩)
                go_roundg (n - (i + 1))
                case measure => omega
                case rel => exact ⟨i + 1, by omega, by omega, by go_num, by rw [HS.out], below_next HJ.out b5⟩
              | false =>
                rw [hbb] at HBT
                have HS : Hid (bestI (pickL (ltU room now us) (remL (cU us) u (i + 1))) = (c : Int)) := pick_worse hp hcond (by rw [hlt, hbb])
                clear hui hcond hx hy hp hbs hlt hbb hci
                go_wp2_with (go_at_call 31; (with_reducible refine HBT.out.mono ?_); rintro e w5 ⟨rfl, b5⟩)
                go_roundg (n - (i + 1))
                case measure => omega
                case rel => exact ⟨i + 1, by omega, by omega, by go_num, by rw [HS.out], below_next HJ.out b5⟩
      · have hin2 : i = n := by omega
        subst hin2
        cases hp : pickL (ltU room now us) (remL (cU us) u i) with
        | none =>
          have hbn : bestI none = -1 := rfl
          rw [hbn]
          have HE : Hid (acc = M) := by
            have h1 := HSel.out
            rw [selL_done hp, List.append_nil] at h1
            exact h1
          clear hp hbn
          go_wp2
          go_ret
          refine ⟨_, rfl, ?_, HB1.out.trans ((below_next HW.out HJ.out).mono HB1.out.size)⟩
          rw [← HE.out]
          exact (HO.out.below HJ.out).less HB1.out.size
        | some c =>
          have hbs : bestI (some c) = (c : Int) := rfl
          rw [hbs]
          have hci : c < i := (remL_mem (pickL_mem hp)).1
          obtain ⟨j, hj1, hj2, hj3⟩ := selL_next hp (k := i - k) HRem.out
          have hj : j = i - (k + 1) := by omega
          subst hj
          have hki : k + 1 ≤ i := by omega
          have HSel2 : Hid ((acc ++ [c]) ++ selL (ltU room now us) (i - (k + 1)) (remL (cU us) (u.set c true) i) = M) := by
            show _ = _
            rw [remL_set (by rw [HU.out]; exact Nat.le_refl _) hci, ← HSel.out, hj2]
            simp
          have HRem2 : Hid ((remL (cU us) (u.set c true) i).length ≤ i - (k + 1)) := by
            show _ ≤ _
            rw [remL_set (by rw [HU.out]; exact Nat.le_refl _) hci]
            exact hj3
          have HK2 : Hid ((acc ++ [c]).length = k + 1) := by show _ = _; rw [List.length_append, HK.out]; rfl
          have HU2 : Hid ((u.set c true).length = i) := by show _ = _; rw [List.length_set, HU.out]
          have q1 := HB.out.below HJ.out
          have o1 := HO.out.below HJ.out
          have st := q1.stored (by rw [boolV_length, HU.out]) c (.bool true)
          rw [boolV_set] at st
          have hfr := q1.frozen (by rw [boolV_length, HU.out]) c
          obtain ⟨ub, hub⟩ : ∃ x, u[c]? = some x := ⟨_, List.getElem?_eq_getElem (by rw [HU.out]; exact hci)⟩
          have hcb := q1.cell (boolV_get hub)
          clear hub
          have HST := Lib.hid st
          have O2 := Lib.hid (o1.kept st.2 (o1.apart2 q1 (by decide)))
          have W2 := Lib.hid (q1.grown (below_next HW.out HJ.out) (below_next HW.out HJ.out).size st.2)
          have hy1 : (0 : Int) ≤ (c : Int) := by omega
          have hy2 : (c : Int) < (i : Int) := by omega
          have hln : ¬ (c : Int) < 0 := by omega
          have HLn : Hid ((natV acc).length = k) := by show _ = _; rw [natV_length, HK.out]
          clear hp hbs hci hj1 hj2 hj3 q1 o1 st
          go_wp2_with (at_builtin; refine wpList_append_vals rfl (.tmp 52) (.tmp 54) 69 rfl W1.heap.size 3 (.int .i64 0) 8 Try.underlying69 info_int rfl _ (natV acc) rfl (O2.out.alloc _) _ 1 1 rfl _ (ReadsV.lit2 #[.int .i64 (c : Int)] 3 (by simp)) (by intro z hz; simp at hz; subst hz; rfl) (by rw [HLn.out]; omega) (by rw [HLn.out]; unfold maxLen; omega) (W2.out.alloc W2.out.size _).size ?_; intro v9 w9 ho9 hg9)
          go_roundg (i - (k + 1))
          case measure => omega
          case rel =>
            refine ⟨k + 1, acc ++ [c], u.set c true, by omega, Nat.le_refl _, HK2, HU2, ?_, ?_, HSel2, HRem2, ?_⟩
            · show OwnsV _ _ _ _ _
              rw [natV_append]
              exact ho9
            · exact ((HST.out.1).alloc (.cells #[.int .i64 (c : Int)] 3)).kept hg9 (((HST.out.1).alloc (.cells #[.int .i64 (c : Int)] 3)).apart2 (O2.out.alloc (.cells #[.int .i64 (c : Int)] 3)) (by decide))
            · exact (O2.out.alloc (.cells #[.int .i64 (c : Int)] 3)).grown (W2.out.alloc W2.out.size _) (W2.out.alloc W2.out.size _).size hg9
end Go.Proofs.Ytnlbjpnhepdicaa
