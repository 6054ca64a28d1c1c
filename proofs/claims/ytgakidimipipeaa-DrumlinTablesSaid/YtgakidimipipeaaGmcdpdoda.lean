/- The inode map: Slots; the law's Slot, Told; the document's May, Used. -/
import Derived.Test.YtgakidimipipeaaGpkninndn
namespace Go.Proofs.Ytgakidimipipeaa
open Go.RowKit Go.Sort
set_option linter.unusedVariables false
set_option linter.unusedSimpArgs false
set_option maxRecDepth 100000

theorem slot_own (s : SlotD) (w : World) : Calls Try.prog 9 #[.agg #[.int .i64 s.place, .int .u32 s.version, .int .i64 s.links, .int .i64 s.kind]] w fun e w' => e = .returned (.agg #[.int .i64 s.place, .int .u32 s.version, .int .i64 s.links, .int .i64 s.kind]) ∧ Below w.heap.size w w' := by
  go_enter Try.func9, Try.ntmps9
  go_wp2
  refine bodyPost_ret (v := .agg #[.int .i64 s.place, .int .u32 s.version, .int .i64 s.links, .int .i64 s.kind]) (by simp [results, Try.results9, go_sem]) rfl ⟨rfl, ((Below.refl _ _).alloc (Nat.le_refl _) _).alloc (by simp) _⟩
theorem slot_told (s : SlotD) (w : World) : Calls Try.prog 49 #[.agg #[.int .i64 s.place, .int .u32 s.version, .int .i64 s.links, .int .i64 s.kind]] w fun e w' => e = .returned (.agg #[.int .i64 s.place, .int .u32 s.version, .int .i64 s.links, .int .i64 s.kind]) ∧ Below w.heap.size w w' := by
  go_enter Try.func49, Try.ntmps49
  go_wp2
  refine bodyPost_ret (v := .agg #[.int .i64 s.place, .int .u32 s.version, .int .i64 s.links, .int .i64 s.kind]) (by simp [results, Try.results49, go_sem]) rfl ⟨rfl, ((Below.refl _ _).alloc (Nat.le_refl _) _).alloc (by simp) _⟩
theorem slotsV_one (sl : List SlotD) : OneRows (slotsV sl) := by
  intro p hp u hu
  unfold slotsV at hp
  obtain ⟨s, _, rfl⟩ := List.mem_map.1 hp
  simp [slotV] at hu
  rcases hu with rfl | rfl | rfl | rfl <;> rfl
set_option maxHeartbeats 1000000 in
theorem mslots_is {B : Nat} {w : World} {g gs : Nat} {sl : List SlotD} (h : IsMap B w g gs sl) : Calls Try.prog 48 #[.pointer (some ⟨g, 0, none⟩)] w fun e w' => ∃ v, e = .returned v ∧ OwnsR' w.heap.size w' 28 4 v (slotsV sl) ∧ Below w.heap.size w w' := by
  have c0 := map_facts h
  have hlen := h.2.2.2.2.1
  have HRD := Lib.hid (map_reads h)
  have HONE := Lib.hid (slotsV_one sl)
  have HL1 : Hid ((([] : List (List Value)).length + (slotsV sl).length) * 32 ≤ 140737488355328) := by show _ ≤ _; rw [slotsV_length]; simp; omega
  have HL2 : Hid (([] : List (List Value)).length + (slotsV sl).length ≤ maxLen) := by show _ ≤ _; rw [slotsV_length]; unfold maxLen; simp; omega
  have HSV := Lib.hid (slotsV_length sl)
  generalize slotsV sl = V at *
  obtain ⟨n, hn⟩ : ∃ n, sl.length = n := ⟨_, rfl⟩
  rw [hn] at c0 HSV
  clear h hlen hn
  go_enter Try.func48, Try.ntmps48
  go_wp2_with (at_builtin; refine wpList_append_rows' rfl _ _ 24 rfl w.heap.size 28 (.agg #[.int .i64 0, .int .u32 0, .int .i64 0, .int .i64 0]) 4 32 Try.underlying24 info_slot rfl (by decide) (.slice none 0 0) [] rfl (OwnsR'.nil _ _ _ _) (some ⟨gs, 0, none⟩) n V (by rw [HSV.out]; rfl) HRD.out HONE.out HL1.out HL2.out (Nat.le_refl _) ?_; intro v1 w1 ho hg; have HO := Lib.hid ho; have HBG := Lib.hid ((Below.refl w.heap.size w).grown hg (Nat.le_refl _) (fun j hj => by cases hj)); clear ho hg)
  go_ret
  exact ⟨_, rfl, HO.out, HBG.out⟩
set_option maxHeartbeats 2000000 in
/-- The document's word on a slot. -/
theorem rmay_is4 (s : SlotD) (w : World) : Calls Try.prog 10 #[.agg #[.int .i64 s.place, .int .u32 s.version, .int .i64 s.links, .int .i64 s.kind]] w fun e w' => e = .returned (.bool (mayS s)) ∧ Below w.heap.size w w' := by
  have hb := below_box w (.cells #[.int .i64 s.place, .int .u32 s.version, .int .i64 s.links, .int .i64 s.kind] 27)
  have HB := Lib.hid hb
  have hm : mayS s = (decide (0 ≤ s.place) && decide (s.place ≤ 65535) && (decide (0 ≤ s.links) && decide (s.links ≤ 65535)) && (decide (0 ≤ s.kind) && decide (s.kind ≤ 2))) := rfl
  rw [hm]
  clear hm hb
  cases h0 : decide (0 ≤ s.place)
  · go_enter Try.func10, Try.ntmps10
    go_wp2
    go_ret
    exact ⟨by simp, HB.out⟩
  · cases h1 : decide (s.place ≤ 65535)
    · go_enter Try.func10, Try.ntmps10
      go_wp2
      go_ret
      exact ⟨by simp, HB.out⟩
    · cases h2 : decide (0 ≤ s.links)
      · go_enter Try.func10, Try.ntmps10
        go_wp2
        go_ret
        exact ⟨by simp, HB.out⟩
      · cases h3 : decide (s.links ≤ 65535)
        · go_enter Try.func10, Try.ntmps10
          go_wp2
          go_ret
          exact ⟨by simp, HB.out⟩
        · cases h4 : decide (0 ≤ s.kind)
          · go_enter Try.func10, Try.ntmps10
            go_wp2
            go_ret
            exact ⟨by simp, HB.out⟩
          · cases h5 : decide (s.kind ≤ 2)
            · go_enter Try.func10, Try.ntmps10
              go_wp2
              go_ret
              exact ⟨by simp, HB.out⟩
            · go_enter Try.func10, Try.ntmps10
              go_wp2
              go_ret
              exact ⟨by simp, HB.out⟩
/-- The numbers, ahead of k, that aren't free. -/
def usedTo (sl : List SlotD) (k : Nat) : List Nat := (placesL (fun s : SlotD => !(s.kind == 0)) sl k).map (· + 1)
theorem usedTo_yes {sl : List SlotD} {k : Nat} {s : SlotD} (h : sl[k]? = some s) (hp : (s.kind == 0) = false) : usedTo sl (k + 1) = usedTo sl k ++ [k + 1] := by unfold usedTo; rw [placesL_yes h (by rw [hp]; rfl), List.map_append]; rfl
theorem usedTo_no {sl : List SlotD} {k : Nat} {s : SlotD} (h : sl[k]? = some s) (hp : (s.kind == 0) = true) : usedTo sl (k + 1) = usedTo sl k := by unfold usedTo; rw [placesL_no h (by rw [hp]; rfl)]
theorem usedTo_len (sl : List SlotD) (k : Nat) : (natV (usedTo sl k)).length ≤ k := by rw [natV_length]; unfold usedTo; rw [List.length_map]; exact placesL_length _ _ _
set_option maxHeartbeats 1600000 in
theorem rused_is (sl : List SlotD) (a : Option Addr) (cap : Nat) (w : World) (hr : ReadsR w a 4 (slotsV sl)) (hn : sl.length ≤ 1000) :
    Calls Try.prog 51 #[.slice a sl.length cap] w fun e w' => ∃ v, e = .returned v ∧ OwnsV w.heap.size w' 3 v (natV (usedTo sl sl.length)) ∧ Below w.heap.size w w' := by
  have HR := Lib.hid hr
  obtain ⟨n, hnn⟩ : ∃ n, sl.length = n := ⟨_, rfl⟩
  rw [hnn] at hn ⊢
  have HN := Lib.hid hnn
  clear hr hnn
  go_enter Try.func51, Try.ntmps51
  go_wp2_with fail
  go_loopw [3, 4] (fun v i wr => ∃ k : Nat, k ≤ n ∧ i = .int .i64 k ∧ Hid (OwnsV w.heap.size wr 3 v (natV (usedTo sl k))) ∧ Hid (Below w.heap.size w wr)) (fun _ i _ => n - (intOf i).toNat)
  case atStart => exact ⟨0, Nat.zero_le _, rfl, OwnsV.nil _ _ _, Below.refl _ _⟩
  case round =>
    obtain ⟨k, hk, rfl, HO, HB⟩ := hrel
    by_cases hlt : k < n
    · obtain ⟨s, hs⟩ : ∃ s, sl[k]? = some s := ⟨_, List.getElem?_eq_getElem (by rw [HN.out]; exact hlt)⟩
      obtain ⟨b, off, rfl, _, hc⟩ := (HR.out.below HB.out).row (slotsV_get hs)
      have c3 : wr.cell? ⟨b, off + k * 4 + 3, none⟩ = some (.int .i64 s.kind) := by have := hc 3 _ rfl; rwa [← Nat.add_assoc] at this
      have hx0 : (0 : Int) ≤ (k : Int) := by omega
      have hx1 : (k : Int) < (n : Int) := by omega
      have HS := Lib.hid hs
      have HLen := Lib.hid (usedTo_len sl k)
      have hwk : IntKind.i64.wrap ((k : Int) + 1) = (k : Int) + 1 := IntWalk.i64_in _ (by omega)
      clear hc hs
      cases hz : s.kind == 0 with
      | true =>
        have hz' : (s.kind != 0) = false := by simpa using hz
        have HNX := Lib.hid (usedTo_no HS.out hz)
        go_wp2_with fail
        go_roundw
        case rel => exact ⟨k + 1, by omega, by go_num, by show OwnsV _ _ _ _ _; rw [HNX.out]; exact HO.out, HB.out⟩
        case measure => simp [intOf]; omega
      | false =>
        have hz' : (s.kind != 0) = true := by simpa using hz
        have HNX := Lib.hid (congrArg natV (usedTo_yes HS.out hz))
        go_wp2_with (at_builtin; refine wpList_append_vals rfl _ _ 45 rfl w.heap.size 3 (.int .i64 0) 8 Try.underlying45 info_int rfl _ _ rfl (HO.out.alloc _) _ _ _ rfl _ (ReadsV.lit wr #[.int .i64 ((k : Int) + 1)] 3) (by intro y hy; simp at hy; subst hy; rfl) (by have := HLen.out; simp; omega) (by have := HLen.out; unfold maxLen; simp; omega) (by have h2 := HB.out.size; simp; omega) ?_; intro v' w3 ho hg)
        go_roundw
        case rel =>
          refine ⟨k + 1, by omega, by go_num, ?_, ?_⟩
          · show OwnsV _ _ _ _ _
            rw [HNX.out, natV_append]
            exact ho
          · refine (HO.out.alloc _).grown ?_ ?_ hg
            · exact HB.out.alloc HB.out.size _
            · have h2 := HB.out.size; simp; omega
        case measure => simp [intOf]; omega
    · have hkn : k = n := by omega
      subst hkn
      go_wp2
      go_ret
      exact ⟨_, rfl, HO.out, HB.out⟩
end Go.Proofs.Ytgakidimipipeaa
