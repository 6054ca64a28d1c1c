/- The inode map: numbers that aren't given; Release; Alloc where none is free. -/
import Derived.Test.YtpmfkamagdifgaaMap2
namespace Go.Proofs.Ytpmfkamagdifgaa
open Go.RowKit Go.Sort
set_option linter.unusedVariables false
set_option linter.unusedSimpArgs false
set_option maxRecDepth 100000

theorem mused_no {B : Nat} {w : World} {g gs : Nat} {sl : List SlotD} (h : IsMap B w g gs sl) (n : Int) (hn : n < 1 ∨ (sl.length : Int) < n) :
    Calls Try.prog 114 #[.pointer (some ⟨g, 0, none⟩), .int .i64 n] w fun e w' => e = .returned (.tuple #[.pointer none, .int .i64 1]) ∧ w = w' := by
  have H := Lib.hid h
  have HN := Lib.hid hn
  clear h hn
  go_enter Try.func114, Try.ntmps114
  go_wp2_with fail
  refine (mhas_no H.out n HN.out).mono ?_
  rintro e w' ⟨rfl, rfl⟩
  go_wp2
  go_ret2
  exact ⟨rfl, rfl⟩
set_option maxHeartbeats 1000000 in
theorem mused_free {B : Nat} {w : World} {g gs : Nat} {sl : List SlotD} (h : IsMap B w g gs sl) (i : Nat) (s : SlotD) (hu : sl[i]? = some s) (hk : (s.kind == 0) = true) :
    Calls Try.prog 114 #[.pointer (some ⟨g, 0, none⟩), .int .i64 ((i : Int) + 1)] w fun e w' => e = .returned (.tuple #[.pointer none, .int .i64 4]) ∧ Below w.heap.size w w' := by
  have c0 := map_facts h
  obtain ⟨r0, r1, r2, r3⟩ := map_row h hu
  have hi := (List.getElem?_eq_some_iff.1 hu).1
  have hlen := h.2.2.2.2.1
  have hi2 : (i : Int) < (sl.length : Int) := by omega
  have hi0 : (0 : Int) ≤ (i : Int) := by omega
  have hwi : IntKind.i64.wrap ((i : Int) + 1 - 1) = (i : Int) := by rw [show (i : Int) + 1 - 1 = (i : Int) by omega]; exact IntWalk.i64_in _ (by omega)
  have hI : (i : Int) ≤ 200 := by omega
  have H := Lib.hid h
  have HI := Lib.hid hi
  have HK := Lib.hid hk
  clear h hu hi hk
  go_enter Try.func114, Try.ntmps114
  go_wp2_with fail
  refine (mhas_yes H.out i HI.out).mono ?_
  rintro e w' ⟨rfl, rfl⟩
  go_wp2_with fail
  refine (free_is s w).mono ?_
  rintro e w' ⟨rfl, b1⟩
  have hk := HK.out
  have HB := Lib.hid b1
  clear b1
  go_wp2
  go_ret2
  exact ⟨rfl, HB.out⟩
theorem mrel_no {B : Nat} {w : World} {g gs : Nat} {sl : List SlotD} (h : IsMap B w g gs sl) (n : Int) (hn : n < 1 ∨ (sl.length : Int) < n) :
    Calls Try.prog 40 #[.pointer (some ⟨g, 0, none⟩), .int .i64 n] w fun e w' => e = .returned (.int .i64 1) ∧ w = w' := by
  have H := Lib.hid h
  have HN := Lib.hid hn
  clear h hn
  go_enter Try.func40, Try.ntmps40
  go_wp2_with fail
  refine (mused_no H.out n HN.out).mono ?_
  rintro e w' ⟨rfl, rfl⟩
  go_wp2
  go_ret
  exact ⟨rfl, rfl⟩
theorem mrel_free {B : Nat} {w : World} {g gs : Nat} {sl : List SlotD} (h : IsMap B w g gs sl) (i : Nat) (s : SlotD) (hu : sl[i]? = some s) (hk : (s.kind == 0) = true) :
    Calls Try.prog 40 #[.pointer (some ⟨g, 0, none⟩), .int .i64 ((i : Int) + 1)] w fun e w' => e = .returned (.int .i64 4) ∧ Below w.heap.size w w' := by
  have H := Lib.hid h
  have HU := Lib.hid hu
  have HK := Lib.hid hk
  clear h hu hk
  go_enter Try.func40, Try.ntmps40
  go_wp2_with fail
  refine (mused_free H.out i s HU.out HK.out).mono ?_
  rintro e w1 ⟨rfl, b1⟩
  have HB := Lib.hid b1
  clear b1
  go_wp2
  go_ret
  exact ⟨rfl, HB.out⟩
set_option maxHeartbeats 2000000 in
theorem mrel_yes {B : Nat} {w : World} {g gs : Nat} {sl : List SlotD} (h : IsMap B w g gs sl) (i : Nat) (s : SlotD) (hu : sl[i]? = some s) (hk : (s.kind == 0) = false) :
    Calls Try.prog 40 #[.pointer (some ⟨g, 0, none⟩), .int .i64 ((i : Int) + 1)] w (MapPost B w g gs (sl.set i ⟨0, s.version, 0, 0⟩) (.int .i64 0)) := by
  have ho : SlotOk s := h.2.2.2.2.2 s (List.mem_of_getElem? hu)
  have HPUT := Lib.hid (fun (W : World) (hW : IsMap B W g gs sl) => map_put hW hu (s' := ⟨0, s.version, 0, 0⟩) ⟨by show (0:Int) ≤ 0; omega, by show (0:Int) ≤ 65535; omega, ho.2.2.1, ho.2.2.2.1, by show (0:Int) ≤ 0; omega, by show (0:Int) ≤ 65535; omega, by show (0:Int) ≤ 0; omega, by show (0:Int) ≤ 2; omega⟩)
  have H := Lib.hid h
  have HU := Lib.hid hu
  have HK := Lib.hid hk
  clear h hu hk ho
  go_enter Try.func40, Try.ntmps40
  go_wp2_with fail
  refine (mused_yes H.out i s HU.out HK.out).mono ?_
  rintro e w1 ⟨rfl, b1⟩
  have h1 := H.out.below b1
  have HB1 := Lib.hid b1
  obtain ⟨r0, r1, r2, r3⟩ := map_row h1 HU.out
  have f0 := map_free h1 (i * 4)
  have f1 := map_free h1 (i * 4 + 1)
  have f2 := map_free h1 (i * 4 + 2)
  have f3 := map_free h1 (i * 4 + 3)
  have H1 := Lib.hid h1
  have hmp := HPUT.out _ H1.out
  have HNEW := Lib.hid hmp
  obtain ⟨W2, hW2⟩ : ∃ W2, W2 = (put4 w1 gs i ⟨0, s.version, 0, 0⟩) := ⟨_, rfl⟩
  rw [← hW2] at HNEW
  simp only [put4] at hW2
  clear b1 h1 hmp
  go_wp2
  first
    | (rw [← hW2]; go_ret; exact ⟨rfl, HNEW.out.1, grown_below HB1.out HNEW.out.2⟩)
    | (go_ret; exact ⟨rfl, HNEW.out.1, grown_below HB1.out HNEW.out.2⟩)
set_option maxHeartbeats 2000000 in
theorem malloc_none {B : Nat} {w : World} {g gs : Nat} {sl : List SlotD} (h : IsMap B w g gs sl) (hf : firstI (fun s : SlotD => s.kind == 0) sl = -1) (kd : Int) (hk1 : 1 ≤ kd) (hk2 : kd ≤ 2) :
    Calls Try.prog 41 #[.pointer (some ⟨g, 0, none⟩), .int .i64 kd] w fun e w' => e = .returned (.tuple #[.int .i64 0, .int .u32 0, .int .i64 11]) ∧ Below w.heap.size w w' := by
  have c0 := map_facts h
  have hlen := h.2.2.2.2.1
  have HIX := Lib.hid (index_slot sl (some ⟨gs, 0, none⟩) sl.length w (map_reads h) (by omega) (fun _ => True) (fun _ _ => trivial) (fun s => s.kind == 0) 117 #[] enters_free (free_pred w))
  rw [hf] at HIX
  clear h hf
  go_enter Try.func41, Try.ntmps41
  go_wp2_with fail
  refine (among_yes kd 1 2 w hk1 hk2).mono ?_
  rintro e w' ⟨rfl, rfl⟩
  go_wp2_with fail
  refine HIX.out.mono ?_
  rintro e w1 ⟨rfl, b1⟩
  have HB1 := Lib.hid b1
  clear b1
  go_wp2
  go_ret3
  exact ⟨rfl, HB1.out⟩
end Go.Proofs.Ytpmfkamagdifgaa
