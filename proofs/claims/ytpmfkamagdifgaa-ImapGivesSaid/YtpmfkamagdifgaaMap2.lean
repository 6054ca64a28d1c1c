/- The inode map: Get, Alloc, used, Link, Release, Used, Count. -/
import Derived.Test.YtpmfkamagdifgaaMap
import Derived.Deep.QuietTactic
import Derived.BigQuiet
namespace Go.Proofs.Ytpmfkamagdifgaa
open Go.RowKit Go.Sort
set_option linter.unusedVariables false
set_option linter.unusedSimpArgs false
set_option maxRecDepth 100000

set_option maxHeartbeats 1000000 in
theorem mget_yes {B : Nat} {w : World} {g gs : Nat} {sl : List SlotD} (h : IsMap B w g gs sl) (i : Nat) (s : SlotD) (hu : sl[i]? = some s) :
    Calls Try.prog 52 #[.pointer (some ⟨g, 0, none⟩), .int .i64 ((i : Int) + 1)] w fun e w' => e = .returned (.tuple #[.agg #[.int .i64 s.place, .int .u32 s.version, .int .i64 s.links, .int .i64 s.kind], .int .i64 0]) ∧ Below w.heap.size w w' := by
  have h2 := h.below (below_box w (.cells #[.int .i64 0, .int .u32 0, .int .i64 0, .int .i64 0] 29))
  have c0 := map_facts h2
  obtain ⟨r0, r1, r2, r3⟩ := map_row h2 hu
  have hi := (List.getElem?_eq_some_iff.1 hu).1
  obtain ⟨l1, l2⟩ := map_lt h
  have H2 := Lib.hid h2
  have hlen := h.2.2.2.2.1
  have hi2 : (i : Int) < (sl.length : Int) := by omega
  have hi0 : (0 : Int) ≤ (i : Int) := by omega
  have HI := Lib.hid hi
  have s1 : IntKind.i64.wrap ((i : Int) + 1 - 1) = (i : Int) := by rw [IntWalk.i64_in _ (by omega)]; omega
  have s2 : (i : Int) + 1 - 1 = (i : Int) := by omega
  clear h2 h hu hi
  go_enter Try.func52, Try.ntmps52
  go_wp2_with fail
  refine (mhas_yes H2.out i HI.out).mono ?_
  rintro e w' ⟨rfl, rfl⟩
  go_wp2
  refine bodyPost_ret (v := .tuple #[.agg #[.int .i64 s.place, .int .u32 s.version, .int .i64 s.links, .int .i64 s.kind], .int .i64 0]) (by simp [results, Try.results52, go_sem]) rfl ⟨rfl, (Below.refl _ _).alloc (Nat.le_refl _) _⟩
def MapPost (B : Nat) (w : World) (g gs : Nat) (sl : List SlotD) (v : Value) (e : Ending) (w' : World) : Prop :=
  e = .returned v ∧ IsMap B w' g gs sl ∧ w.grownBy w' (some gs)
/-- The version behind. -/
def nextV (v : Int) : Int := (v + 1) % 4294967296
theorem grown_below {w w1 w' : World} {row : Option Nat} (b : Below w.heap.size w w1) (h : w1.grownBy w' row) : w.grownBy w' row :=
  ⟨h.os.trans b.os, h.tape.trans b.tape, h.output.trans b.output, Nat.le_trans b.size h.size, fun k hk hne => (h.block k (Nat.lt_of_lt_of_le hk b.size) hne).trans (b.block k hk)⟩
set_option maxHeartbeats 2000000 in
theorem malloc_yes {B : Nat} {w : World} {g gs : Nat} {sl : List SlotD} (h : IsMap B w g gs sl) (i : Nat) (s : SlotD) (hu : sl[i]? = some s) (hf : firstI (fun s : SlotD => s.kind == 0) sl = (i : Int)) (kd : Int) (hk1 : 1 ≤ kd) (hk2 : kd ≤ 2) :
    Calls Try.prog 41 #[.pointer (some ⟨g, 0, none⟩), .int .i64 kd] w (MapPost B w g gs (sl.set i ⟨0, nextV s.version, 0, kd⟩) (.tuple #[.int .i64 ((i : Int) + 1), .int .u32 (nextV s.version), .int .i64 0])) := by
  have c0 := map_facts h
  have hi := (List.getElem?_eq_some_iff.1 hu).1
  have hlen := h.2.2.2.2.1
  have ho : SlotOk s := h.2.2.2.2.2 s (List.mem_of_getElem? hu)
  have hv0 := ho.2.2.1
  have hv1 := ho.2.2.2.1
  have hnv : 0 ≤ nextV s.version ∧ nextV s.version < 4294967296 := by unfold nextV; omega
  have HIX := Lib.hid (index_slot sl (some ⟨gs, 0, none⟩) sl.length w (map_reads h) (by omega) (fun _ => True) (fun _ _ => trivial) (fun s => s.kind == 0) 117 #[] enters_free (free_pred w))
  rw [hf] at HIX
  have H := Lib.hid h
  have HU := Lib.hid hu
  have HNV := Lib.hid hnv
  have hi2 : (i : Int) < (sl.length : Int) := by omega
  have hi0 : (0 : Int) ≤ (i : Int) := by omega
  have hin : ¬ (i : Int) < 0 := by omega
  have hI : (i : Int) ≤ 200 := by omega
  have HI := Lib.hid hi
  clear h hu hf ho hnv hi
  go_enter Try.func41, Try.ntmps41
  go_wp2_with fail
  refine (among_yes kd 1 2 w hk1 hk2).mono ?_
  rintro e w' ⟨rfl, rfl⟩
  go_wp2_with fail
  refine HIX.out.mono ?_
  rintro e w1 ⟨rfl, b1⟩
  have h1 := H.out.below b1
  have HB1 := Lib.hid b1
  have c1 := map_facts h1
  obtain ⟨r0, r1, r2, r3⟩ := map_row h1 HU.out
  have f0 := map_free h1 (i * 4)
  have f1 := map_free h1 (i * 4 + 1)
  have f2 := map_free h1 (i * 4 + 2)
  have f3 := map_free h1 (i * 4 + 3)
  have H1 := Lib.hid h1
  obtain ⟨nv, hnv⟩ : ∃ nv, nextV s.version = nv := ⟨_, rfl⟩
  have hwv : IntKind.u32.wrap (s.version + 1) = nv := by
    rw [← hnv]
    unfold nextV
    rw [IntKind.wrap_u32]
  have HPUT := Lib.hid (fun (W : World) (hW : IsMap B W g gs sl) => map_put hW HU.out (s' := ⟨0, nextV s.version, 0, kd⟩) ⟨by show (0:Int) ≤ 0; omega, by show (0:Int) ≤ 65535; omega, HNV.out.1, HNV.out.2, by show (0:Int) ≤ 0; omega, by show (0:Int) ≤ 65535; omega, by show 0 ≤ kd; omega, hk2⟩)
  have HN := Lib.hid hnv
  rw [hnv] at HPUT
  have hmp := HPUT.out _ H1.out
  have HNEW := Lib.hid (hmp.1.below (below_drew _))
  have HGR := Lib.hid hmp.2
  obtain ⟨W2, hW2⟩ : ∃ W2, W2 = (put4 w1 gs i ⟨0, nv, 0, kd⟩).drew := ⟨_, rfl⟩
  rw [← hW2] at HNEW
  have HGR2 : Hid (w1.grownBy W2 (some gs)) := by rw [hW2]; exact Lib.hid (grown_to_drew HGR.out)
  simp only [put4] at hW2
  clear b1 h1 hnv c0 hmp HGR
  go_wp2
  go_region
  rw [← hW2]
  clear hW2 c1 r0 r1 r2 r3 f0 f1 f2 f3 hwv
  have c1 := map_facts HNEW.out
  rw [List.length_set] at c1
  obtain ⟨r0, r1, r2, r3⟩ := map_row HNEW.out (List.getElem?_set_self HI.out)
  have hwi : IntKind.i64.wrap ((i : Int) + 1) = (i : Int) + 1 := IntWalk.i64_in _ (by omega)
  have HRES : Hid (IsMap B W2 g gs (sl.set i ⟨0, nv, 0, kd⟩) ∧ w.grownBy W2 (some gs)) := Lib.hid ⟨HNEW.out, grown_below HB1.out HGR2.out⟩
  go_wp2
  go_quiet (fail)
  clear hwi
  go_wp2
  go_ret3
  have hh := HRES.out
  rw [HN.out]
  exact ⟨rfl, hh.1.below (below_drewN _ nq), grown_to_drewN hh.2⟩
theorem malloc_bad {w : World} {g : Nat} (kd : Int) (hk : kd < 1 ∨ 2 < kd) :
    Calls Try.prog 41 #[.pointer (some ⟨g, 0, none⟩), .int .i64 kd] w fun e w' => e = .returned (.tuple #[.int .i64 0, .int .u32 0, .int .i64 1]) ∧ w = w' := by
  have HK := Lib.hid hk
  clear hk
  go_enter Try.func41, Try.ntmps41
  go_wp2_with fail
  refine (among_no kd 1 2 w HK.out).mono ?_
  rintro e w' ⟨rfl, rfl⟩
  go_wp2
  go_ret3
  exact ⟨rfl, rfl⟩
set_option maxHeartbeats 1000000 in
theorem mused_yes {B : Nat} {w : World} {g gs : Nat} {sl : List SlotD} (h : IsMap B w g gs sl) (i : Nat) (s : SlotD) (hu : sl[i]? = some s) (hk : (s.kind == 0) = false) :
    Calls Try.prog 114 #[.pointer (some ⟨g, 0, none⟩), .int .i64 ((i : Int) + 1)] w fun e w' => e = .returned (.tuple #[.pointer (some ⟨gs, i * 4, none⟩), .int .i64 0]) ∧ Below w.heap.size w w' := by
  have c0 := map_facts h
  obtain ⟨r0, r1, r2, r3⟩ := map_row h hu
  have hi := (List.getElem?_eq_some_iff.1 hu).1
  have hlen := h.2.2.2.2.1
  have hi2 : (i : Int) < (sl.length : Int) := by omega
  have hi0 : (0 : Int) ≤ (i : Int) := by omega
  have hwi : IntKind.i64.wrap ((i : Int) + 1 - 1) = (i : Int) := by rw [show (i : Int) + 1 - 1 = (i : Int) by omega]; exact IntWalk.i64_in _ (by omega)
  have hI : (i : Int) ≤ 200 := by omega
  have H := Lib.hid h
  have HI := Lib.hid hi
  have HK := Lib.hid hk
  clear h hu hi hk
  go_enter Try.func114, Try.ntmps114
  go_wp2_with fail
  refine (mhas_yes H.out i HI.out).mono ?_
  rintro e w' ⟨rfl, rfl⟩
  go_wp2_with fail
  refine (free_is s w).mono ?_
  rintro e w' ⟨rfl, b1⟩
  have hk := HK.out
  have HB := Lib.hid b1
  clear b1
  go_wp2
  go_ret2
  exact ⟨rfl, HB.out⟩
end Go.Proofs.Ytpmfkamagdifgaa
