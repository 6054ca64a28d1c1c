/- Bytes as a text; the law's fixed fact about pipes. -/
import Derived.Test.YthainmbapikjiaaPipe5
import Derived.Laws.BytesArg
import Derived.Lib.BufferRead
import Derived.Lib.SlBytesConst
namespace Go.Proofs.Ythainmbapikjiaa
open Go.RowKit Go.Sort
set_option linter.unusedVariables false
set_option linter.unusedSimpArgs false
set_option maxRecDepth 100000

/-- The text of bytes. -/
def strL (l : List Nat) : ByteArray := strOfNums (l.map fun (n : Nat) => (n : Int))
theorem run_str {w : World} {a : Option Addr} {len : Nat} (cap : Nat) {l : List Nat} (h : Reads w a len l) : (convert 33 9 (.slice a len cap)).run Try.prog w = .ok (.string (strL l)) w := by
  obtain ⟨h1, h2, h3 | ⟨b, off, rfl, hb, hc⟩⟩ := h
  · subst h3
    subst h1
    cases a with
    | none => exact Lib.run_convert_nil_bytes w _ _ 5 cap Try.underlying33 Try.underlying5 Try.underlying9
    | some x =>
      obtain ⟨b, off, sp⟩ := x
      rw [run_convert_bytes_string w 33 9 5 _ _ _ Try.underlying33 Try.underlying5 Try.underlying9]
      have h9 := run_bytesToString (P := Try.prog) w ⟨b, off, sp⟩ 0 cap [] (by rfl)
      exact h9
  · refine run_convert_bytes_arg w 33 5 Try.underlying33 Try.underlying5 b off len cap (l.map fun (n : Nat) => (n : Int)) (by rw [List.length_map, h1]) (fun i hi => ?_) 9 Try.underlying9
    rw [hc i hi]
    rw [List.getD_eq_getElem?_getD, List.getD_eq_getElem?_getD, List.getElem?_map, List.getElem?_eq_getElem (by rw [h1]; exact hi)]
    rfl
theorem reads_abc (w : World) (fr : Nat × Nat) : Reads (w.alloc (.cells #[.int .u8 97, .int .u8 98, .int .u8 99] 5 fr)) (some ⟨w.heap.size, 0, none⟩) 3 [97, 98, 99] := by
  refine ⟨rfl, by intro x hx; simp at hx; omega, .inr ⟨_, 0, rfl, by simp, fun i hi => ?_⟩⟩
  have hn := heap_alloc_new w (.cells #[.int .u8 97, .int .u8 98, .int .u8 99] 5 fr)
  unfold World.cell?
  rw [hn]
  have : i = 0 ∨ i = 1 ∨ i = 2 := by omega
  rcases this with rfl | rfl | rfl <;> rfl
theorem there_more {s s' : PipeD} (h : s'.readers = s.readers) (h' : s'.writers = s.writers) (k : thereB s = true) : thereB s' = true := by unfold thereB at k ⊢; rw [h, h']; exact k
set_option maxHeartbeats 1600000 in
theorem awake21_true (w : World) : Calls Try.prog 16 #[] w fun e w' => e = .returned (.bool true) ∧ Below w.heap.size w w' := by
  have kc := fun (w : World) (C : Array Value) (n c : Nat) => Lib.run_convert_bytes_const (P := Try.prog) w 33 5 C n c Try.underlying33 Try.underlying5
  go_enter Try.func16, Try.ntmps16
  go_wp2_with fail
  refine (pnew_is 2 (by decide) (by decide) w).mono ?_
  rintro e w1 ⟨g, gs, rfl, hp1, b1⟩
  have HP1 := Lib.hid hp1
  have B1 := Lib.hid b1
  clear hp1 b1
  go_wp2_with fail
  have hmk : Calls Try.prog 18 #[.pointer (some ⟨g, 0, none⟩)] w1 (PipesPost w.heap.size w1 g gs [newP, zeroP] (.tuple #[.int .i64 1, .int .i64 0])) := pmake_yes HP1.out 0 zeroP (by rfl) rfl
  refine hmk.mono ?_
  rintro e w2 ⟨rfl, hp2, hg2⟩
  have hgs : w.heap.size ≤ gs := (pipes_lt HP1.out).2.2
  have HP2 := Lib.hid hp2
  have B2 : Hid (Below w.heap.size w w2) := Lib.hid (B1.out.grown hg2 B1.out.size (fun i hi => by obtain rfl := Option.some.inj hi; exact hgs))
  have HGS := Lib.hid hgs
  have HGL := Lib.hid (pipes_lt hp2).2.1
  clear hmk hp2 hg2 B1 HP1 hgs
  go_wp2_with fail
  have b3 := below_box w2 (.cells #[.int .u8 97, .int .u8 98, .int .u8 99] 5 (3, 4))
  have r3 := reads_abc w2 (3, 4)
  obtain ⟨g3, hg3⟩ : ∃ x, w2.heap.size = x := ⟨_, rfl⟩
  obtain ⟨w3, hw3⟩ : ∃ x, w2.alloc (.cells #[.int .u8 97, .int .u8 98, .int .u8 99] 5 (3, 4)) = x := ⟨_, rfl⟩
  rw [hw3] at b3 r3 ⊢
  rw [hg3] at r3 ⊢
  have hne : gs < g3 := by have := HGL.out; omega
  have HP3 := Lib.hid (HP2.out.below b3)
  have B3 := Lib.hid (below_next B2.out b3)
  have hwr : Calls Try.prog 19 #[.pointer (some ⟨g, 0, none⟩), .int .i64 1, .slice (some ⟨g3, 0, none⟩) 3 3] w3 (WritePost w.heap.size w3 g gs [newP, zeroP] 0 newP [97, 98, 99]) := pwrite_is HP3.out 1 0 rfl newP rfl rfl _ 3 3 [97, 98, 99] r3 (by decide) (Nat.le_refl _) (fun _ x hx => by obtain rfl := Option.some.inj hx; show g3 ≠ gs; omega)
  have hK : wrK newP ([97, 98, 99] : List Nat).length = (3, 0) := rfl
  clear b3 r3 hw3 hg3 HP2 B2 hne
  refine hwr.mono ?_
  unfold WritePost
  rw [hK]
  rintro e w4 ⟨s', rfl, hp4, hg4, hc4, h1, h2⟩
  have hc4' : content s' = [97, 98, 99] := hc4
  have hth : thereB s' = true := there_more h1 h2 there_newP
  have HP4 : Hid (IsPipes w.heap.size w4 g gs [s', zeroP]) := Lib.hid hp4
  have B4 : Hid (Below w.heap.size w w4) := Lib.hid (B3.out.grown hg4 B3.out.size (fun i hi => by obtain rfl := Option.some.inj hi; exact HGS.out))
  have hcnt : s'.count = 3 := by rw [← content_length, hc4']; rfl
  have hrd : Calls Try.prog 20 #[.pointer (some ⟨g, 0, none⟩), .int .i64 1, .int .i64 2] w4 (ReadPost w.heap.size w4 g gs [s', zeroP] 0 s' 2) := pread_is HP4.out 1 0 rfl s' rfl hth 2 (by decide)
  have hK2 : rdK s' 2 = (2, 0) := by unfold rdK; rw [hcnt]; rfl
  unfold ReadPost at hrd
  rw [hK2, hc4'] at hrd
  have HRD := Lib.hid hrd
  clear hrd hK2 hK hwr hp4 hg4 hc4 hc4' h1 h2 hth hcnt
  go_wp2_with fail
  refine HRD.out.mono ?_
  rintro e w5 ⟨s2, v, rfl, ho5, hp5, hg5, _, _, _⟩
  have B5 : Hid (Below w.heap.size w w5) := Lib.hid (B4.out.grown hg5 B4.out.size (fun i hi => by obtain rfl := Option.some.inj hi; exact HGS.out))
  obtain ⟨a, cap, rfl, hr5, _, _⟩ := ho5.reads
  have hconv : (convert 33 9 (.slice a 2 cap)).run Try.prog w5 = .ok (.string ⟨#[97, 98]⟩) w5 := run_str cap hr5
  clear ho5 hp5 hg5 hr5
  have hlen : (List.take 2 ([97, 98, 99] : List Nat)).length = 2 := rfl
  rw [hlen]
  go_wp2_with fail
  go_ret
  exact ⟨rfl, B5.out⟩
end Go.Proofs.Ythainmbapikjiaa
