/- Bytes as a text; the law's fixed fact about pipes. -/
import Derived.Test.YtebkkbmplndcpaaGgfpollak
import Derived.Laws.BytesArg
import Derived.Lib.BufferRead
import Derived.Lib.SlBytesConst
namespace Go.Proofs.Ytebkkbmplndcpaa
open Go.RowKit Go.Sort
set_option linter.unusedVariables false
set_option linter.unusedSimpArgs false
set_option maxRecDepth 100000

/-- The text of bytes. -/
def strL (l : List Nat) : ByteArray := strOfNums (l.map fun (n : Nat) => (n : Int))
theorem run_str {w : World} {a : Option Addr} {len : Nat} (cap : Nat) {l : List Nat} (h : Reads w a len l) : (convert 63 9 (.slice a len cap)).run Try.prog w = .ok (.string (strL l)) w := by
  obtain ⟨h1, h2, h3 | ⟨b, off, rfl, hb, hc⟩⟩ := h
  · subst h3
    subst h1
    cases a with
    | none => exact Lib.run_convert_nil_bytes w _ _ 5 cap Try.underlying63 Try.underlying5 Try.underlying9
    | some x =>
      obtain ⟨b, off, sp⟩ := x
      rw [run_convert_bytes_string w 63 9 5 _ _ _ Try.underlying63 Try.underlying5 Try.underlying9]
      have h9 := run_bytesToString (P := Try.prog) w ⟨b, off, sp⟩ 0 cap [] (by rfl)
      exact h9
  · refine run_convert_bytes_arg w 63 5 Try.underlying63 Try.underlying5 b off len cap (l.map fun (n : Nat) => (n : Int)) (by rw [List.length_map, h1]) (fun i hi => ?_) 9 Try.underlying9
    rw [hc i hi]
    rw [List.getD_eq_getElem?_getD, List.getD_eq_getElem?_getD, List.getElem?_map, List.getElem?_eq_getElem (by rw [h1]; exact hi)]
    rfl
theorem reads_abc (w : World) (fr : Nat × Nat) : Reads (w.alloc (.cells #[.int .u8 97, .int .u8 98, .int .u8 99] 5 fr)) (some ⟨w.heap.size, 0, none⟩) 3 [97, 98, 99] := by
  refine ⟨rfl, by intro x hx; simp at hx; omega, .inr ⟨_, 0, rfl, by simp, fun i hi => ?_⟩⟩
  have hn := heap_alloc_new w (.cells #[.int .u8 97, .int .u8 98, .int .u8 99] 5 fr)
  unfold World.cell?
  rw [hn]
  have : i = 0 ∨ i = 1 ∨ i = 2 := by omega
  rcases this with rfl | rfl | rfl <;> rfl
theorem there_more {s s' : PipeD} (h : s'.readers = s.readers) (h' : s'.writers = s.writers) (k : thereB s = true) : thereB s' = true := by unfold thereB at k ⊢; rw [h, h']; exact k
end Go.Proofs.Ytebkkbmplndcpaa
