/- The law's own helper that writes parts by the program, by its walk. -/
import Derived.Test.YtdcnmfkhalfjcaaFew
namespace Go.Proofs.Ytdcnmfkhalfjcaa
open Go.RowKit
set_option linter.unusedVariables false

def stepP (st : List Nat × Bool) (p : PartD) : List Nat × Bool := if p.raw then wBytes st p.q p.b else wNum st p.q p.n
def runL (ps : List PartD) : List Nat × Bool := ps.foldl stepP ([], false)
theorem runL_step {ps : List PartD} {k : Nat} {p : PartD} (h : ps[k]? = some p) : stepP (runL (ps.take k)) p = runL (ps.take (k + 1)) := by
  unfold runL
  rw [List.take_add_one, h]
  simp
def runV (st : List Nat × Bool) : Value := .tuple #[.agg (cells (if st.2 then noughts else pad st.1)), .int .i64 (if st.2 then 1 else 0)]
theorem IsWriter.alloc {w : World} {g : Nat} {l : List Nat} {f : Bool} (h : IsWriter w g l f) (o : Obj) : IsWriter (w.alloc o) g l f :=
  ⟨h.1, h.2.1, by rw [Below.heap_alloc w _ _ (Array.getElem?_eq_some_iff.1 h.2.2).1]; exact h.2.2⟩

set_option maxHeartbeats 1600000 in
set_option maxRecDepth 100000 in
theorem run_any (a : Option Addr) (len cap : Nat) (ps : List PartD) (w : World) (hr : Parts w a len ps) (hl : len ≤ cap) (hc : cap ≤ maxLen) :
    Calls Try.prog 21 #[.slice a len cap] w fun e w' =>
      e = .returned (runV (runL ps)) ∧ Below w.heap.size w w' := by
  unfold maxLen at hc
  have hz := zero_sector
  have hzw := zero_writer
  have hlen := Lib.hid hr.1
  have B0 : Below (w.heap.size + 1) (w.alloc (.cells (cells noughts) 41)) ((w.alloc (.cells (cells noughts) 41)).alloc (.cells (wCells (pad []) 0 false) 76)) := (Below.refl _ _).alloc (by simp) _
  have hw0 : IsWriter ((w.alloc (.cells (cells noughts) 41)).alloc (.cells (wCells (pad []) 0 false) 76)) (w.heap.size + 1) (runL (ps.take 0)).1 (runL (ps.take 0)).2 := by
    have := new_writer (w.alloc (.cells (cells noughts) 41))
    have e : runL (ps.take 0) = ([], false) := rfl
    rw [e]
    simpa using this
  go_enter Try.func21, Try.ntmps21
  go_wp2
  go_loopw [6, 9] (fun _ i wr => ∃ k : Nat, k ≤ len ∧ i = .int .i64 k ∧ IsWriter wr (w.heap.size + 1) (runL (ps.take k)).1 (runL (ps.take k)).2 ∧ Below (w.heap.size + 1) (w.alloc (.cells (cells noughts) 41)) wr) (fun _ i _ => len - (intOf i).toNat)
  case atStart => exact ⟨0, by omega, rfl, hw0, B0⟩
  case round =>
    obtain ⟨k, hk, rfl, hw, hb⟩ := hrel
    have hb0 := (first_block hb).1
    have hbs := hb.size
    rw [show (w.alloc (.cells (cells noughts) 41)).heap.size = w.heap.size + 1 by simp] at hbs
    by_cases hlt : k < len
    · obtain ⟨p, b, off, hpk, rfl, hbl, hpa⟩ := hr.at hlt
      obtain ⟨hpo, c0, c1, c2, c3⟩ := hpa.below hbl hb0
      have HS := Lib.hid (runL_step hpk)
      generalize runL (ps.take k) = st at *
      clear hpa hpk hb0
      obtain ⟨q, n, r, pa, pl, pc, pb⟩ := p
      obtain ⟨hq, hn, hrd, hplc, hpc⟩ := hpo
      replace hpc : pc ≤ 2 ^ 63 - 1 := hpc
      replace hplc : pl ≤ pc := hplc
      have hwa := hw.alloc (.cells #[.int .i64 q, .int .u64 n, .bool r, .slice pa pl pc] 50)
      have hba := hb.alloc (by omega) (.cells #[.int .i64 q, .int .u64 n, .bool r, .slice pa pl pc] 50)
      have hrda := hrd.alloc (.cells #[.int .i64 q, .int .u64 n, .bool r, .slice pa pl pc] 50)
      clear hw hb hrd
      cases r with
      | true =>
        have e : stepP st ⟨q, n, true, pa, pl, pc, pb⟩ = wBytes st q pb := rfl
        rw [e] at HS
        clear e
        go_wp2_with fail
        refine (writer_bytes _ st pb q pa pl pc _ hwa hrda hq (by unfold maxLen; omega)).mono ?_
        rintro e w2 ⟨rfl, hw2, o2⟩
        rw [HS.out] at hw2
        have hb2 := hba.trans (o2.below (B := w.heap.size + 1) (Nat.le_refl _))
        clear hwa hba hrda HS o2
        go_wp2
        go_roundw
        case rel => exact ⟨k + 1, by omega, by go_num, hw2, hb2⟩
        case measure => simp [intOf]; omega
      | false =>
        have e : stepP st ⟨q, n, false, pa, pl, pc, pb⟩ = wNum st q n := rfl
        rw [e] at HS
        clear e
        go_wp2_with fail
        refine (writer_num _ st q n _ hwa hq hn).mono ?_
        rintro e w2 ⟨rfl, hw2, o2⟩
        rw [HS.out] at hw2
        have hb2 := hba.trans (o2.below (B := w.heap.size + 1) (Nat.le_refl _))
        clear hwa hba hrda HS o2
        go_wp2
        go_roundw
        case rel => exact ⟨k + 1, by omega, by go_num, hw2, hb2⟩
        case measure => simp [intOf]; omega
    · have e : ps.take k = ps := List.take_of_length_le (by rw [hlen.out]; omega)
      rw [e] at hw
      clear e
      obtain ⟨⟨L, f⟩, hst⟩ : ∃ st, runL ps = st := ⟨_, rfl⟩
      rw [hst] at hw
      have HST := Lib.hid hst
      clear hst
      simp only at hw
      cases f with
      | true =>
        go_wp2_with fail
        refine (writer_sector _ _ _ _ hw).mono ?_
        rintro e w5 ⟨rfl, b5⟩
        have b6 := hb.trans (b5.mono hbs)
        obtain ⟨bfin, hres⟩ := first_block b6
        have HR := Lib.hid hres
        clear hres hw hb b5 b6
        go_wp2_with (refine wpList_store_sector rfl (.tmp 2) (.tmp 27) rfl w.heap.size noughts rfl rfl rfl _ _ HR.out rfl ?_)
        exact bodyPost_ret (results_sector rfl _ _ w.heap.size noughts _ _ rfl (setRow_heap _ _ _ _ _ _ HR.out) rfl) rfl ⟨by rw [HST.out]; rfl, below_setRow bfin (Nat.le_refl _) _⟩
      | false =>
        have HXL := Lib.hid (pad_length hw.1)
        go_wp2_with fail
        refine (writer_sector _ _ _ _ hw).mono ?_
        rintro e w5 ⟨rfl, b5⟩
        have b6 := hb.trans (b5.mono hbs)
        obtain ⟨bfin, hres⟩ := first_block b6
        have HR := Lib.hid hres
        clear hres hw hb b5 b6
        go_wp2_with (refine wpList_store_sector rfl (.tmp 2) (.tmp 27) rfl w.heap.size (pad L) rfl rfl HXL.out _ _ HR.out rfl ?_)
        exact bodyPost_ret (results_sector rfl _ _ w.heap.size (pad L) _ _ rfl (setRow_heap _ _ _ _ _ _ HR.out) HXL.out) rfl ⟨by rw [HST.out]; rfl, below_setRow bfin (Nat.le_refl _) _⟩
end Go.Proofs.Ytdcnmfkhalfjcaa
