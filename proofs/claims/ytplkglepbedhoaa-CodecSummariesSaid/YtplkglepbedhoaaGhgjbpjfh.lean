/- A Summary read of bytes (part.Read). -/
import Derived.Test.YtplkglepbedhoaaGanfijgfe
namespace Go.Proofs.Ytplkglepbedhoaa
open Go.RowKit Go.Sort
set_option linter.unusedVariables false
set_option linter.unusedSimpArgs false
set_option maxRecDepth 100000

/-- A summary's cells. -/
def sumV (seq first : Nat) (commit : Bool) (next : Int) (time : Nat) (v : Value) : Array Value := #[.int .u64 seq, .int .u64 first, .bool commit, .int .i64 next, .int .u32 time, v]
theorem sumV_one (seq first : Nat) (commit : Bool) (next : Int) (time : Nat) (a : Option Addr) (n c : Nat) : (sumV seq first commit next time (.slice a n c)).all (·.oneCell') = true := by simp [sumV, Value.oneCell']
theorem zero_sum (w : World) : (zeroValue 48).run Try.prog w = .ok (.agg #[.int .u64 0, .int .u64 0, .bool false, .int .i64 0, .int .u32 0, .slice none 0 0]) w := by kernel_rfl
theorem size_sum : (Try.prog.info? 48).map (·.size) = some 6 := by kernel_rfl
theorem row_sum : ∃ d, Try.prog.underlying 48 = some d ∧ d.isRow = true := by
  cases h : Try.prog.underlying 48 with
  | none => exact absurd h (by decide)
  | some d =>
    refine ⟨d, rfl, ?_⟩
    have : (Try.prog.underlying 48).map (·.isRow) = some true := by kernel_rfl
    rw [h] at this
    simpa using this
/-- The count that is read. -/
def countS (b : List Nat) : Nat := ((((PS.rd b).next 8 0).next 8 0).next 1 0).num 1 0
theorem countS_lt {b : List Nat} (hb : Bytes b) : countS b < 256 := by
  unfold countS
  obtain ⟨b1, e1, _, _, k1⟩ := next_rd b 8 0
  obtain ⟨b2, e2, _, _, k2⟩ := next_rd b1 8 0
  obtain ⟨b3, e3, _, _, k3⟩ := next_rd b2 1 0
  rw [e1, e2, e3]
  exact num_lt (k3 (k2 (k1 hb))) 1 0 (by decide)
def ReadSumPost (w : World) (b : List Nat) (e : Ending) (w' : World) : Prop :=
  Below w.heap.size w w' ∧ ∃ v, e = .returned (.agg (sumC (.rd b) 0 0 false 0 0 0 v)) ∧ OwnsR' w.heap.size w' 163 4 v ((runD zeroEntry [] (sumS (.rd b) 0 0 false 0 0 0) (countS b)).map rowV)

set_option maxHeartbeats 1600000 in
theorem preadSum_is {w : World} {b : List Nat} {a : Option Addr} {cap : Nat} (hb : Bytes b) (hr : Reads w a b.length b) (hc : b.length ≤ cap) (hm : cap ≤ maxLen) :
    Calls Try.prog 168 #[.slice a b.length cap, .func (.func 82) #[] #[]] w (ReadSumPost w b) := by
  have hz := zero_sum
  obtain ⟨d, hd1, hd2⟩ := row_sum
  have b1 := below_box w (.cells #[.int .u64 0, .int .u64 0, .bool false, .int .i64 0, .int .u32 0, .slice none 0 0] 48)
  have n1 := heap_alloc_new w (.cells #[.int .u64 0, .int .u64 0, .bool false, .int .i64 0, .int .u32 0, .slice none 0 0] 48)
  obtain ⟨w1, hw1⟩ : ∃ w1, w.alloc (.cells #[.int .u64 0, .int .u64 0, .bool false, .int .i64 0, .int .u32 0, .slice none 0 0] 48) = w1 := ⟨_, rfl⟩
  have hs1 : w1.heap.size = w.heap.size + 1 := by rw [← hw1]; simp
  rw [hw1] at b1 n1
  have hr1 := hr.below b1
  have b2 := below_box w1 (.cells #[.int .u64 0, .int .u64 0, .bool false, .int .i64 0, .int .u32 0, .slice none 0 0] 48)
  have n2 := heap_alloc_new w1 (.cells #[.int .u64 0, .int .u64 0, .bool false, .int .i64 0, .int .u32 0, .slice none 0 0] 48)
  obtain ⟨w2, hw2⟩ : ∃ w2, w1.alloc (.cells #[.int .u64 0, .int .u64 0, .bool false, .int .i64 0, .int .u32 0, .slice none 0 0] 48) = w2 := ⟨_, rfl⟩
  have hs2 : w2.heap.size = w.heap.size + 2 := by rw [← hw2]; simp [hs1]
  rw [hw2] at b2 n2
  have hr2 := hr1.below b2
  have n12 := (b2.block w.heap.size (by omega)).trans n1
  have b3 := below_box w2 (.cells #[.slice a b.length cap] 337)
  have hab : b ≠ [] → ∀ x, a = some x → x.block < w.heap.size := by
    intro hb x hx
    obtain ⟨_, _, h | ⟨blk, off, rfl, hlt, _⟩⟩ := hr
    · exact absurd h hb
    · cases hx; exact hlt
  have ha := fun k (hk : k < w2.heap.size) (hkw : w.heap.size ≤ k) => away_rd_new hr2 hc hm hk (fun hb x hx => Nat.ne_of_lt (Nat.lt_of_lt_of_le (hab hb x hx) hkw))
  have hp := isPort_rd hr2 hc hm
  have hap : ∀ k, k < w2.heap.size → Apart (w2.alloc (.cells #[.slice a b.length cap] 337)) (.iface 335 (.pointer (some ⟨w2.heap.size, 0, none⟩))) (.rd b) k := fun k hk => by
    obtain ⟨g, a', cap', he, h⟩ := hp
    obtain rfl : g = w2.heap.size := by cases he; rfl
    exact (apart_rd h).2 (by omega)
  obtain ⟨w3, hw3⟩ : ∃ w3, w2.alloc (.cells #[.slice a b.length cap] 337) = w3 := ⟨_, rfl⟩
  have hs3 : w3.heap.size = w.heap.size + 3 := by rw [← hw3]; simp [hs2]
  rw [hw3] at b3 ha hp hap
  have n23 := (b3.block (w.heap.size + 1) (by omega)).trans (hs1 ▸ n2)
  have n13 := (b3.block w.heap.size (by omega)).trans n12
  have hcn := countS_lt hb
  have HST := Lib.hid (laySummary_is (K := countS b) (L := []) (commit := false) (next := 0) hp n23 (ha (w.heap.size + 1) (by omega) (by omega)) (by decide) (by decide) (by unfold I64; omega) (by decide) (by simp) (by simp) (ReadsR.nil _ _ _) (fun h => absurd rfl h) trivial (numI_nat _ _ 0) (by omega) (fun i _ => by
    rw [sumS_is _ _ _ _ (by decide) (by decide) (by decide)]
    obtain ⟨b', e, _⟩ := stS_rd (sumF 0 0 false 0 0 0) b
    show (runS zeroEntry [] (stS (.rd b) (sumF 0 0 false 0 0 0)) i).fits 9
    rw [e]
    obtain ⟨b2, e2, _⟩ := runS_rd zeroEntry b' i
    rw [e2]
    trivial))
  have HA := Lib.hid ha
  have HAP := Lib.hid hap
  have HB := Lib.hid (below_next (below_next b1 b2) b3)
  have N13 := Lib.hid n13
  clear n1 n2 n12 n23 n13 b1 b2 b3 hr1 hr2 ha hap hr hab hp hcn
  go_enter Try.func168, Try.ntmps168
  go_wp2_with fail
  rw [hs2] at HST HA HAP
  refine HST.out.mono ?_
  rintro e w4 ⟨rfl, v4, hrow, ho4, hp4⟩
  have hb4 : Below w.heap.size w w4 := by
    refine HB.out.trans ⟨hp4.os, hp4.tape, hp4.output, hp4.size, fun k hk => ?_⟩
    exact hp4.block k (by omega) (HAP.out k (by omega)) (by omega)
  have n4 : w4.heap[w.heap.size]? = some (.cells #[.int .u64 0, .int .u64 0, .bool false, .int .i64 0, .int .u32 0, .slice none 0 0] 48 (0, 0)) :=
    (hp4.block w.heap.size (by omega) (HAP.out _ (by omega)) (by omega)).trans N13.out
  obtain ⟨a4, c4, rfl, _, _, _⟩ := ho4.reads
  have HO := Lib.hid (ho4.less (show w.heap.size ≤ w3.heap.size by omega))
  obtain ⟨n4l, hn4⟩ : ∃ n, (List.map rowV (runD zeroEntry [] (sumS (.rd b) 0 0 false ([] : List (List FldD)).length 0 0) (countS b))).length = n := ⟨_, rfl⟩
  rw [hn4] at hrow HO
  obtain ⟨cs, hcs⟩ : ∃ cs, sumC (.rd b) 0 0 false ([] : List (List FldD)).length 0 0 (.slice a4 n4l c4) = cs := ⟨_, rfl⟩
  have hsz : cs.size = 6 := by rw [← hcs]; rfl
  have hone : cs.all (·.oneCell') = true := by rw [← hcs]; simp [sumC, Value.oneCell']
  have HCS := Lib.hid hcs
  rw [hcs] at hrow
  have hrg := row_range hrow
  have hszl : cs.toList.length = 6 := by simpa using hsz
  have hsi : (Try.prog.info? 48).map (·.size) = some cs.size := by rw [hsz]; exact size_sum
  have hsi2 : (Try.prog.info? 48).map (·.size) = some cs.toList.length := by rw [hszl]; exact size_sum
  have hold : (#[.int .u64 0, .int .u64 0, .bool false, .int .i64 0, .int .u32 0, .slice none 0 0] : Array Value).size = cs.size := by rw [hsz]; rfl
  have HB4 := Lib.hid (below_setRow (g := w.heap.size) hb4 (Nat.le_refl _) cs)
  have hfin := setRow_heap w4 w.heap.size _ cs _ _ n4
  have HO2 : Hid (OwnsR' w.heap.size (w4.setRow w.heap.size cs) 163 4 (.slice a4 n4l c4) (List.map rowV (runD zeroEntry [] (sumS (.rd b) 0 0 false ([] : List (List FldD)).length 0 0) (countS b)))) :=
    Lib.hid (owns_same HO.out fun j hj => setRow_other _ _ _ _ (by have := (ho4.lt j (by rw [hn4]; exact hj)).1; omega))
  clear HST HA HAP HB N13 hp4 hb4 ho4 HO hw1 hw2 hw3 hcs hn4
  go_wp2_with (first
    | refine wpList_load_mid rfl 48 _ rfl (w.heap.size + 1) 0 (by go_simp) cs.toList d hrg hd1 hd2 hsi2 ?_
    | refine wpList_store_row rfl 48 _ _ rfl w.heap.size cs (by go_simp) (by go_simp) _ _ n4 hsi hold hone ?_)
  refine bodyPost_ret (results_cell_row rfl _ _ w.heap.size _ _ _ d rfl hfin hd1 (by cases d <;> first | rfl | exact hd2) hsi) rfl ?_
  exact ⟨HB4.out, _, by rw [← HCS.out]; rfl, HO2.out⟩
end Go.Proofs.Ytplkglepbedhoaa
