/- A sealed sector of a Summary read (codec.read). codec's own WriteSummary and ReadSummary. The laying of one Slot through a port, and of many, one behind the other (part.Each). Whether there is more; the laying of a list of Slots (part.Rest). The laying of a list of Slots (part.Rest's closure). -/
import Derived.Test.YtgakidimipipeaaGreatGmocbfjal
import Derived.Test.YtgakidimipipeaaGreatGcgabeaeg
import Derived.Shelf.Abstract
import Derived.Test.YtgakidimipipeaaGreatGolgphjcg
import Derived.Deep.RegionWith
import Derived.Deep.RegionHeld3
namespace Go.Proofs.YtgakidimipipeaaGreat
open Go.RowKit Go.Sort
set_option linter.unusedVariables false
set_option linter.unusedSimpArgs false
set_option maxRecDepth 100000

/-- A summary's parts. -/
structure SumD where
  seq : Nat
  first : Nat
  commit : Bool
  next : Int
  time : Nat
  list : List (List FldD)
def OkD (D : SumD) : Prop := D.seq < 18446744073709551616 ∧ D.first < 18446744073709551616 ∧ I64 D.next ∧ D.time < 4294967296 ∧ ∀ x ∈ D.list, IsFEntry x
def sumX (D : SumD) (v : Value) : Array Value := sumV D.seq D.first D.commit D.next D.time v
noncomputable def writeD (D : SumD) : List Nat × Int := writeSm D.seq D.first D.commit D.next D.time D.list
theorem writeD_is {w : World} {D : SumD} {a : Option Addr} {cap : Nat} (h : OkD D) (hr : ReadsR w a 4 (D.list.map rowV)) :
    Calls Tryz.prog 29 #[.int .u8 3, .agg (sumX D (.slice a D.list.length cap)), .func (.func 30) #[] #[], .func (.func 31) #[] #[]] w fun e w' => e = .returned (.tuple #[.agg (cells (writeD D).1), .int .i64 (writeD D).2]) ∧ Below w.heap.size w w' :=
  writeSum_is h.1 h.2.1 h.2.2.1 h.2.2.2.1 h.2.2.2.2 hr
theorem writeD_length {D : SumD} (h : OkD D) : (writeD D).1.length = 128 := by
  unfold writeD writeSm
  split
  · rfl
  · rename_i hn
    refine sealL_length ?_
    have hu : upEntry D.list = true := by
      cases hx : upEntry D.list with
      | true => rfl
      | false => exact absurd (Or.inl hx) hn
    have := upEntry_len hu
    rw [wrSm_len h.2.2.2.2]
    omega
def rdD (b : List Nat) : SumD := ⟨rdSeq b, rdFirst b, rdCommit b, rdNext b, rdTime b, rdList b⟩
theorem rdD_is {b : List Nat} (hb : Bytes b) : OkD (rdD b) := by
  obtain ⟨k0, k1, k3, k4, hL⟩ := rdSum_is hb
  have h3 : I64 (rdNext b) := by unfold I64; omega
  exact ⟨k0, k1, h3, k4, hL⟩
theorem preadD_is {w : World} {b : List Nat} {a : Option Addr} {cap : Nat} (hb : Bytes b) (hr : Reads w a b.length b) (hc : b.length ≤ cap) (hm : cap ≤ maxLen) :
    Calls Tryz.prog 85 #[.slice a b.length cap, .func (.func 31) #[] #[]] w fun e w' => Below w.heap.size w w' ∧ ∃ a c, e = .returned (.agg (sumX (rdD b) (.slice a (rdD b).list.length c))) ∧ OwnsR' w.heap.size w' 92 4 (.slice a (rdD b).list.length c) ((rdD b).list.map rowV) := by
  refine (preadSum_is hb hr hc hm).mono ?_
  rintro e w' ⟨b1, v, rfl, ho⟩
  obtain ⟨a', c', rfl, _⟩ := owned_list ho
  exact ⟨b1, a', c', rfl, ho⟩
def zeroD : SumD := ⟨0, 0, false, 0, 0, []⟩
noncomputable def readSm (s : List Nat) : SumD × Int := if (writeD (rdD (bO s))).2 = 0 ∧ (writeD (rdD (bO s))).1 = s then (rdD (bO s), 0) else (zeroD, 21)
def ReadSmPost (w : World) (r : SumD × Int) (e : Ending) (w' : World) : Prop :=
  Below w.heap.size w w' ∧ ∃ v, e = .returned (.tuple #[.agg (sumX r.1 v), .int .i64 r.2]) ∧ OwnsR' w.heap.size w' 92 4 v (r.1.list.map rowV)
def sumZ : Array Value := sumV 0 0 false 0 0 (.slice none 0 0)
theorem sumZ_one : sumZ.all (·.oneCell') = true := sumV_one _ _ _ _ _ _ _ _
theorem zero_sum2 (w : World) : (zeroValue 43).run Tryz.prog w = .ok (.agg sumZ) w := zero_sum w
theorem results_sum {fn : Func} {p u : Tmp} (h : fn.results = #[.cell p 43, .tmp u]) (tmps : Array Value) (w : World) (g : Nat) (l : Array Value) (t : TypeId) (fr : Nat × Nat) (hp : tmps.getD p undef = .pointer (some ⟨g, 0, none⟩))
    (hg : w.heap[g]? = some (.cells l t fr)) (hl : l.size = 6) : (results fn tmps).run Tryz.prog w = .ok (.tuple #[.agg l, tmps.getD u undef]) w := by
  obtain ⟨d, hd1, hd2⟩ := row_sum
  rw [results_cell_tmp h, hp]
  simp only [asAddr, Sem.run_pure, Result.andThen_ok]
  rw [run_loadVar_row w g t 43 l fr d hg hd1 (by cases d <;> first | rfl | exact hd2) (by rw [size_sum, hl])]
  rfl

set_option maxHeartbeats 1600000 in
theorem readSum_is (s : List Nat) (hs : s.length = 128) (hb : Bytes s) (w : World) :
    Calls Tryz.prog 46 #[.int .u8 3, .agg (cells s), .func (.func 30) #[] #[], .func (.func 31) #[] #[]] w (ReadSmPost w (readSm s)) := by
  have hz := zero_sector
  have hzi := zero_sum2
  obtain ⟨d, hd1, hd2⟩ := row_sum
  have hsz : ∀ l : Array Value, l.size = 6 → (Tryz.prog.info? 43).map (·.size) = some l.toList.length := fun l hl => by rw [Array.length_toList, hl]; exact size_sum
  have hsz2 : ∀ l : Array Value, l.size = 6 → (Tryz.prog.info? 43).map (·.size) = some l.size := fun l hl => by rw [hl]; exact size_sum
  have b1 := below_box w (.cells (cells s) 31)
  have n1 := heap_alloc_new w (.cells (cells s) 31)
  obtain ⟨w1, hw1⟩ : ∃ w1, w.alloc (.cells (cells s) 31) = w1 := ⟨_, rfl⟩
  have hs1 : w1.heap.size = w.heap.size + 1 := by rw [← hw1]; simp
  rw [hw1] at b1 n1
  have b2 := below_box w1 (.cells (sumZ) 43)
  have n2 := heap_alloc_new w1 (.cells (sumZ) 43)
  have n1' := (b2.block w.heap.size (by omega)).trans n1
  have HB := Lib.hid (below_next b1 b2)
  rw [hs1] at n2
  obtain ⟨w2, hw2⟩ : ∃ w2, w1.alloc (.cells (sumZ) 43) = w2 := ⟨_, rfl⟩
  rw [hw2] at n2 n1' HB
  have hs2 : w2.heap.size = w.heap.size + 2 := by rw [← hw2]; simp [hs1]
  have HC := Lib.hid (box_cells hs n1')
  clear b1 n1 b2
  go_enter Tryz.func46, Tryz.ntmps46
  go_wp2_with (refine wpList_load_sector rfl _ rfl w.heap.size 0 s (by go_simp) hs HC.out ?_)
  refine (open_any2 s hs hb w2).mono ?_
  rintro e w3 ⟨b3, h3⟩
  have n1'' := (b3.block w.heap.size (by omega)).trans n1'
  have n2'' := (b3.block (w.heap.size + 1) (by omega)).trans n2
  have HB3 : Hid (Below w.heap.size w w3) := HB.out.trans (b3.mono HB.out.size)
  have hs3 : w.heap.size + 2 ≤ w3.heap.size := by have := b3.size; omega
  obtain ⟨k, a3, cap3, er, he, hr3, hc3, hm3⟩ : ∃ (k : Nat) (a3 : Option Addr) (cap3 : Nat) (er : Int), e = .returned (.tuple #[.int .u8 k, .slice a3 (bO s).length cap3, .int .i64 er]) ∧ Reads w3 a3 (bO s).length (bO s) ∧ (bO s).length ≤ cap3 ∧ cap3 ≤ maxLen := by
    rcases h3 with ⟨ho, a, cap, he, hr, hc, hm⟩ | ⟨ho, he⟩
    · have e : bO s = bodyL s := if_pos ho
      rw [e]
      exact ⟨_, a, cap, _, he, hr, hc, hm⟩
    · have e : bO s = [] := if_neg (by rw [ho]; decide)
      rw [e]
      exact ⟨0, none, 0, 21, he, ⟨rfl, by intro x hx; simp at hx, .inl rfl⟩, Nat.le_refl _, by unfold maxLen; omega⟩
  subst he
  have hbb : Bytes (bO s) := hr3.2.1
  clear h3 b3 n1' n2 HB HC hw1 hw2 hs1 hs2
  go_wp2_with fail
  refine (preadD_is hbb hr3 hc3 hm3).mono ?_
  rintro e w4 ⟨b4, a4, c4, rfl, ho4⟩
  have hIx := rdD_is hbb
  have HX : Hid (readSm s = if (writeD (rdD (bO s))).2 = 0 ∧ (writeD (rdD (bO s))).1 = s then (rdD (bO s), 0) else (zeroD, 21)) := rfl
  obtain ⟨D, hD⟩ : ∃ D, rdD (bO s) = D := ⟨_, rfl⟩
  rw [hD] at hIx HX ho4 ⊢
  obtain ⟨_, _, _, hr4, _⟩ := owned_list ho4
  have hr4 := OwnsR'.reads5 ho4
  have HO4 := Lib.hid (ho4.less hs3)
  have hmk := writeD_length hIx
  obtain ⟨X, hX⟩ : ∃ X, sumX D (.slice a4 D.list.length c4) = X := ⟨_, rfl⟩
  have HWR : Hid (∀ (w : World), ReadsR w a4 4 (D.list.map rowV) → Calls Tryz.prog 29 #[.int .u8 3, .agg X, .func (.func 30) #[] #[], .func (.func 31) #[] #[]] w fun e w' => e = .returned (.tuple #[.agg (cells (writeD D).1), .int .i64 (writeD D).2]) ∧ Below w.heap.size w w') := Lib.hid (fun w hr => by
    rw [← hX]
    exact writeD_is hIx hr)
  have hXs : X.size = 6 := by rw [← hX]; rfl
  have honex : X.all (·.oneCell') = true := by rw [← hX]; exact sumV_one _ _ _ _ _ _ _ _
  have HXX := Lib.hid hX
  rw [hX]
  have n1 := (b4.block w.heap.size (by omega)).trans n1''
  have n2 := (b4.block (w.heap.size + 1) (by omega)).trans n2''
  have HB4 : Hid (Below w.heap.size w w4) := HB3.out.trans (b4.mono HB3.out.size)
  have hs4 : w.heap.size + 2 ≤ w4.heap.size := Nat.le_trans hs3 b4.size
  have nz := heap_alloc_new w4 (.cells (sumZ) 43)
  have b5 := below_box w4 (.cells (X) 43)
  have nx := heap_alloc_new w4 (.cells (X) 43)
  have e5 := World.setRow_alloc_new w4 (sumZ) (X) 43
  obtain ⟨w5, hw5⟩ : ∃ w5, w4.alloc (.cells (X) 43) = w5 := ⟨_, rfl⟩
  rw [hw5] at b5 nx e5
  have n15 := (b5.block w.heap.size (by omega)).trans n1
  have n25 := (b5.block (w.heap.size + 1) (by omega)).trans n2
  have HB5 : Hid (Below w.heap.size w w5) := HB4.out.trans (b5.mono HB4.out.size)
  have hs5 : w5.heap.size = w4.heap.size + 1 := by rw [← hw5]; simp
  have hrx := row_range nx
  have hsx := hsz X hXs
  have hsx2 := hsz2 X hXs
  have hold : (sumZ).size = (X).size := by rw [hXs]; rfl
  obtain ⟨m, hm⟩ : ∃ m, w4.heap.size = m := ⟨_, rfl⟩
  rw [hm] at nx hrx hs5 nz hs4 e5
  have HR5 := Lib.hid (hr4.below b5)
  have HO5 := Lib.hid (HO4.out.below b5)
  clear n1'' n2'' HB3 hs3 b4 n1 n2 HB4 b5 hr3 hc3 hm3 hX hD hbb hw5 hr4 HO4 ho4
  go_wp2_with (first
    | (refine wpList_store_row rfl 43 _ _ rfl m (X) (by go_simp) (by go_simp) _ _ nz hsx2 hold honex ?_; rw [e5])
    | refine wpList_load_mid rfl 43 _ rfl m 0 (by go_simp) (X.toList) d hrx hd1 hd2 hsx ?_)
  refine (HWR.out w5 HR5.out).mono ?_
  rintro e w6 ⟨rfl, b6⟩
  obtain ⟨mk, hmke⟩ : ∃ mk, (writeD D).1 = mk := ⟨_, rfl⟩
  obtain ⟨er2, here⟩ : ∃ er2, (writeD D).2 = er2 := ⟨_, rfl⟩
  rw [hmke, here] at HX ⊢
  have HO6 := Lib.hid (HO5.out.below b6)
  rw [hmke] at hmk
  have n16 := (b6.block w.heap.size (by omega)).trans n15
  have n26 := (b6.block (w.heap.size + 1) (by omega)).trans n25
  have nx6 := (b6.block m (by omega)).trans nx
  have HB6 : Hid (Below w.heap.size w w6) := HB5.out.trans (b6.mono HB5.out.size)
  have hs6 : m + 1 ≤ w6.heap.size := by have := b6.size; omega
  have nn := heap_alloc_new w6 (.cells (cells noughts) 31)
  have b7 := below_box w6 (.cells (cells mk) 31)
  have n7 := heap_alloc_new w6 (.cells (cells mk) 31)
  have e7 := World.setRow_alloc_new w6 (cells noughts) (cells mk) 31
  obtain ⟨w7, hw7⟩ : ∃ w7, w6.alloc (.cells (cells mk) 31) = w7 := ⟨_, rfl⟩
  have HO7 := Lib.hid (HO6.out.below b7)
  rw [hw7] at b7 n7 e7 HO7
  have hs7 : w7.heap.size = w6.heap.size + 1 := by rw [← hw7]; simp
  have n17 := (b7.block w.heap.size (by omega)).trans n16
  have n27 := (b7.block (w.heap.size + 1) (by omega)).trans n26
  have nx7 := (b7.block m (by omega)).trans nx6
  have HB7 : Hid (Below w.heap.size w w7) := HB6.out.trans (b7.mono HB6.out.size)
  obtain ⟨m2, hm2⟩ : ∃ m2, w6.heap.size = m2 := ⟨_, rfl⟩
  rw [hm2] at n7 e7 nn hs7 hs6
  have HC7 := Lib.hid (block_cells hmk n7)
  have HCs := Lib.hid (block_cells hs n17)
  have hrx7 := row_range nx7
  have hneq := run_neq_sector mk s hmk hs
  clear n15 n25 nx HB5 b6 n16 n26 nx6 HB6 b7 hw7 hmke here hrx hold e5 nz hm
  by_cases her : er2 = 0
  · subst her
    by_cases hms : mk = s
    · have hfin : readSm s = (D, 0) := HX.out.trans (if_pos ⟨rfl, hms⟩)
      have HF := Lib.hid hfin
      rw [decide_eq_true hms, Bool.not_true] at hneq
      have hd8 := setRow_heap _ (w.heap.size + 1) _ (X) _ _ n27
      have hb8 := below_setRow (g := w.heap.size + 1) HB7.out (by omega) (X)
      have hold2 : (sumZ).size = (X).size := by rw [hXs]; rfl
      clear hfin hms
      go_wp2_with (first
        | (refine wpList_store_sector rfl _ _ rfl m2 mk rfl rfl hmk _ _ nn rfl ?_; rw [e7])
        | refine wpList_load_sector_want rfl _ rfl m2 0 mk rfl hmk HC7.out ?_
        | refine wpList_load_sector_want rfl _ rfl w.heap.size 0 s rfl hs HCs.out ?_
        | refine wpList_load_mid rfl 43 _ rfl m 0 rfl (X.toList) d hrx7 hd1 hd2 hsx ?_
        | refine wpList_store_row rfl 43 _ _ rfl (w.heap.size + 1) (X) rfl rfl _ _ n27 hsx2 hold2 honex ?_)
      refine bodyPost_ret (results_sum rfl _ _ (w.heap.size + 1) X _ _ rfl hd8 hXs) rfl ?_
      exact ⟨hb8, .slice a4 D.list.length c4, by rw [HF.out, ← HXX.out]; rfl, by
        rw [HF.out]
        exact (owns_same HO7.out fun j hj => setRow_other _ _ _ _ (by have := (HO7.out.lt j hj).1; omega)).less (by omega)⟩
    · rw [decide_eq_false hms, Bool.not_false] at hneq
      have hfin : readSm s = (zeroD, 21) := HX.out.trans (if_neg (fun h => hms h.2))
      have HF := Lib.hid hfin
      have b8 := below_box w7 (.cells (sumZ) 43)
      have n8 := heap_alloc_new w7 (.cells (sumZ) 43)
      rw [hs7] at n8
      have n28 := (b8.block (w.heap.size + 1) (by omega)).trans n27
      have HB8 : Hid (Below w.heap.size w (w7.alloc (.cells (sumZ) 43))) := HB7.out.trans (b8.mono HB7.out.size)
      have hr8 := row_range n8
      have hs8 := hsz sumZ rfl
      have hs82 := hsz2 sumZ rfl
      have hone8 := sumZ_one
      have hd8 := setRow_heap _ (w.heap.size + 1) _ (sumZ) _ _ n28
      have hb8 := below_setRow (g := w.heap.size + 1) HB8.out (by omega) (sumZ)
      clear b8 HB8 hfin
      go_wp2_with (first
        | (refine wpList_store_sector rfl _ _ rfl m2 mk rfl rfl hmk _ _ nn rfl ?_; rw [e7])
        | refine wpList_load_sector_want rfl _ rfl m2 0 mk rfl hmk HC7.out ?_
        | refine wpList_load_sector_want rfl _ rfl w.heap.size 0 s rfl hs HCs.out ?_
        | refine wpList_load_mid rfl 43 _ rfl (m2 + 1) 0 rfl (sumZ.toList) d hr8 hd1 hd2 hs8 ?_
        | refine wpList_store_row rfl 43 _ _ rfl (w.heap.size + 1) (sumZ) rfl rfl _ _ n28 hs82 rfl hone8 ?_)
      refine bodyPost_ret (results_sum rfl _ _ (w.heap.size + 1) sumZ _ _ rfl hd8 rfl) rfl ?_
      exact ⟨hb8, .slice none 0 0, by rw [HF.out]; rfl, by rw [HF.out]; exact OwnsR'.nil _ _ _ _⟩
  · have hne0 : (er2 == 0) = false := by simpa using her
    have hfin : readSm s = (zeroD, 21) := HX.out.trans (if_neg (fun h => her h.1))
    have HF := Lib.hid hfin
    have b8 := below_box w7 (.cells (sumZ) 43)
    have n8 := heap_alloc_new w7 (.cells (sumZ) 43)
    rw [hs7] at n8
    have n28 := (b8.block (w.heap.size + 1) (by omega)).trans n27
    have HB8 : Hid (Below w.heap.size w (w7.alloc (.cells (sumZ) 43))) := HB7.out.trans (b8.mono HB7.out.size)
    have hr8 := row_range n8
    have hs8 := hsz sumZ rfl
    have hs82 := hsz2 sumZ rfl
    have hone8 := sumZ_one
    have hd8 := setRow_heap _ (w.heap.size + 1) _ (sumZ) _ _ n28
    have hb8 := below_setRow (g := w.heap.size + 1) HB8.out (by omega) (sumZ)
    clear b8 HB8 hfin
    go_wp2_with (first
      | (refine wpList_store_sector rfl _ _ rfl m2 mk rfl rfl hmk _ _ nn rfl ?_; rw [e7])
      | refine wpList_load_sector_want rfl _ rfl m2 0 mk rfl hmk HC7.out ?_
      | refine wpList_load_sector_want rfl _ rfl w.heap.size 0 s rfl hs HCs.out ?_
      | refine wpList_load_mid rfl 43 _ rfl (m2 + 1) 0 rfl (sumZ.toList) d hr8 hd1 hd2 hs8 ?_
      | refine wpList_store_row rfl 43 _ _ rfl (w.heap.size + 1) (sumZ) rfl rfl _ _ n28 hs82 rfl hone8 ?_)
    refine bodyPost_ret (results_sum rfl _ _ (w.heap.size + 1) sumZ _ _ rfl hd8 rfl) rfl ?_
    exact ⟨hb8, .slice none 0 0, by rw [HF.out]; rfl, by rw [HF.out]; exact OwnsR'.nil _ _ _ _⟩

end Go.Proofs.YtgakidimipipeaaGreat

namespace Go.Proofs.YtgakidimipipeaaGreat
open Go.RowKit Go.Sort
set_option linter.unusedVariables false
set_option linter.unusedSimpArgs false
set_option maxRecDepth 100000

set_option maxHeartbeats 1600000 in
theorem writeSummary_is {w : World} {D : SumD} {a : Option Addr} {cap : Nat} (h : OkD D) (hr : ReadsR w a 4 (D.list.map rowV)) :
    Calls Tryz.prog 9 #[.agg (sumX D (.slice a D.list.length cap))] w fun e w' => e = .returned (.tuple #[.agg (cells (writeD D).1), .int .i64 (writeD D).2]) ∧ Below w.heap.size w w' := by
  have HWR := Lib.hid (fun (w : World) (hr : ReadsR w a 4 (D.list.map rowV)) => writeD_is (cap := cap) h hr)
  obtain ⟨X, hX⟩ : ∃ X, sumX D (.slice a D.list.length cap) = X := ⟨_, rfl⟩
  have hXs : X.size = 6 := by rw [← hX]; rfl
  rw [hX] at HWR ⊢
  have HR := Lib.hid hr
  clear hX hr
  have hz := zero_sector
  obtain ⟨d, hd1, hd2⟩ := row_sum
  have hsi : (Tryz.prog.info? 43).map (·.size) = some X.toList.length := by rw [Array.length_toList, hXs]; exact size_sum
  have b1 := below_box w (.cells (X) 43)
  have n1 := heap_alloc_new w (.cells (X) 43)
  obtain ⟨w1, hw1⟩ : ∃ w1, w.alloc (.cells (X) 43) = w1 := ⟨_, rfl⟩
  have hs1 : w1.heap.size = w.heap.size + 1 := by rw [← hw1]; simp
  rw [hw1] at b1 n1
  have b2 := below_box w1 (.cells (cells noughts) 31)
  have n2 := heap_alloc_new w1 (.cells (cells noughts) 31)
  have n1' := (b2.block w.heap.size (by omega)).trans n1
  have hr1 := row_range n1'
  have HB := Lib.hid (below_next b1 b2)
  rw [hs1] at n2
  obtain ⟨w2, hw2⟩ : ∃ w2, w1.alloc (.cells (cells noughts) 31) = w2 := ⟨_, rfl⟩
  rw [hw2] at n2 n1' hr1 HB
  have hs2 : w2.heap.size = w.heap.size + 2 := by rw [← hw2]; simp [hs1]
  clear b1 n1 b2
  go_enter Tryz.func9, Tryz.ntmps9
  go_wp2_with (refine wpList_load_mid rfl 43 _ rfl w.heap.size 0 rfl (X.toList) d hr1 hd1 hd2 hsi ?_)
  refine (HWR.out w2 (HR.out.below HB.out)).mono ?_
  rintro e w3 ⟨rfl, b3⟩
  have n3 := (b3.block (w.heap.size + 1) (by omega)).trans n2
  have hlen := writeD_length h
  obtain ⟨s, hse⟩ : ∃ s, (writeD D).1 = s := ⟨_, rfl⟩
  obtain ⟨er, here⟩ : ∃ er, (writeD D).2 = er := ⟨_, rfl⟩
  have HS := Lib.hid (And.intro hse here)
  rw [hse, here]
  rw [hse] at hlen
  have hd := setRow_heap w3 (w.heap.size + 1) _ (cells s) _ _ n3
  have hb := below_setRow (g := w.heap.size + 1) (HB.out.trans (b3.mono HB.out.size)) (by omega) (cells s)
  clear b3 n1' n2 hr1 HB hw1 hw2 hs1 hs2 hse here
  go_wp2_with (refine wpList_store_sector rfl _ _ rfl (w.heap.size + 1) s rfl rfl hlen _ _ n3 rfl ?_)
  refine bodyPost_ret (results_sector rfl _ _ (w.heap.size + 1) s _ _ rfl hd hlen) rfl ?_
  exact ⟨by rw [HS.out.1, HS.out.2]; rfl, hb⟩

set_option maxHeartbeats 1600000 in
theorem readSummary_is (s : List Nat) (hs : s.length = 128) (hbs : Bytes s) (w : World) :
    Calls Tryz.prog 19 #[.agg (cells s)] w (ReadSmPost w (readSm s)) := by
  have hz := zero_sector
  have hzi := zero_sum2
  obtain ⟨d, hd1, hd2⟩ := row_sum
  have b1 := below_box w (.cells (cells s) 31)
  have n1 := heap_alloc_new w (.cells (cells s) 31)
  obtain ⟨w1, hw1⟩ : ∃ w1, w.alloc (.cells (cells s) 31) = w1 := ⟨_, rfl⟩
  have hs1 : w1.heap.size = w.heap.size + 1 := by rw [← hw1]; simp
  rw [hw1] at b1 n1
  have b2 := below_box w1 (.cells (sumZ) 43)
  have n2 := heap_alloc_new w1 (.cells (sumZ) 43)
  have n1' := (b2.block w.heap.size (by omega)).trans n1
  have HB := Lib.hid (below_next b1 b2)
  rw [hs1] at n2
  obtain ⟨w2, hw2⟩ : ∃ w2, w1.alloc (.cells (sumZ) 43) = w2 := ⟨_, rfl⟩
  rw [hw2] at n2 n1' HB
  have hs2 : w2.heap.size = w.heap.size + 2 := by rw [← hw2]; simp [hs1]
  have HC := Lib.hid (block_cells hs n1')
  clear b1 n1 b2
  go_enter Tryz.func19, Tryz.ntmps19
  go_wp2_with (refine wpList_load_sector rfl _ rfl w.heap.size 0 s rfl hs HC.out ?_)
  refine (readSum_is s hs hbs w2).mono ?_
  rintro e w3 ⟨b3, v, rfl, ho⟩
  have n3 := (b3.block (w.heap.size + 1) (by omega)).trans n2
  obtain ⟨X, hX⟩ : ∃ X, sumX (readSm s).1 v = X := ⟨_, rfl⟩
  obtain ⟨er, here⟩ : ∃ er, (readSm s).2 = er := ⟨_, rfl⟩
  obtain ⟨a3, c3, rfl, _⟩ := owned_list ho
  have HS := Lib.hid (And.intro hX here)
  have HO := Lib.hid ho
  rw [hX, here]
  have hXs : X.size = 6 := by rw [← hX]; rfl
  have hone : X.all (·.oneCell') = true := by rw [← hX]; exact sumV_one _ _ _ _ _ _ _ _
  have hsx2 : (Tryz.prog.info? 43).map (·.size) = some X.size := by rw [hXs]; exact size_sum
  have hold : (sumZ).size = X.size := by rw [hXs]; rfl
  have hd := setRow_heap w3 (w.heap.size + 1) _ (X) _ _ n3
  have hb := below_setRow (g := w.heap.size + 1) (HB.out.trans (b3.mono HB.out.size)) (by omega) (X)
  clear b3 n1' n2 HB hw1 hw2 hs1 hX here HC ho
  go_wp2_with (refine wpList_store_row rfl 43 _ _ rfl (w.heap.size + 1) (X) rfl rfl _ _ n3 hsx2 hold hone ?_)
  refine bodyPost_ret (results_sum rfl _ _ (w.heap.size + 1) X _ _ rfl hd hXs) rfl ?_
  exact ⟨hb, _, by rw [HS.out.1, HS.out.2]; rfl, (owns_same HO.out fun j hj => setRow_other _ _ _ _ (by have := (HO.out.lt j hj).1; omega)).less (by omega)⟩

end Go.Proofs.YtgakidimipipeaaGreat

namespace Go.Proofs.YtgakidimipipeaaGreat
open Go.RowKit Go.Sort
set_option linter.unusedVariables false
set_option linter.unusedSimpArgs false
set_option maxRecDepth 100000

def fldSlot (z0 z1 z2 z3 : Int) : List FldD := [⟨.i64, 4, z0⟩, ⟨.u32, 4, z1⟩, ⟨.i64, 2, z2⟩, ⟨.i64, 1, z3⟩]
def IsFSlot (l : List FldD) : Prop := ∃ z0 z1 z2 z3 : Int, l = fldSlot z0 z1 z2 z3 ∧ I64 z0 ∧ (0 ≤ z1 ∧ z1 < 4294967296) ∧ I64 z2 ∧ I64 z3
def zeroSlot : List FldD := fldSlot 0 0 0 0
theorem zeroSlot_is : IsFSlot zeroSlot := ⟨0, 0, 0, 0, rfl, by unfold I64; omega, by omega, by unfold I64; omega, by unfold I64; omega⟩
theorem isFSlot_length {l : List FldD} (h : IsFSlot l) : l.length = 4 := by obtain ⟨z0, z1, z2, z3, rfl, _⟩ := h; rfl
theorem isFSlot_widths {l : List FldD} (h : IsFSlot l) : widths l = 11 := by obtain ⟨z0, z1, z2, z3, rfl, _⟩ := h; rfl
set_option maxHeartbeats 1600000 in
theorem laySlot_is {l : List FldD} {gx : Nat} {w0 w : World} {pv : Value} {S : PS} (hl : IsFSlot l) (h : LayAt l gx 118 w0 pv S 0 w) :
    Calls Tryz.prog 51 #[pv, .pointer (some ⟨gx, 0, none⟩)] w fun e w' => e = .returned (.tuple #[]) ∧ LayAt l gx 118 w0 pv S 4 w' := by
  obtain ⟨z0, z1, z2, z3, rfl, k0, k1, k2, k3⟩ := hl
  have H := Lib.hid h
  clear h
  go_enter Tryz.func51, Tryz.ntmps51
  go_wp2_with fail
  refine (lay_i64 (q := 4) H.out rfl k0 (by decide) (by decide)).mono ?_
  rintro e w1 ⟨rfl, h1⟩
  have H1 := Lib.hid h1
  clear h1 H
  go_wp2_with fail
  refine (lay_u32 (q := 4) H1.out rfl k1 (by decide) (by decide)).mono ?_
  rintro e w2 ⟨rfl, h2⟩
  have H2 := Lib.hid h2
  clear h2 H1
  go_wp2_with fail
  refine (lay_i64 (q := 2) H2.out rfl k2 (by decide) (by decide)).mono ?_
  rintro e w3 ⟨rfl, h3⟩
  have H3 := Lib.hid h3
  clear h3 H2
  go_wp2_with fail
  refine (lay_i64 (q := 1) H3.out rfl k3 (by decide) (by decide)).mono ?_
  rintro e w4 ⟨rfl, h4⟩
  have H4 := Lib.hid h4
  clear h4 H3
  go_wp2
  go_end0
  exact ⟨rfl, H4.out⟩
theorem infoSlot : (Tryz.prog.info? 118).map (fun i => (i.zero, i.size, i.bytes)) = some (some (.agg #[.int .i64 0, .int .u32 0, .int .i64 0, .int .i64 0]), 4, 32) := by kernel_rfl
set_option maxHeartbeats 1600000 in
theorem eachSlot_is {w0 : World} {pv : Value} {S0 : PS} (L : List (List FldD)) (hL : ∀ x ∈ L, IsFSlot x) (a : Option Addr) (cap : Nat) (hr : ReadsR w0 a 4 (L.map rowV)) (hap : L ≠ [] → ∀ b off, a = some ⟨b, off, none⟩ → b < w0.heap.size ∧ Apart w0 pv S0 b) (hport : IsPort w0 pv S0)
    (K : Nat) (hK : K ≤ 2000) (hLl : L.length ≤ 2000) (hfit : ∀ i, i < K → (runS zeroSlot L S0 i).fits 11) (gm : Nat) (caps : Array Value) (eg : ∀ args w, (callFunc gm args).run Tryz.prog w = .ok (.enter gm args) w)
    (hmore : ∀ (i : Nat) (W : World) (v : Value), i ≤ K → EachAt 118 4 w0 pv S0 W (runS zeroSlot L S0 i) v (runD zeroSlot L S0 i) → Calls Tryz.prog gm (#[.int .i64 (i : Int)] ++ caps) W fun e w' => e = .returned (.bool (decide (i < K))) ∧ W = w') :
    Calls Tryz.prog 90 #[pv, .slice a L.length cap, .func (.func gm) #[] caps, .func (.func 51) #[] #[]] w0 fun e w' => ∃ v, e = .returned v ∧ EachAt 118 4 w0 pv S0 w' (runS zeroSlot L S0 K) v (runD zeroSlot L S0 K) := by
  obtain ⟨n, hn⟩ : ∃ n, L.length = n := ⟨_, rfl⟩
  have HN := Lib.hid hn
  have HST := Lib.hid (each_start 118 4 hport)
  have HL := Lib.hid hL
  have HR := Lib.hid hr
  have HAP := Lib.hid hap
  have HF := Lib.hid hfit
  have HM := Lib.hid hmore
  rw [hn] at hLl ⊢
  clear hn hL hr hap hfit hmore hport
  go_enter Tryz.func90, Tryz.ntmps90
  go_wp2_with fail
  go_loopw [9, 10] (fun v i wr => ∃ k : Nat, k ≤ K ∧ i = .int .i64 k ∧ Hid (EachAt 118 4 w0 pv S0 wr (runS zeroSlot L S0 k) v (runD zeroSlot L S0 k))) (fun _ i _ => K - (intOf i).toNat)
  case atStart => exact ⟨0, Nat.zero_le _, rfl, HST.out⟩
  case round =>
    rename_i v9 _ _
    obtain ⟨k, hk, rfl, HE⟩ := hrel
    have hm := HM.out k wr _ hk HE.out
    by_cases hlt : k < K
    · have hd : decide (k < K) = true := decide_eq_true hlt
      rw [hd] at hm
      have HMK := Lib.hid hm
      have hfk := HF.out k hlt
      obtain ⟨S, hS⟩ : ∃ S, runS zeroSlot L S0 k = S := ⟨_, rfl⟩
      obtain ⟨Dn, hD⟩ : ∃ Dn, runD zeroSlot L S0 k = Dn := ⟨_, rfl⟩
      have hDl : Dn.length = k := by rw [← hD]; exact runD_length _ _ _ _
      have HS : Hid (runS zeroSlot L S0 (k + 1) = stS S (itemAt zeroSlot L k) ∧ runD zeroSlot L S0 (k + 1) = Dn ++ [stO S (itemAt zeroSlot L k)]) := by show _ ∧ _; rw [← hS, ← hD]; exact ⟨rfl, rfl⟩
      rw [hS] at hfk
      rw [hS, hD] at HE
      have HDL := Lib.hid hDl
      clear hm hd hS hD hDl
      have hx0 : (0 : Int) ≤ (k : Int) := by omega
      by_cases hil : k < n
      · obtain ⟨x, hx⟩ : ∃ x, L[k]? = some x := ⟨_, List.getElem?_eq_getElem (by rw [HN.out]; exact hil)⟩
        have hit : itemAt zeroSlot L k = x := itemAt_in hx
        rw [hit] at HS
        have hLne : L ≠ [] := by rintro rfl; simp at hx
        have hxi := HL.out x (List.mem_of_getElem? hx)
        have hxw := isFSlot_widths hxi
        have HXI := Lib.hid hxi
        obtain ⟨z0, z1, z2, z3, rfl, k0, k1, k2, k3⟩ := hxi
        obtain ⟨b, off, rfl, hb, hc⟩ := HR.out.row (show (L.map rowV)[k]? = some (rowV (fldSlot z0 z1 z2 z3)) by rw [List.getElem?_map, hx]; rfl)
        obtain ⟨_, hapb⟩ := HAP.out hLne b off rfl
        have hcell : ∀ (i : Nat) (u : Value), (rowV (fldSlot z0 z1 z2 z3))[i]? = some u → (wr.alloc (.cells #[.int .i64 0, .int .u32 0, .int .i64 0, .int .i64 0] 118)).cell? ⟨b, off + k * 4 + i, none⟩ = some u := fun i u hi => by
          have h1 := hc i u hi
          rw [← Nat.add_assoc] at h1
          refine ((below_box wr (.cells #[.int .i64 0, .int .u32 0, .int .i64 0, .int .i64 0] 118)).cell (p := ⟨b, off + k * 4 + i, none⟩) (Nat.lt_of_lt_of_le hb HE.out.went.size)).trans ?_
          exact (World.cell?_of_block (a := ⟨b, off + k * 4 + i, none⟩) (HE.out.went.block b hb hapb (by omega))).trans h1
        have c0 : (wr.alloc (.cells #[.int .i64 0, .int .u32 0, .int .i64 0, .int .i64 0] 118)).cell? ⟨b, off + k * 4, none⟩ = some (.int .i64 z0) := hcell 0 _ rfl
        have c1 : (wr.alloc (.cells #[.int .i64 0, .int .u32 0, .int .i64 0, .int .i64 0] 118)).cell? ⟨b, off + k * 4 + 1, none⟩ = some (.int .u32 z1) := hcell 1 _ rfl
        have c2 : (wr.alloc (.cells #[.int .i64 0, .int .u32 0, .int .i64 0, .int .i64 0] 118)).cell? ⟨b, off + k * 4 + 2, none⟩ = some (.int .i64 z2) := hcell 2 _ rfl
        have c3 : (wr.alloc (.cells #[.int .i64 0, .int .u32 0, .int .i64 0, .int .i64 0] 118)).cell? ⟨b, off + k * 4 + 3, none⟩ = some (.int .i64 z3) := hcell 3 _ rfl
        have HLAY : Hid (LayAt (fldSlot z0 z1 z2 z3) wr.heap.size 118 (wr.alloc (.cells #[.int .i64 z0, .int .u32 z1, .int .i64 z2, .int .i64 z3] 118)) pv S 0 (wr.alloc (.cells #[.int .i64 z0, .int .u32 z1, .int .i64 z2, .int .i64 z3] 118))) := Lib.hid (HE.out.lay (fldSlot z0 z1 z2 z3) (by rw [hxw]; exact hfk))
        have hx1 : (k : Int) < (n : Int) := by omega
        have HIT := Lib.hid hit
        clear hc hcell hx hit hLne hapb hb hfk hxw hil
        go_wp2_with (go_at_fn gm; refine HMK.out.mono ?_; rintro e w1 ⟨rfl, rfl⟩)
        refine (laySlot_is HXI.out HLAY.out).mono ?_
        rintro e w2 ⟨rfl, h2⟩
        obtain ⟨E2, row2, sz2⟩ := HE.out.laid (isFSlot_length HXI.out) h2
        obtain ⟨y0, y1, y2, y3, hout⟩ : ∃ y0 y1 y2 y3, stO S (fldSlot z0 z1 z2 z3) = fldSlot y0 y1 y2 y3 := ⟨_, _, _, _, rfl⟩
        rw [hout] at row2 HS
        have e0 : w2.cell? ⟨wr.heap.size, 0, none⟩ = some (.int .i64 y0) := (cell_of_row row2 0).trans rfl
        have e1 : w2.cell? ⟨wr.heap.size, 1, none⟩ = some (.int .u32 y1) := (cell_of_row row2 1).trans rfl
        have e2 : w2.cell? ⟨wr.heap.size, 2, none⟩ = some (.int .i64 y2) := (cell_of_row row2 2).trans rfl
        have e3 : w2.cell? ⟨wr.heap.size, 3, none⟩ = some (.int .i64 y3) := (cell_of_row row2 3).trans rfl
        have HE2 := Lib.hid (E2.alloc (.cells #[.int .i64 y0, .int .u32 y1, .int .i64 y2, .int .i64 y3] 118))
        have n3 : (w2.alloc (.cells #[.int .i64 y0, .int .u32 y1, .int .i64 y2, .int .i64 y3] 118)).heap[w2.heap.size]? = some (.cells (cellsF (fldSlot y0 y1 y2 y3)) 118 (0, 0)) := heap_alloc_new w2 _
        have HN3 := Lib.hid n3
        have HSZ : Hid (w0.heap.size ≤ w2.heap.size) := Lib.hid E2.went.size
        have HDL2 : Hid ((Dn.map rowV).length = k) := by show _ = _; rw [List.length_map]; exact HDL.out
        clear h2 E2 hout row2 sz2 n3
        go_wp2_with (at_builtin; refine wpList_append_row_at rfl _ _ _ rfl w0.heap.size 118 _ 4 32 Tryz.underlying65 infoSlot rfl (by decide) _ (Dn.map rowV) rfl HE2.out.own w2.heap.size 1 (rowV (fldSlot y0 y1 y2 y3)) rfl rfl (fun j u hj => ((cell_of_row HN3.out j).trans (cellsF_row _ j)).trans hj) (fun u hu => by simp only [fldSlot, rowV, List.map_cons, List.map_nil, List.mem_cons, List.not_mem_nil, or_false] at hu; rcases hu with rfl | rfl | rfl | rfl <;> rfl) (by rw [HDL2.out]; omega) (by rw [HDL2.out]; unfold maxLen; omega) (by simp; have := HSZ.out; omega) ?_; intro v4 w4 o4 g4 l4; have E4 := Lib.hid (HE2.out.next o4 g4 l4); clear o4 g4 l4)
        go_roundw
        case rel =>
          refine ⟨k + 1, by omega, by go_num, ?_⟩
          show EachAt _ _ _ _ _ _ _ _ _
          rw [HS.out.1, HS.out.2]
          exact E4.out
        case measure => simp [intOf]; omega
      · have hit : itemAt zeroSlot L k = zeroSlot := itemAt_out (by rw [HN.out]; omega)
        rw [hit] at HS
        have HXI := Lib.hid zeroSlot_is
        have HLAY : Hid (LayAt zeroSlot wr.heap.size 118 (wr.alloc (.cells #[.int .i64 0, .int .u32 0, .int .i64 0, .int .i64 0] 118)) pv S 0 (wr.alloc (.cells #[.int .i64 0, .int .u32 0, .int .i64 0, .int .i64 0] 118))) := Lib.hid (HE.out.lay zeroSlot (by rw [isFSlot_widths zeroSlot_is]; exact hfk))
        have hx1 : ¬ (k : Int) < (n : Int) := by omega
        clear hit hfk hil
        go_wp2_with (go_at_fn gm; refine HMK.out.mono ?_; rintro e w1 ⟨rfl, rfl⟩)
        refine (laySlot_is HXI.out HLAY.out).mono ?_
        rintro e w2 ⟨rfl, h2⟩
        obtain ⟨E2, row2, sz2⟩ := HE.out.laid (isFSlot_length HXI.out) h2
        obtain ⟨y0, y1, y2, y3, hout⟩ : ∃ y0 y1 y2 y3, stO S zeroSlot = fldSlot y0 y1 y2 y3 := ⟨_, _, _, _, rfl⟩
        rw [hout] at row2 HS
        have e0 : w2.cell? ⟨wr.heap.size, 0, none⟩ = some (.int .i64 y0) := (cell_of_row row2 0).trans rfl
        have e1 : w2.cell? ⟨wr.heap.size, 1, none⟩ = some (.int .u32 y1) := (cell_of_row row2 1).trans rfl
        have e2 : w2.cell? ⟨wr.heap.size, 2, none⟩ = some (.int .i64 y2) := (cell_of_row row2 2).trans rfl
        have e3 : w2.cell? ⟨wr.heap.size, 3, none⟩ = some (.int .i64 y3) := (cell_of_row row2 3).trans rfl
        have HE2 := Lib.hid (E2.alloc (.cells #[.int .i64 y0, .int .u32 y1, .int .i64 y2, .int .i64 y3] 118))
        have n3 : (w2.alloc (.cells #[.int .i64 y0, .int .u32 y1, .int .i64 y2, .int .i64 y3] 118)).heap[w2.heap.size]? = some (.cells (cellsF (fldSlot y0 y1 y2 y3)) 118 (0, 0)) := heap_alloc_new w2 _
        have HN3 := Lib.hid n3
        have HSZ : Hid (w0.heap.size ≤ w2.heap.size) := Lib.hid E2.went.size
        have HDL2 : Hid ((Dn.map rowV).length = k) := by show _ = _; rw [List.length_map]; exact HDL.out
        clear h2 E2 hout row2 sz2 n3
        go_wp2_with (at_builtin; refine wpList_append_row_at rfl _ _ _ rfl w0.heap.size 118 _ 4 32 Tryz.underlying65 infoSlot rfl (by decide) _ (Dn.map rowV) rfl HE2.out.own w2.heap.size 1 (rowV (fldSlot y0 y1 y2 y3)) rfl rfl (fun j u hj => ((cell_of_row HN3.out j).trans (cellsF_row _ j)).trans hj) (fun u hu => by simp only [fldSlot, rowV, List.map_cons, List.map_nil, List.mem_cons, List.not_mem_nil, or_false] at hu; rcases hu with rfl | rfl | rfl | rfl <;> rfl) (by rw [HDL2.out]; omega) (by rw [HDL2.out]; unfold maxLen; omega) (by simp; have := HSZ.out; omega) ?_; intro v4 w4 o4 g4 l4; have E4 := Lib.hid (HE2.out.next o4 g4 l4); clear o4 g4 l4)
        go_roundw
        case rel =>
          refine ⟨k + 1, by omega, by go_num, ?_⟩
          show EachAt _ _ _ _ _ _ _ _ _
          rw [HS.out.1, HS.out.2]
          exact E4.out
        case measure => simp [intOf]; omega
    · have hd : decide (k < K) = false := decide_eq_false hlt
      rw [hd] at hm
      obtain rfl : k = K := by omega
      have HMK := Lib.hid hm
      clear hm hd
      go_wp2_with (go_at_fn gm; refine HMK.out.mono ?_; rintro e w1 ⟨rfl, rfl⟩)
      go_ret
      exact ⟨_, rfl, HE.out⟩
end Go.Proofs.YtgakidimipipeaaGreat

namespace Go.Proofs.YtgakidimipipeaaGreat
open Go.RowKit Go.Sort
set_option linter.unusedVariables false
set_option linter.unusedSimpArgs false
set_option maxRecDepth 100000

theorem enters_moreSlot (args : Array Value) (w : World) : (callFunc 91 args).run Tryz.prog w = .ok (.enter 91 args) w := enters_of Tryz.func91 (by kernel_rfl) rfl args w
theorem moreSlot_is {w : World} {pv : Value} {S : PS} (h : IsPort w pv S) {gl gx gp n cap : Nat} {a : Option Addr} (cl : w.cell? ⟨gl, 0, none⟩ = some (.pointer (some ⟨gx, 0, none⟩))) (cx : w.cell? ⟨gx, 0, none⟩ = some (.slice a n cap)) (cp : w.cell? ⟨gp, 0, none⟩ = some pv) (i : Nat) :
    Calls Tryz.prog 91 #[.int .i64 (i : Int), .pointer (some ⟨gl, 0, none⟩), .pointer (some ⟨gp, 0, none⟩)] w fun e w' => e = .returned (.bool (decide (i < n ∨ 0 < leftS S))) ∧ w = w' := by
  by_cases hi : i < n
  · have h1 : (i : Int) < (n : Int) := by omega
    have hd : decide (i < n ∨ 0 < leftS S) = true := decide_eq_true (.inl hi)
    rw [hd]
    clear h hd hi
    go_enter Tryz.func91, Tryz.ntmps91
    go_wp2
    go_ret
    exact ⟨rfl, rfl⟩
  · have h1 : decide (i < n) = false := decide_eq_false hi
    have hd : decide (i < n ∨ 0 < leftS S) = decide (0 < leftS S) := by simp [hi]
    rw [hd]
    have HL := Lib.hid (left_is h)
    cases S with
    | wr l f =>
      obtain ⟨g, v, rfl, hw⟩ := h
      have hna := fun n hn w => naL_wr n g w hn
      have hmt := fun n hn w => mtL_wr n g w hn
      clear hd hi hw
      go_enter Tryz.func91, Tryz.ntmps91
      go_wp2_with (go_at_call 141; refine HL.out.mono ?_; rintro e w1 ⟨rfl, rfl⟩)
      go_ret
      exact ⟨rfl, rfl⟩
    | rd b =>
      obtain ⟨g, a2, cap2, rfl, hw⟩ := h
      have hna := fun n hn w => naL_rd n g w hn
      have hmt := fun n hn w => mtL_rd n g w hn
      obtain ⟨m, hm⟩ : ∃ m, leftS (.rd b) = m := ⟨_, rfl⟩
      rw [hm] at HL ⊢
      clear hd hi hw hm
      go_enter Tryz.func91, Tryz.ntmps91
      go_wp2_with (go_at_call 143; refine HL.out.mono ?_; rintro e w1 ⟨rfl, rfl⟩)
      go_ret
      exact ⟨rfl, rfl⟩
end Go.Proofs.YtgakidimipipeaaGreat

namespace Go.Proofs.YtgakidimipipeaaGreat
open Go.RowKit Go.Sort
set_option linter.unusedVariables false
set_option linter.unusedSimpArgs false
set_option maxRecDepth 100000

set_option maxHeartbeats 3200000 in
theorem restSlot_is {w : World} {pv : Value} {S : PS} (hport : IsPort w pv S) (L : List (List FldD)) (hL : ∀ x ∈ L, IsFSlot x) (a : Option Addr) (cap gx gb : Nat) (lt tb : TypeId) (hlt : lt ≠ 118) (nx : w.heap[gx]? = some (.cells #[.slice a L.length cap] lt (0, 0))) (hax : Away w pv S gx)
    (nb : w.heap[gb]? = some (.cells #[.func (.func 51) #[] #[]] tb (0, 0))) (hab : Apart w pv S gb) (hxb : gx ≠ gb)
    (hr : ReadsR w a 4 (L.map rowV)) (hap : L ≠ [] → ∀ b off, a = some ⟨b, off, none⟩ → b < w.heap.size ∧ Apart w pv S b)
    (K : Nat) (hK : K ≤ 2000) (hLl : L.length ≤ 2000) (hfit : ∀ i, i < K → (runS zeroSlot L S i).fits 11) (hM : ∀ i, i ≤ K → decide (i < L.length ∨ 0 < leftS (runS zeroSlot L S i)) = decide (i < K)) :
    Calls Tryz.prog 89 #[pv, .pointer (some ⟨gx, 0, none⟩), .pointer (some ⟨gb, 0, none⟩)] w (RestPost 118 lt 4 w pv S (runS zeroSlot L S K) gx (runD zeroSlot L S K)) := by
  obtain ⟨ti, vi, rfl⟩ := port_iface hport
  have q1 := below_box w (.cells #[(.iface ti vi)] 102)
  have m1 := heap_alloc_new w (.cells #[(.iface ti vi)] 102)
  obtain ⟨w1, hw1⟩ : ∃ x, w.alloc (.cells #[(.iface ti vi)] 102) = x := ⟨_, rfl⟩
  have hs1 : w1.heap.size = w.heap.size + 1 := by rw [← hw1]; simp
  rw [hw1] at q1 m1
  have q2 := below_box w1 (.cells #[.pointer (some ⟨gx, 0, none⟩)] 175)
  have m2 := heap_alloc_new w1 (.cells #[.pointer (some ⟨gx, 0, none⟩)] 175)
  obtain ⟨w2, hw2⟩ : ∃ x, w1.alloc (.cells #[.pointer (some ⟨gx, 0, none⟩)] 175) = x := ⟨_, rfl⟩
  have hs2 : w2.heap.size = w.heap.size + 2 := by rw [← hw2]; simp [hs1]
  rw [hw2, hs1] at q2 m2
  obtain ⟨w3, hw3⟩ : ∃ x, w2.drew = x := ⟨_, rfl⟩
  have hs3 : w3.heap.size = w.heap.size + 2 := by rw [← hw3]; exact hs2
  have q3 : Below (w.heap.size + 1) w1 w3 := by rw [← hw3]; exact q2.drew
  have m3 : w3.heap[w.heap.size + 1]? = some (.cells #[.pointer (some ⟨gx, 0, none⟩)] 175 (0, 0)) := by rw [← hw3]; exact m2
  have hq := below_next q1 (hs1 ▸ q3)
  have hgx : gx < w.heap.size := (Array.getElem?_eq_some_iff.1 nx).1
  have hgb : gb < w.heap.size := (Array.getElem?_eq_some_iff.1 nb).1
  have m12 := (q3.block w.heap.size (by omega)).trans m1
  have nx2 := (hq.block gx hgx).trans nx
  have nb2 := (hq.block gb hgb).trans nb
  obtain ⟨p1, p2, p3⟩ := port_kept hport (below_grown0 hq) (fun k hk => by cases hk)
  have hax2 := (p2 gx).1 hax
  have hab2 := (p3 gb).1 hab
  have hr2 := hr.below hq
  have hap2 : L ≠ [] → ∀ b off, a = some ⟨b, off, none⟩ → b < w3.heap.size ∧ Apart w3 (.iface ti vi) S b := fun h b off e => ⟨by have := (hap h b off e).1; omega, (p3 b).1 (hap h b off e).2⟩
  have aP : Apart w3 (.iface ti vi) S w.heap.size := (p3 _).1 (away_ne hport (Nat.le_refl _))
  have aL : Apart w3 (.iface ti vi) S (w.heap.size + 1) := (p3 _).1 (away_ne hport (by omega))
  have keep : ∀ (W : World) (v : Value) (S' : PS) (dn : List (List FldD)), EachAt 118 4 w3 (.iface ti vi) S W S' v dn → W.heap[gx]? = some (.cells #[.slice a L.length cap] lt (0, 0)) ∧ W.heap[gb]? = some (.cells #[.func (.func 51) #[] #[]] tb (0, 0)) ∧ W.heap[w.heap.size]? = some (.cells #[(.iface ti vi)] 102 (0, 0)) ∧ W.heap[w.heap.size + 1]? = some (.cells #[.pointer (some ⟨gx, 0, none⟩)] 175 (0, 0)) := fun W v S' dn h =>
    ⟨(h.went.block gx (by omega) hax2.apart (by omega)).trans nx2, (h.went.block gb (by omega) hab2 (by omega)).trans nb2, (h.went.block w.heap.size (by omega) aP (by omega)).trans m12, (h.went.block (w.heap.size + 1) (by omega) aL (by omega)).trans m3⟩
  have hmore : ∀ (i : Nat) (W : World) (v : Value), i ≤ K → EachAt 118 4 w3 (.iface ti vi) S W (runS zeroSlot L S i) v (runD zeroSlot L S i) → Calls Tryz.prog 91 (#[.int .i64 (i : Int)] ++ #[.pointer (some ⟨w.heap.size + 1, 0, none⟩), .pointer (some ⟨w.heap.size, 0, none⟩)]) W fun e w' => e = .returned (.bool (decide (i < K))) ∧ W = w' := fun i W v hi h => by
    obtain ⟨k1, k2, k3, k4⟩ := keep W v _ _ h
    have := moreSlot_is (n := L.length) (cap := cap) (a := a) h.went.port ((cell_of_row k4 0).trans rfl) ((cell_of_row k1 0).trans rfl) ((cell_of_row k3 0).trans rfl) i
    rw [hM i hi] at this
    exact this
  have HCALL := Lib.hid (eachSlot_is L hL a cap hr2 hap2 p1 K hK hLl hfit 91 _ enters_moreSlot hmore)
  have HKEEP := Lib.hid keep
  have HFIN := Lib.hid (fun (W : World) (v : Value) (S' : PS) (dn : List (List FldD)) (h : EachAt 118 4 w3 (.iface ti vi) S W S' v dn) => (show RestPost 118 lt 4 w (.iface ti vi) S S' gx dn (.returned (.tuple #[])) (W.setCell ⟨gx, 0, none⟩ v) from rest_fin hport hq hlt hgx hax nx h))
  have c0 : w3.cell? ⟨w.heap.size + 1, 0, none⟩ = some (.pointer (some ⟨gx, 0, none⟩)) := (cell_of_row m3 0).trans rfl
  have c1 : w3.cell? ⟨w.heap.size, 0, none⟩ = some (.iface ti vi) := (cell_of_row m12 0).trans rfl
  have c2 : w3.cell? ⟨gx, 0, none⟩ = some (.slice a L.length cap) := (cell_of_row nx2 0).trans rfl
  have c3 : w3.cell? ⟨gb, 0, none⟩ = some (.func (.func 51) #[] #[]) := (cell_of_row nb2 0).trans rfl
  clear q1 m1 q2 m2 q3 m3 hq m12 nx2 nb2 p1 p2 p3 hax2 hab2 hr2 hap2 aP aL keep hmore nx nb hr hap hax hab hport hL hfit hM hs2 hs3
  go_enter Tryz.func89, Tryz.ntmps89
  go_wp2_with fail
  subst hw3
  refine wp_region_held_drew (S := fun W => W.cell? ⟨w.heap.size + 1, 0, none⟩ = some (.pointer (some ⟨gx, 0, none⟩)) ∧ W.cell? ⟨w.heap.size, 0, none⟩ = some (.iface ti vi) ∧ W.cell? ⟨gb, 0, none⟩ = some (.func (.func 51) #[] #[])) (by kernel_rfl) ⟨c0, c1, c3⟩ (fun hHeld => ?_)
  refine wpAnyH_take (i := 0) (v := .pointer (some ⟨gx, 0, none⟩)) rfl (by kernel_rfl) (by kernel_rfl) (by kernel_rfl) (fun _ _ _ h => h) (Or.inl ⟨by rfl, by intro W hSw; (try dsimp only at hSw); go_simp⟩) (by assumption) ?_
  try simp only [Act.put, List.setIfInBounds_toArray, List.set_cons_zero, List.set_cons_succ]
  refine wpAnyH_take (i := 1) (v := .iface ti vi) rfl (by kernel_rfl) (by kernel_rfl) (by kernel_rfl) (fun _ _ _ h => h) (Or.inl ⟨by rfl, by intro W hSw; (try dsimp only at hSw); go_simp⟩) (by assumption) ?_
  try simp only [Act.put, List.setIfInBounds_toArray, List.set_cons_zero, List.set_cons_succ]
  refine wpAnyH_take (i := 2) (v := .pointer (some ⟨gx, 0, none⟩)) rfl (by kernel_rfl) (by kernel_rfl) (by kernel_rfl) (fun _ _ _ h => h) (Or.inl ⟨by rfl, by intro W hSw; (try dsimp only at hSw); go_simp⟩) (by assumption) ?_
  try simp only [Act.put, List.setIfInBounds_toArray, List.set_cons_zero, List.set_cons_succ]
  refine wpAnyH_take (i := 3) (v := .pointer (some ⟨gx, 0, none⟩)) rfl (by kernel_rfl) (by kernel_rfl) (by kernel_rfl) (fun _ _ _ h => h) (Or.inl ⟨by rfl, by intro W hSw; (try dsimp only at hSw); go_simp⟩) (by assumption) ?_
  try simp only [Act.put, List.setIfInBounds_toArray, List.set_cons_zero, List.set_cons_succ]
  refine wpAnyH_take (i := 5) (v := .func (.func 91) #[] #[.pointer (some ⟨w.heap.size + 1, 0, none⟩), .pointer (some ⟨w.heap.size, 0, none⟩)]) rfl (by kernel_rfl) (by kernel_rfl) (by kernel_rfl) (fun _ _ _ h => h) (Or.inl ⟨by rfl, by intro W hSw; (try dsimp only at hSw); go_simp⟩) (by assumption) ?_
  try simp only [Act.put, List.setIfInBounds_toArray, List.set_cons_zero, List.set_cons_succ]
  refine wpAnyH_take (i := 6) (v := .func (.func 51) #[] #[]) rfl (by kernel_rfl) (by kernel_rfl) (by kernel_rfl) (fun _ _ _ h => h) (Or.inl ⟨by rfl, by intro W hSw; (try dsimp only at hSw); go_simp⟩) (by assumption) ?_
  try simp only [Act.put, List.setIfInBounds_toArray, List.set_cons_zero, List.set_cons_succ]
  refine wpAnyH_ready (rs := [4]) (by kernel_rfl) (by simp) ?_
  refine AllReadyH.cons rfl (fun K' hK' => ?_) AllReadyH.nil
  go_simp
  refine hK'.out _ _ hHeld (fun hHeld => ?_)
  clear hK' K'
  try simp only [Act.put, List.setIfInBounds_toArray, List.set_cons_zero, List.set_cons_succ]
  refine wpAnyH_ready (rs := [7]) (by kernel_rfl) (by simp) ?_
  refine AllReadyH.cons rfl (fun K' hK' => ?_) AllReadyH.nil
  go_simp
  refine HCALL.out.mono ?_
  rintro e w5 ⟨v5, rfl, h5⟩
  obtain ⟨a5, n5, q5, rfl⟩ := each_shape h5
  obtain ⟨k1, k2, k3, k4⟩ := HKEEP.out w5 _ _ _ h5
  have c5 : w5.cell? ⟨gx, 0, none⟩ = some (.slice a L.length cap) := (cell_of_row k1 0).trans rfl
  have f5 := frozen_of_row w5 gx 0 _ _ k1
  have SA : w5.cell? ⟨w.heap.size + 1, 0, none⟩ = some (.pointer (some ⟨gx, 0, none⟩)) ∧ w5.cell? ⟨w.heap.size, 0, none⟩ = some (.iface ti vi) ∧ w5.cell? ⟨gb, 0, none⟩ = some (.func (.func 51) #[] #[]) := ⟨(cell_of_row k4 0).trans rfl, (cell_of_row k3 0).trans rfl, (cell_of_row k2 0).trans rfl⟩
  have SB : (w5.setCell ⟨gx, 0, none⟩ (.slice a5 n5 q5)).cell? ⟨w.heap.size + 1, 0, none⟩ = some (.pointer (some ⟨gx, 0, none⟩)) ∧ (w5.setCell ⟨gx, 0, none⟩ (.slice a5 n5 q5)).cell? ⟨w.heap.size, 0, none⟩ = some (.iface ti vi) ∧ (w5.setCell ⟨gx, 0, none⟩ (.slice a5 n5 q5)).cell? ⟨gb, 0, none⟩ = some (.func (.func 51) #[] #[]) := ⟨(World.cell?_of_block (a := ⟨w.heap.size + 1, 0, none⟩) (Below.heap_setCell _ _ _ _ (by show w.heap.size + 1 ≠ gx; omega))).trans SA.1, (World.cell?_of_block (a := ⟨w.heap.size, 0, none⟩) (Below.heap_setCell _ _ _ _ (by show w.heap.size ≠ gx; omega))).trans SA.2.1, (World.cell?_of_block (a := ⟨gb, 0, none⟩) (Below.heap_setCell _ _ _ _ (Ne.symm hxb))).trans SA.2.2⟩
  have HFF := HFIN.out _ _ _ _ h5
  clear h5 k1 k2 k3 k4 hHeld
  refine hK'.out _ _ SA (fun hHeld => ?_)
  clear hK' K'
  try simp only [Act.put, List.setIfInBounds_toArray, List.set_cons_zero, List.set_cons_succ]
  refine wpAnyH_take (i := 8) (v := .pointer (some ⟨gx, 0, none⟩)) rfl (by kernel_rfl) (by kernel_rfl) (by kernel_rfl) (fun _ _ _ h => h) (Or.inl ⟨by rfl, by intro W hSw; (try dsimp only at hSw); go_simp⟩) (by assumption) ?_
  try simp only [Act.put, List.setIfInBounds_toArray, List.set_cons_zero, List.set_cons_succ]
  refine wpAnyH_ready (rs := [9]) (by kernel_rfl) (by simp) ?_
  refine AllReadyH.cons rfl (fun K' hK' => ?_) AllReadyH.nil
  go_simp
  refine hK'.out _ _ SB (fun hHeld => ?_)
  clear hK' K'
  refine wpAnyH_done (by kernel_rfl) ?_ _
  go_end0
  exact HFF
end Go.Proofs.YtgakidimipipeaaGreat
