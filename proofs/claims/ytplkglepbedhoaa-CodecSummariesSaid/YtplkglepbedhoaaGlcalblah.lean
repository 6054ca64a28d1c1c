/- A sealed sector of a Summary read (codec.read). -/
import Derived.Test.YtplkglepbedhoaaGpdhhgaal
namespace Go.Proofs.Ytplkglepbedhoaa
open Go.RowKit Go.Sort
set_option linter.unusedVariables false
set_option linter.unusedSimpArgs false
set_option maxRecDepth 100000

/-- A summary's parts. -/
structure SumD where
  seq : Nat
  first : Nat
  commit : Bool
  next : Int
  time : Nat
  list : List (List FldD)
def OkD (D : SumD) : Prop := D.seq < 18446744073709551616 ∧ D.first < 18446744073709551616 ∧ I64 D.next ∧ D.time < 4294967296 ∧ ∀ x ∈ D.list, IsFEntry x
def sumX (D : SumD) (v : Value) : Array Value := sumV D.seq D.first D.commit D.next D.time v
noncomputable def writeD (D : SumD) : List Nat × Int := writeSm D.seq D.first D.commit D.next D.time D.list
theorem writeD_is {w : World} {D : SumD} {a : Option Addr} {cap : Nat} (h : OkD D) (hr : ReadsR w a 4 (D.list.map rowV)) :
    Calls Try.prog 80 #[.int .u8 3, .agg (sumX D (.slice a D.list.length cap)), .func (.func 81) #[] #[], .func (.func 82) #[] #[]] w fun e w' => e = .returned (.tuple #[.agg (cells (writeD D).1), .int .i64 (writeD D).2]) ∧ Below w.heap.size w w' :=
  writeSum_is h.1 h.2.1 h.2.2.1 h.2.2.2.1 h.2.2.2.2 hr
theorem writeD_length {D : SumD} (h : OkD D) : (writeD D).1.length = 128 := by
  unfold writeD writeSm
  split
  · rfl
  · rename_i hn
    refine sealL_length ?_
    have hu : upEntry D.list = true := by
      cases hx : upEntry D.list with
      | true => rfl
      | false => exact absurd (Or.inl hx) hn
    have := upEntry_len hu
    rw [wrSm_len h.2.2.2.2]
    omega
def rdD (b : List Nat) : SumD := ⟨rdSeq b, rdFirst b, rdCommit b, rdNext b, rdTime b, rdList b⟩
theorem rdD_is {b : List Nat} (hb : Bytes b) : OkD (rdD b) := by
  obtain ⟨k0, k1, k3, k4, hL⟩ := rdSum_is hb
  have h3 : I64 (rdNext b) := by unfold I64; omega
  exact ⟨k0, k1, h3, k4, hL⟩
theorem preadD_is {w : World} {b : List Nat} {a : Option Addr} {cap : Nat} (hb : Bytes b) (hr : Reads w a b.length b) (hc : b.length ≤ cap) (hm : cap ≤ maxLen) :
    Calls Try.prog 168 #[.slice a b.length cap, .func (.func 82) #[] #[]] w fun e w' => Below w.heap.size w w' ∧ ∃ a c, e = .returned (.agg (sumX (rdD b) (.slice a (rdD b).list.length c))) ∧ OwnsR' w.heap.size w' 163 4 (.slice a (rdD b).list.length c) ((rdD b).list.map rowV) := by
  refine (preadSum_is hb hr hc hm).mono ?_
  rintro e w' ⟨b1, v, rfl, ho⟩
  obtain ⟨a', c', rfl, _⟩ := owned_list ho
  exact ⟨b1, a', c', rfl, ho⟩
def zeroD : SumD := ⟨0, 0, false, 0, 0, []⟩
noncomputable def readSm (s : List Nat) : SumD × Int := if (writeD (rdD (bO s))).2 = 0 ∧ (writeD (rdD (bO s))).1 = s then (rdD (bO s), 0) else (zeroD, 21)
def ReadSmPost (w : World) (r : SumD × Int) (e : Ending) (w' : World) : Prop :=
  Below w.heap.size w w' ∧ ∃ v, e = .returned (.tuple #[.agg (sumX r.1 v), .int .i64 r.2]) ∧ OwnsR' w.heap.size w' 163 4 v (r.1.list.map rowV)
def sumZ : Array Value := sumV 0 0 false 0 0 (.slice none 0 0)
theorem sumZ_one : sumZ.all (·.oneCell') = true := sumV_one _ _ _ _ _ _ _ _
theorem zero_sum2 (w : World) : (zeroValue 48).run Try.prog w = .ok (.agg sumZ) w := zero_sum w
theorem results_sum {fn : Func} {p u : Tmp} (h : fn.results = #[.cell p 48, .tmp u]) (tmps : Array Value) (w : World) (g : Nat) (l : Array Value) (t : TypeId) (fr : Nat × Nat) (hp : tmps.getD p undef = .pointer (some ⟨g, 0, none⟩))
    (hg : w.heap[g]? = some (.cells l t fr)) (hl : l.size = 6) : (results fn tmps).run Try.prog w = .ok (.tuple #[.agg l, tmps.getD u undef]) w := by
  obtain ⟨d, hd1, hd2⟩ := row_sum
  rw [results_cell_tmp h, hp]
  simp only [asAddr, Sem.run_pure, Result.andThen_ok]
  rw [run_loadVar_row w g t 48 l fr d hg hd1 (by cases d <;> first | rfl | exact hd2) (by rw [size_sum, hl])]
  rfl

set_option maxHeartbeats 1600000 in
theorem readSum_is (s : List Nat) (hs : s.length = 128) (hb : Bytes s) (w : World) :
    Calls Try.prog 85 #[.int .u8 3, .agg (cells s), .func (.func 81) #[] #[], .func (.func 82) #[] #[]] w (ReadSmPost w (readSm s)) := by
  have hz := zero_sector
  have hzi := zero_sum2
  obtain ⟨d, hd1, hd2⟩ := row_sum
  have hsz : ∀ l : Array Value, l.size = 6 → (Try.prog.info? 48).map (·.size) = some l.toList.length := fun l hl => by rw [Array.length_toList, hl]; exact size_sum
  have hsz2 : ∀ l : Array Value, l.size = 6 → (Try.prog.info? 48).map (·.size) = some l.size := fun l hl => by rw [hl]; exact size_sum
  have b1 := below_box w (.cells (cells s) 42)
  have n1 := heap_alloc_new w (.cells (cells s) 42)
  obtain ⟨w1, hw1⟩ : ∃ w1, w.alloc (.cells (cells s) 42) = w1 := ⟨_, rfl⟩
  have hs1 : w1.heap.size = w.heap.size + 1 := by rw [← hw1]; simp
  rw [hw1] at b1 n1
  have b2 := below_box w1 (.cells (sumZ) 48)
  have n2 := heap_alloc_new w1 (.cells (sumZ) 48)
  have n1' := (b2.block w.heap.size (by omega)).trans n1
  have HB := Lib.hid (below_next b1 b2)
  rw [hs1] at n2
  obtain ⟨w2, hw2⟩ : ∃ w2, w1.alloc (.cells (sumZ) 48) = w2 := ⟨_, rfl⟩
  rw [hw2] at n2 n1' HB
  have hs2 : w2.heap.size = w.heap.size + 2 := by rw [← hw2]; simp [hs1]
  have HC := Lib.hid (box_cells hs n1')
  clear b1 n1 b2
  go_enter Try.func85, Try.ntmps85
  go_wp2_with (refine wpList_load_sector rfl _ rfl w.heap.size 0 s (by go_simp) hs HC.out ?_)
  refine (open_any2 s hs hb w2).mono ?_
  rintro e w3 ⟨b3, h3⟩
  have n1'' := (b3.block w.heap.size (by omega)).trans n1'
  have n2'' := (b3.block (w.heap.size + 1) (by omega)).trans n2
  have HB3 : Hid (Below w.heap.size w w3) := HB.out.trans (b3.mono HB.out.size)
  have hs3 : w.heap.size + 2 ≤ w3.heap.size := by have := b3.size; omega
  obtain ⟨k, a3, cap3, er, he, hr3, hc3, hm3⟩ : ∃ (k : Nat) (a3 : Option Addr) (cap3 : Nat) (er : Int), e = .returned (.tuple #[.int .u8 k, .slice a3 (bO s).length cap3, .int .i64 er]) ∧ Reads w3 a3 (bO s).length (bO s) ∧ (bO s).length ≤ cap3 ∧ cap3 ≤ maxLen := by
    rcases h3 with ⟨ho, a, cap, he, hr, hc, hm⟩ | ⟨ho, he⟩
    · have e : bO s = bodyL s := if_pos ho
      rw [e]
      exact ⟨_, a, cap, _, he, hr, hc, hm⟩
    · have e : bO s = [] := if_neg (by rw [ho]; decide)
      rw [e]
      exact ⟨0, none, 0, 21, he, ⟨rfl, by intro x hx; simp at hx, .inl rfl⟩, Nat.le_refl _, by unfold maxLen; omega⟩
  subst he
  have hbb : Bytes (bO s) := hr3.2.1
  clear h3 b3 n1' n2 HB HC hw1 hw2 hs1 hs2
  go_wp2_with fail
  refine (preadD_is hbb hr3 hc3 hm3).mono ?_
  rintro e w4 ⟨b4, a4, c4, rfl, ho4⟩
  have hIx := rdD_is hbb
  have HX : Hid (readSm s = if (writeD (rdD (bO s))).2 = 0 ∧ (writeD (rdD (bO s))).1 = s then (rdD (bO s), 0) else (zeroD, 21)) := rfl
  obtain ⟨D, hD⟩ : ∃ D, rdD (bO s) = D := ⟨_, rfl⟩
  rw [hD] at hIx HX ho4 ⊢
  obtain ⟨_, _, _, hr4, _⟩ := owned_list ho4
  have hr4 := OwnsR'.reads5 ho4
  have HO4 := Lib.hid (ho4.less hs3)
  have hmk := writeD_length hIx
  obtain ⟨X, hX⟩ : ∃ X, sumX D (.slice a4 D.list.length c4) = X := ⟨_, rfl⟩
  have HWR : Hid (∀ (w : World), ReadsR w a4 4 (D.list.map rowV) → Calls Try.prog 80 #[.int .u8 3, .agg X, .func (.func 81) #[] #[], .func (.func 82) #[] #[]] w fun e w' => e = .returned (.tuple #[.agg (cells (writeD D).1), .int .i64 (writeD D).2]) ∧ Below w.heap.size w w') := Lib.hid (fun w hr => by
    rw [← hX]
    exact writeD_is hIx hr)
  have hXs : X.size = 6 := by rw [← hX]; rfl
  have honex : X.all (·.oneCell') = true := by rw [← hX]; exact sumV_one _ _ _ _ _ _ _ _
  have HXX := Lib.hid hX
  rw [hX]
  have n1 := (b4.block w.heap.size (by omega)).trans n1''
  have n2 := (b4.block (w.heap.size + 1) (by omega)).trans n2''
  have HB4 : Hid (Below w.heap.size w w4) := HB3.out.trans (b4.mono HB3.out.size)
  have hs4 : w.heap.size + 2 ≤ w4.heap.size := Nat.le_trans hs3 b4.size
  have nz := heap_alloc_new w4 (.cells (sumZ) 48)
  have b5 := below_box w4 (.cells (X) 48)
  have nx := heap_alloc_new w4 (.cells (X) 48)
  have e5 := World.setRow_alloc_new w4 (sumZ) (X) 48
  obtain ⟨w5, hw5⟩ : ∃ w5, w4.alloc (.cells (X) 48) = w5 := ⟨_, rfl⟩
  rw [hw5] at b5 nx e5
  have n15 := (b5.block w.heap.size (by omega)).trans n1
  have n25 := (b5.block (w.heap.size + 1) (by omega)).trans n2
  have HB5 : Hid (Below w.heap.size w w5) := HB4.out.trans (b5.mono HB4.out.size)
  have hs5 : w5.heap.size = w4.heap.size + 1 := by rw [← hw5]; simp
  have hrx := row_range nx
  have hsx := hsz X hXs
  have hsx2 := hsz2 X hXs
  have hold : (sumZ).size = (X).size := by rw [hXs]; rfl
  obtain ⟨m, hm⟩ : ∃ m, w4.heap.size = m := ⟨_, rfl⟩
  rw [hm] at nx hrx hs5 nz hs4 e5
  have HR5 := Lib.hid (hr4.below b5)
  have HO5 := Lib.hid (HO4.out.below b5)
  clear n1'' n2'' HB3 hs3 b4 n1 n2 HB4 b5 hr3 hc3 hm3 hX hD hbb hw5 hr4 HO4 ho4
  go_wp2_with (first
    | (refine wpList_store_row rfl 48 _ _ rfl m (X) (by go_simp) (by go_simp) _ _ nz hsx2 hold honex ?_; rw [e5])
    | refine wpList_load_mid rfl 48 _ rfl m 0 (by go_simp) (X.toList) d hrx hd1 hd2 hsx ?_)
  refine (HWR.out w5 HR5.out).mono ?_
  rintro e w6 ⟨rfl, b6⟩
  obtain ⟨mk, hmke⟩ : ∃ mk, (writeD D).1 = mk := ⟨_, rfl⟩
  obtain ⟨er2, here⟩ : ∃ er2, (writeD D).2 = er2 := ⟨_, rfl⟩
  rw [hmke, here] at HX ⊢
  have HO6 := Lib.hid (HO5.out.below b6)
  rw [hmke] at hmk
  have n16 := (b6.block w.heap.size (by omega)).trans n15
  have n26 := (b6.block (w.heap.size + 1) (by omega)).trans n25
  have nx6 := (b6.block m (by omega)).trans nx
  have HB6 : Hid (Below w.heap.size w w6) := HB5.out.trans (b6.mono HB5.out.size)
  have hs6 : m + 1 ≤ w6.heap.size := by have := b6.size; omega
  have nn := heap_alloc_new w6 (.cells (cells noughts) 42)
  have b7 := below_box w6 (.cells (cells mk) 42)
  have n7 := heap_alloc_new w6 (.cells (cells mk) 42)
  have e7 := World.setRow_alloc_new w6 (cells noughts) (cells mk) 42
  obtain ⟨w7, hw7⟩ : ∃ w7, w6.alloc (.cells (cells mk) 42) = w7 := ⟨_, rfl⟩
  have HO7 := Lib.hid (HO6.out.below b7)
  rw [hw7] at b7 n7 e7 HO7
  have hs7 : w7.heap.size = w6.heap.size + 1 := by rw [← hw7]; simp
  have n17 := (b7.block w.heap.size (by omega)).trans n16
  have n27 := (b7.block (w.heap.size + 1) (by omega)).trans n26
  have nx7 := (b7.block m (by omega)).trans nx6
  have HB7 : Hid (Below w.heap.size w w7) := HB6.out.trans (b7.mono HB6.out.size)
  obtain ⟨m2, hm2⟩ : ∃ m2, w6.heap.size = m2 := ⟨_, rfl⟩
  rw [hm2] at n7 e7 nn hs7 hs6
  have HC7 := Lib.hid (block_cells hmk n7)
  have HCs := Lib.hid (block_cells hs n17)
  have hrx7 := row_range nx7
  have hneq := run_neq_sector mk s hmk hs
  clear n15 n25 nx HB5 b6 n16 n26 nx6 HB6 b7 hw7 hmke here hrx hold e5 nz hm
  by_cases her : er2 = 0
  · subst her
    by_cases hms : mk = s
    · have hfin : readSm s = (D, 0) := HX.out.trans (if_pos ⟨rfl, hms⟩)
      have HF := Lib.hid hfin
      rw [decide_eq_true hms, Bool.not_true] at hneq
      have hd8 := setRow_heap _ (w.heap.size + 1) _ (X) _ _ n27
      have hb8 := below_setRow (g := w.heap.size + 1) HB7.out (by omega) (X)
      have hold2 : (sumZ).size = (X).size := by rw [hXs]; rfl
      clear hfin hms
      go_wp2_with (first
        | (refine wpList_store_sector rfl _ _ rfl m2 mk rfl rfl hmk _ _ nn rfl ?_; rw [e7])
        | refine wpList_load_sector_want rfl _ rfl m2 0 mk rfl hmk HC7.out ?_
        | refine wpList_load_sector_want rfl _ rfl w.heap.size 0 s rfl hs HCs.out ?_
        | refine wpList_load_mid rfl 48 _ rfl m 0 rfl (X.toList) d hrx7 hd1 hd2 hsx ?_
        | refine wpList_store_row rfl 48 _ _ rfl (w.heap.size + 1) (X) rfl rfl _ _ n27 hsx2 hold2 honex ?_)
      refine bodyPost_ret (results_sum rfl _ _ (w.heap.size + 1) X _ _ rfl hd8 hXs) rfl ?_
      exact ⟨hb8, .slice a4 D.list.length c4, by rw [HF.out, ← HXX.out]; rfl, by
        rw [HF.out]
        exact (owns_same HO7.out fun j hj => setRow_other _ _ _ _ (by have := (HO7.out.lt j hj).1; omega)).less (by omega)⟩
    · rw [decide_eq_false hms, Bool.not_false] at hneq
      have hfin : readSm s = (zeroD, 21) := HX.out.trans (if_neg (fun h => hms h.2))
      have HF := Lib.hid hfin
      have b8 := below_box w7 (.cells (sumZ) 48)
      have n8 := heap_alloc_new w7 (.cells (sumZ) 48)
      rw [hs7] at n8
      have n28 := (b8.block (w.heap.size + 1) (by omega)).trans n27
      have HB8 : Hid (Below w.heap.size w (w7.alloc (.cells (sumZ) 48))) := HB7.out.trans (b8.mono HB7.out.size)
      have hr8 := row_range n8
      have hs8 := hsz sumZ rfl
      have hs82 := hsz2 sumZ rfl
      have hone8 := sumZ_one
      have hd8 := setRow_heap _ (w.heap.size + 1) _ (sumZ) _ _ n28
      have hb8 := below_setRow (g := w.heap.size + 1) HB8.out (by omega) (sumZ)
      clear b8 HB8 hfin
      go_wp2_with (first
        | (refine wpList_store_sector rfl _ _ rfl m2 mk rfl rfl hmk _ _ nn rfl ?_; rw [e7])
        | refine wpList_load_sector_want rfl _ rfl m2 0 mk rfl hmk HC7.out ?_
        | refine wpList_load_sector_want rfl _ rfl w.heap.size 0 s rfl hs HCs.out ?_
        | refine wpList_load_mid rfl 48 _ rfl (m2 + 1) 0 rfl (sumZ.toList) d hr8 hd1 hd2 hs8 ?_
        | refine wpList_store_row rfl 48 _ _ rfl (w.heap.size + 1) (sumZ) rfl rfl _ _ n28 hs82 rfl hone8 ?_)
      refine bodyPost_ret (results_sum rfl _ _ (w.heap.size + 1) sumZ _ _ rfl hd8 rfl) rfl ?_
      exact ⟨hb8, .slice none 0 0, by rw [HF.out]; rfl, by rw [HF.out]; exact OwnsR'.nil _ _ _ _⟩
  · have hne0 : (er2 == 0) = false := by simpa using her
    have hfin : readSm s = (zeroD, 21) := HX.out.trans (if_neg (fun h => her h.1))
    have HF := Lib.hid hfin
    have b8 := below_box w7 (.cells (sumZ) 48)
    have n8 := heap_alloc_new w7 (.cells (sumZ) 48)
    rw [hs7] at n8
    have n28 := (b8.block (w.heap.size + 1) (by omega)).trans n27
    have HB8 : Hid (Below w.heap.size w (w7.alloc (.cells (sumZ) 48))) := HB7.out.trans (b8.mono HB7.out.size)
    have hr8 := row_range n8
    have hs8 := hsz sumZ rfl
    have hs82 := hsz2 sumZ rfl
    have hone8 := sumZ_one
    have hd8 := setRow_heap _ (w.heap.size + 1) _ (sumZ) _ _ n28
    have hb8 := below_setRow (g := w.heap.size + 1) HB8.out (by omega) (sumZ)
    clear b8 HB8 hfin
    go_wp2_with (first
      | (refine wpList_store_sector rfl _ _ rfl m2 mk rfl rfl hmk _ _ nn rfl ?_; rw [e7])
      | refine wpList_load_sector_want rfl _ rfl m2 0 mk rfl hmk HC7.out ?_
      | refine wpList_load_sector_want rfl _ rfl w.heap.size 0 s rfl hs HCs.out ?_
      | refine wpList_load_mid rfl 48 _ rfl (m2 + 1) 0 rfl (sumZ.toList) d hr8 hd1 hd2 hs8 ?_
      | refine wpList_store_row rfl 48 _ _ rfl (w.heap.size + 1) (sumZ) rfl rfl _ _ n28 hs82 rfl hone8 ?_)
    refine bodyPost_ret (results_sum rfl _ _ (w.heap.size + 1) sumZ _ _ rfl hd8 rfl) rfl ?_
    exact ⟨hb8, .slice none 0 0, by rw [HF.out]; rfl, by rw [HF.out]; exact OwnsR'.nil _ _ _ _⟩

end Go.Proofs.Ytplkglepbedhoaa
