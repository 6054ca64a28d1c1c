/- Lists of things written to bytes and read of bytes, one behind the other: plain lists. The document's Sealed: numbers in a sealed sector. -/
import Derived.Test.YtgakidimipipeaaGbndcdfka
import Derived.Test.YtgakidimipipeaaGhnkogdgp
import Derived.Test.YtgakidimipipeaaGlgoacnag
import Derived.Test.YtgakidimipipeaaGlbhomjoi
import Derived.Test.YtgakidimipipeaaStep
import Derived.Deep.RegionHeld3
namespace Go.Proofs.Ytgakidimipipeaa
open Go.RowKit Go.Sort
set_option linter.unusedVariables false
set_option linter.unusedSimpArgs false

/-! ### Writing -/
theorem itemAt_eq {z : List FldD} {L : List (List FldD)} {i : Nat} {x : List FldD} (h : L[i]? = some x) : itemAt z L i = x := by unfold itemAt; rw [List.getD_eq_getElem?_getD, h]; rfl
theorem runS_wr (z : List FldD) (L : List (List FldD)) (S : PS) : ∀ i, i ≤ L.length → runS z L S i = stS S (L.take i).flatten
  | 0, _ => by simp [runS, stS]
  | i + 1, h => by
    have hx : L[i]? = some L[i] := List.getElem?_eq_getElem (by omega)
    show stS (runS z L S i) (itemAt z L i) = _
    have e : (L.take (i + 1)).flatten = (L.take i).flatten ++ L[i] := by rw [List.take_add_one, hx, List.flatten_append]; simp only [Option.toList_some, List.flatten_cons, List.flatten_nil, List.append_nil]
    rw [runS_wr z L S i (by omega), itemAt_eq hx, e, ← stS_append]
theorem runD_wr (z : List FldD) (L : List (List FldD)) (b : List Nat) (f : Bool) : ∀ i, i ≤ L.length → runD z L (.wr b f) i = L.take i
  | 0, _ => by simp [runD]
  | i + 1, h => by
    have hx : L[i]? = some L[i] := List.getElem?_eq_getElem (by omega)
    show runD z L (.wr b f) i ++ [stO (runS z L (.wr b f) i) (itemAt z L i)] = _
    obtain ⟨b', f', e⟩ := stS_wr (L.take i).flatten b f
    rw [runD_wr z L b f i (by omega), runS_wr z L _ i (by omega), itemAt_eq hx, e, stO_wr, List.take_add_one, hx]
    rfl
theorem widths_flat {W : Nat} : ∀ {L : List (List FldD)}, (∀ x ∈ L, widths x = W) → widths L.flatten = L.length * W
  | [], _ => by show 0 = 0 * W; omega
  | x :: L, h => by
    rw [List.flatten_cons, widths_append, h x (by simp), widths_flat fun y hy => h y (by simp [hy]), List.length_cons, Nat.succ_mul]
    omega
theorem fits_run {W : Nat} (z : List FldD) (L : List (List FldD)) (hW : ∀ x ∈ L, widths x = W) (hl : L.length * W ≤ 2000) (i : Nat) (hi : i < L.length) : (runS z L (.wr [] false) i).fits W := by
  rw [runS_wr z L _ i (by omega)]
  refine fits_at _ _ W ?_
  rw [widths_flat (fun x hx => hW x (List.mem_of_mem_take hx)), List.length_take, Nat.min_eq_left (by omega)]
  show ([] : List Nat).length + (i * W + W) ≤ 2000
  have : i * W + W ≤ L.length * W := by rw [← Nat.succ_mul]; exact Nat.mul_le_mul_right _ hi
  simp
  omega
theorem left_wr (z : List FldD) (L : List (List FldD)) (i : Nat) (hi : i ≤ L.length) : decide (i < L.length ∨ 0 < leftS (runS z L (.wr [] false) i)) = decide (i < L.length) := by
  rw [runS_wr z L _ i hi]
  obtain ⟨b', f', e⟩ := stS_wr (L.take i).flatten [] false
  rw [e]
  congr 1
  simp [leftS]

/-! ### Reading -/
def restR (z : List FldD) (b : List Nat) : List Nat := match stS (.rd b) z with | .rd b' => b' | .wr _ _ => []
theorem stS_rd_lt {z : List FldD} (hz : ∃ x l, z = x :: l ∧ 1 ≤ x.width) {b : List Nat} (hb : b ≠ []) : stS (.rd b) z = .rd (restR z b) ∧ (restR z b).length < b.length := by
  obtain ⟨x, l, rfl, hx⟩ := hz
  obtain ⟨b1, e1, _, h1, _⟩ := next_rd b x.width (u64of x.z)
  obtain ⟨b2, e2, h2, _⟩ := stS_rd l b1
  have e : stS (.rd b) (x :: l) = .rd b2 := by
    show stS (PS.next (.rd b) x.width (u64of x.z)) l = _
    rw [e1, e2]
  have er : restR (x :: l) b = b2 := by unfold restR; rw [e]
  rw [er]
  exact ⟨e, by have := h1 hx hb; omega⟩
def roundsR (z : List FldD) : Nat → List Nat → Nat
  | 0, _ => 0
  | f + 1, b => if b = [] then 0 else roundsR z f (restR z b) + 1
/-- How many things are read of bytes, and which. -/
def countR (z : List FldD) (b : List Nat) : Nat := roundsR z b.length b
def itemsR (z : List FldD) (b : List Nat) : List (List FldD) := runD z [] (.rd b) (countR z b)
theorem itemAt_nil (z : List FldD) (i : Nat) : itemAt z [] i = z := by unfold itemAt; simp
theorem runS_shift (z : List FldD) (S : PS) : ∀ i, runS z [] S (i + 1) = runS z [] (stS S z) i
  | 0 => by show stS S (itemAt z [] 0) = stS S z; rw [itemAt_nil]
  | i + 1 => by
    show stS (runS z [] S (i + 1)) (itemAt z [] (i + 1)) = stS (runS z [] (stS S z) i) (itemAt z [] i)
    rw [runS_shift z S i, itemAt_nil, itemAt_nil]
theorem runD_shift (z : List FldD) (S : PS) : ∀ i, runD z [] S (i + 1) = stO S z :: runD z [] (stS S z) i
  | 0 => by show [] ++ [stO S (itemAt z [] 0)] = _; rw [itemAt_nil]; rfl
  | i + 1 => by
    show runD z [] S (i + 1) ++ [stO (runS z [] S (i + 1)) (itemAt z [] (i + 1))] = stO S z :: (runD z [] (stS S z) i ++ [stO (runS z [] (stS S z) i) (itemAt z [] i)])
    rw [runD_shift z S i, runS_shift z S i, itemAt_nil, itemAt_nil]
    rfl
theorem rounds_spec {z : List FldD} (hz : ∃ x l, z = x :: l ∧ 1 ≤ x.width) : ∀ (f : Nat) (b : List Nat), b.length ≤ f → roundsR z f b ≤ b.length ∧ ∀ i, i ≤ roundsR z f b → decide (0 < leftS (runS z [] (.rd b) i)) = decide (i < roundsR z f b)
  | 0, b, h => by
    obtain rfl := List.length_eq_zero_iff.1 (Nat.le_zero.1 h)
    refine ⟨Nat.zero_le _, fun i hi => ?_⟩
    obtain rfl : i = 0 := Nat.le_zero.1 hi
    rfl
  | f + 1, b, h => by
    by_cases hb : b = []
    · subst hb
      refine ⟨Nat.zero_le _, fun i hi => ?_⟩
      obtain rfl : i = 0 := Nat.le_zero.1 hi
      rfl
    · obtain ⟨e, hlt⟩ := stS_rd_lt hz hb
      have er : roundsR z (f + 1) b = roundsR z f (restR z b) + 1 := if_neg hb
      obtain ⟨h1, h2⟩ := rounds_spec hz f (restR z b) (by omega)
      rw [er]
      refine ⟨by omega, fun i hi => ?_⟩
      cases i with
      | zero =>
        have : 0 < b.length := List.length_pos_iff.2 hb
        simp [runS, leftS, this]
      | succ i =>
        rw [runS_shift, e, h2 i (by omega)]
        congr 1
        simp
theorem left_rd {z : List FldD} (hz : ∃ x l, z = x :: l ∧ 1 ≤ x.width) (b : List Nat) (i : Nat) (hi : i ≤ countR z b) : decide (i < ([] : List (List FldD)).length ∨ 0 < leftS (runS z [] (.rd b) i)) = decide (i < countR z b) := by
  have := (rounds_spec hz b.length b (Nat.le_refl _)).2 i hi
  unfold countR
  rw [← this]
  congr 1
  simp
theorem runS_rd (z : List FldD) (b : List Nat) : ∀ i, ∃ b', runS z [] (.rd b) i = .rd b' ∧ (Bytes b → Bytes b')
  | 0 => ⟨b, rfl, id⟩
  | i + 1 => by
    obtain ⟨b1, e1, k1⟩ := runS_rd z b i
    obtain ⟨b2, e2, _, k2⟩ := stS_rd (itemAt z [] i) b1
    exact ⟨b2, by show stS (runS z [] (.rd b) i) _ = _; rw [e1, e2], fun h => k2 (k1 h)⟩
theorem runD_mem (z : List FldD) (b : List Nat) : ∀ i, ∀ x ∈ runD z [] (.rd b) i, ∃ b', x = stO (.rd b') z ∧ (Bytes b → Bytes b')
  | 0, x, hx => by simp [runD] at hx
  | i + 1, x, hx => by
    have hx' : x ∈ runD z [] (.rd b) i ++ [stO (runS z [] (.rd b) i) (itemAt z [] i)] := hx
    rcases List.mem_append.1 hx' with h | h
    · exact runD_mem z b i x h
    · obtain ⟨b1, e1, k1⟩ := runS_rd z b i
      rw [e1, itemAt_nil] at h
      exact ⟨b1, by simpa using h, k1⟩

/-! ### What is read whole is written back -/
theorem wr_bad {l : List FldD} (h : ¬ roomU l) : wrF l = true := by
  have h' : ∃ x ∈ l, ¬ u64of x.z < 256 ^ x.width := by
    apply Classical.byContradiction
    intro hn
    exact h fun x hx => Classical.byContradiction fun hx2 => hn ⟨x, hx, hx2⟩
  obtain ⟨b', e⟩ := stS_bad2 l [] false (.inr h')
  unfold wrF
  rw [e]
theorem rd_whole : ∀ (l : List FldD) (b : List Nat), Bytes b → (∀ x ∈ l, x.width ≤ 8) → widths l ≤ b.length →
    stS (.rd b) l = .rd (b.drop (widths l)) ∧ lowsU (stO (.rd b) l) = b.take (widths l) ∧ roomU (stO (.rd b) l)
  | [], b, _, _, _ => ⟨by show PS.rd b = .rd (b.drop 0); rfl, by show [] = b.take 0; simp, fun x hx => by cases hx⟩
  | x :: l, b, hb, hw, hl => by
    have hl' : x.width + widths l ≤ b.length := hl
    have hx8 := hw x (by simp)
    have e0 : PS.next (.rd b) x.width (u64of x.z) = .rd (b.drop x.width) := if_pos (by omega)
    obtain ⟨h1, h2, h3⟩ := rd_whole l (b.drop x.width) (hb.drop _) (fun y hy => hw y (by simp [hy])) (by simp; omega)
    have ec := stO_rd_cons (b := b) (x := x) (l := l) (by omega)
    have hlen : (b.take x.width).length = x.width := by simp; omega
    have hf := fits_le (hb.take x.width) (by omega)
    have hlo := low_of_le (hb.take x.width) (by omega)
    rw [hlen] at hf hlo
    refine ⟨?_, ?_, ?_⟩
    · show stS (PS.next (.rd b) x.width (u64of x.z)) l = .rd (b.drop (x.width + widths l))
      rw [e0, h1, List.drop_drop]
    · rw [ec]
      show low (u64of _) x.width ++ lowsU (stO (.rd (b.drop x.width)) l) = b.take (x.width + widths l)
      rw [hlo, h2, List.take_add]
    · rw [ec]
      intro y hy
      rcases List.mem_cons.1 hy with rfl | hy
      · exact hf
      · exact h3 y hy
theorem flat_snoc (L : List (List FldD)) (x : List FldD) : (L ++ [x]).flatten = L.flatten ++ x := by simp
theorem items_whole {z : List FldD} (hz : ∃ x l, z = x :: l ∧ 1 ≤ x.width) (hw : ∀ x ∈ z, x.width ≤ 8) {b : List Nat} (hb : Bytes b) : ∀ m, m * widths z = b.length → countR z b = m ∧ lowsU (itemsR z b).flatten = b ∧ roomU (itemsR z b).flatten := by
  have hpos : 1 ≤ widths z := by
    obtain ⟨x, l, rfl, hx⟩ := hz
    show 1 ≤ x.width + widths l
    omega
  have key : ∀ m (b : List Nat) (f : Nat), Bytes b → m * widths z = b.length → b.length ≤ f → roundsR z f b = m ∧ lowsU (runD z [] (.rd b) m).flatten = b ∧ roomU (runD z [] (.rd b) m).flatten := by
    intro m
    induction m with
    | zero =>
      intro b f hb he hf
      obtain rfl := List.length_eq_zero_iff.1 (by omega : b.length = 0)
      refine ⟨?_, rfl, fun x hx => by simp [runD] at hx⟩
      cases f <;> rfl
    | succ m ih =>
      intro b f hb he hf
      rw [Nat.succ_mul] at he
      have hne : b ≠ [] := by rintro rfl; simp at he; omega
      obtain ⟨h1, h2, h3⟩ := rd_whole z b hb hw (by omega)
      obtain ⟨e, hlt⟩ := stS_rd_lt hz hne
      have er : restR z b = b.drop (widths z) := by rw [h1] at e; injection e with e; exact e.symm
      cases f with
      | zero => omega
      | succ f =>
        have e2 : roundsR z (f + 1) b = roundsR z f (restR z b) + 1 := if_neg hne
        obtain ⟨g1, g2, g3⟩ := ih (b.drop (widths z)) f (hb.drop _) (by simp; omega) (by simp; omega)
        rw [e2, er, g1, runD_shift, h1]
        refine ⟨rfl, ?_, ?_⟩
        · rw [List.flatten_cons, lowsU_append, h2, g2, List.take_append_drop]
        · rw [List.flatten_cons]
          intro x hx
          rcases List.mem_append.1 hx with hx | hx
          · exact h3 x hx
          · exact g3 x hx
  intro m he
  obtain ⟨h1, h2, h3⟩ := key m b b.length hb he (Nat.le_refl _)
  have e : countR z b = m := h1
  unfold itemsR
  rw [e]
  exact ⟨rfl, h2, h3⟩
end Go.Proofs.Ytgakidimipipeaa

namespace Go.Proofs.Ytgakidimipipeaa
open Go.RowKit Go.Sort
set_option linter.unusedVariables false
set_option linter.unusedSimpArgs false
set_option maxRecDepth 100000

/-- The slice's elements are these fields: in how many bytes, and the number. -/
def ReadsF (w : World) (a : Option Addr) (len : Nat) (l : List (Nat × Int)) : Prop :=
  l.length = len ∧ (l = [] ∨ ∃ b off, a = some ⟨b, off, none⟩ ∧ b < w.heap.size ∧ ∀ (i q : Nat) (z : Int), l[i]? = some (q, z) → w.cell? ⟨b, off + i * 2, none⟩ = some (.int .i64 q) ∧ w.cell? ⟨b, off + i * 2 + 1, none⟩ = some (.int .i64 z))
def okF (x : Nat × Int) : Prop := 0 ≤ x.2 ∧ x.2.toNat < 256 ^ x.1
def okFs (l : List (Nat × Int)) : Prop := ∀ x ∈ l, okF x
noncomputable instance okFsDec (l : List (Nat × Int)) : Decidable (okFs l) := Classical.propDecidable _
noncomputable def okB (l : List (Nat × Int)) : Bool := decide (okFs l)
def lowsF (l : List (Nat × Int)) : List Nat := l.flatMap fun x => low x.2.toNat x.1
noncomputable def sealedL (k : Nat) (l : List (Nat × Int)) : List Nat := if okFs l then sealL k (lowsF l) else noughts
theorem lowsF_snoc (l : List (Nat × Int)) (x : Nat × Int) : lowsF (l ++ [x]) = lowsF l ++ low x.2.toNat x.1 := by simp [lowsF]
theorem ReadsF.below {w w' : World} {a : Option Addr} {len : Nat} {l : List (Nat × Int)} {B : Nat} (h : ReadsF w a len l) (hb : Below B w w') (hB : B = w.heap.size) : ReadsF w' a len l := by
  obtain ⟨h1, h2⟩ := h
  refine ⟨h1, ?_⟩
  rcases h2 with h2 | ⟨b, off, e, hlt, hc⟩
  · exact .inl h2
  · refine .inr ⟨b, off, e, Nat.lt_of_lt_of_le hlt hb.size, fun i q z hi => ?_⟩
    obtain ⟨c1, c2⟩ := hc i q z hi
    have hk : ∀ o, w'.cell? ⟨b, o, none⟩ = w.cell? ⟨b, o, none⟩ := fun o => by
      unfold World.cell?
      rw [hb.block b (by omega)]
    exact ⟨(hk _).trans c1, (hk _).trans c2⟩

theorem drawn_below (w : World) (n : Nat) : Below w.heap.size w (w.drewN n) := ⟨rfl, rfl, rfl, Nat.le_refl _, fun _ _ => rfl⟩
theorem drew_below (w : World) : Below w.heap.size w w.drew := ⟨rfl, rfl, rfl, Nat.le_refl _, fun _ _ => rfl⟩

set_option maxHeartbeats 1600000 in
theorem rsealed_is (k : Nat) (hk : k < 256) (hk0 : k ≠ 0) (l : List (Nat × Int)) (hq : ∀ x ∈ l, 1 ≤ x.1 ∧ x.1 ≤ 8 ∧ I64 x.2) (h120 : (lowsF l).length ≤ 120) (a : Option Addr) (len cap : Nat) (w : World) (hr : ReadsF w a len l) (hl : len ≤ 1000) :
    Calls Try.prog 103 #[.int .u8 k, .slice a len cap] w fun e w' => e = .returned (.tuple #[.agg (cells (sealedL k l)), .bool (okB l)]) ∧ Below w.heap.size w w' := by
  obtain rfl : len = l.length := hr.1.symm
  have hz := zero_full
  have hbld := build_full
  have b1 := below_box w (.cells (cells noughts) 40)
  have n1 := heap_alloc_new w (.cells (cells noughts) 40)
  obtain ⟨w1, hw1⟩ : ∃ w1, w.alloc (.cells (cells noughts) 40) = w1 := ⟨_, rfl⟩
  have hs1 : w1.heap.size = w.heap.size + 1 := by rw [← hw1]; simp
  rw [hw1] at b1 n1
  have HB := Lib.hid b1
  clear b1
  go_enter Try.func103, Try.ntmps103
  go_wp2_with fail
  go_loopw [6, 7] (fun v i wr => ∃ m : Nat, m ≤ l.length ∧ i = .int .i64 m ∧ Hid (Owns w1.heap.size wr v (lowsF (l.take m))) ∧ Hid (Below w1.heap.size w1 wr) ∧ ∀ j x, j < m → l[j]? = some x → okF x) (fun _ i _ => l.length - (intOf i).toNat)
  case atStart => exact ⟨0, Nat.zero_le _, rfl, owns_nil _ _, Below.refl _ _, fun j x hj => by omega⟩
  case round =>
    obtain ⟨m, hm, rfl, ho, hb, hok⟩ := hrel
    have n1r := (hb.out.block w.heap.size (by omega)).trans n1
    have hsr : w.heap.size + 1 ≤ wr.heap.size := by have := hb.out.size; omega
    have HBr : Hid (Below w.heap.size w wr) := HB.out.trans (hb.out.mono HB.out.size)
    clear hw1
    by_cases hlt : m < l.length
    · obtain ⟨⟨q, z⟩, e⟩ : ∃ x, l[m]? = some x := ⟨_, List.getElem?_eq_getElem hlt⟩
      obtain ⟨hq1, hq8, hzI⟩ := hq (q, z) (List.mem_of_getElem? e)
      dsimp only at hq1 hq8 hzI
      have hltI : (m : Int) < (l.length : Int) := by omega
      obtain ⟨b, off, rfl, hbox⟩ : ∃ b off, a = some ⟨b, off, none⟩ ∧ ∀ w', Below w.heap.size w w' → w'.cell? ⟨b, off + m * 2, none⟩ = some (.int .i64 q) ∧ w'.cell? ⟨b, off + m * 2 + 1, none⟩ = some (.int .i64 z) := by
        obtain ⟨_, h⟩ := hr
        rcases h with rfl | ⟨b, off, ea, hbl, h⟩
        · simp at hlt
        · refine ⟨b, off, ea, fun w' hb' => ?_⟩
          obtain ⟨d1, d2⟩ := h m q z e
          have hk : ∀ o, w'.cell? ⟨b, o, none⟩ = w.cell? ⟨b, o, none⟩ := fun o => by
            unfold World.cell?
            rw [hb'.block b hbl]
          exact ⟨(hk _).trans d1, (hk _).trans d2⟩
      obtain ⟨c0, c1⟩ := hbox wr HBr.out
      have BOX := Lib.hid hbox
      have HE := Lib.hid e
      have HE2 := Lib.hid e
      have HOK := Lib.hid hok
      clear hbox e hok hr
      by_cases h0 : z < 0
      · have h0t : decide (z < 0) = true := decide_eq_true h0
        have hno : ¬ okFs l := fun h => by have := (h _ (List.mem_of_getElem? HE.out)).1; dsimp only at this; omega
        have HF : Hid (sealedL k l = noughts) := if_neg hno
        have HDN : Hid (okB l = false) := decide_eq_false hno
        clear hno
        go_wp2_with fail
        go_quiet (fail)
        rename_i nq
        obtain ⟨w9, hw9⟩ : ∃ x, wr.drewN nq = x := ⟨_, rfl⟩
        have hb0 := drawn_below wr nq
        rw [hw9] at hb0 ⊢
        have n19 := (hb0.block w.heap.size (by omega)).trans n1r
        have HB9 : Hid (Below w.heap.size w w9) := HBr.out.trans (hb0.mono HBr.out.size)
        have hd9 := setRow_heap w9 w.heap.size _ (cells noughts) _ _ n19
        have hb9 := below_setRow (g := w.heap.size) HB9.out (Nat.le_refl _) (cells noughts)
        clear hb0 hw9 n1r c0 c1
        go_wp2_with (refine wpList_store_full rfl _ _ rfl w.heap.size noughts rfl rfl rfl _ _ n19 rfl ?_)
        refine bodyPost_ret (results_full_tmp rfl _ _ w.heap.size noughts _ _ rfl hd9 rfl) rfl ?_
        exact ⟨by rw [HF.out, HDN.out]; rfl, hb9⟩
      · have h0t : decide (z < 0) = false := decide_eq_false h0
        obtain ⟨n, rfl⟩ : ∃ n : Nat, z = n := ⟨z.toNat, by omega⟩
        have hn : n < 9223372036854775808 := by unfold I64 at hzI; omega
        by_cases hfit : n < 256 ^ q
        · have hh : hasB (q : Int) n = true := by unfold hasB; simp; omega
          have hokn : okF (q, (n : Int)) := ⟨by dsimp only; omega, by dsimp only; simpa using hfit⟩
          have HON := Lib.hid hokn
          have HFI := Lib.hid hfit
          clear hokn hfit
          go_wp2_with fail
          go_quiet ((go_at_call 129; exact Calls.quiet_of_same ((has_any _ n _ ⟨by omega, by omega⟩ (by omega)).mono fun _ _ ⟨g1, g2⟩ => ⟨by rw [g1, hh], g2.symm⟩)))
          rename_i nq
          obtain ⟨w9, hw9⟩ : ∃ x, wr.drewN nq = x := ⟨_, rfl⟩
          have hb0 := drawn_below wr nq
          rw [hw9] at hb0 ⊢
          have ho9 := ho.out.below hb0
          have hB9 := (hb.out.trans (hb0.mono hb.out.size)).drew
          have K0 := (HBr.out.trans (hb0.mono HBr.out.size)).drew
          obtain ⟨c0', c1'⟩ := BOX.out w9 (HBr.out.trans (hb0.mono HBr.out.size))
          have ho9' := ho9.below (drew_below w9)
          have hkn : (n : Int) % 18446744073709551616 = n := by omega
          have hwkn : IntKind.u64.wrap (n : Int) = n := by rw [u64_wrap_id _ (by omega) (by omega)]
          have hll : (low n q).length = q := low_length n q
          have hll2 : (lowsF (l.take m)).length ≤ 120 := by
            refine Nat.le_trans ?_ h120
            have : lowsF l = lowsF (l.take m) ++ lowsF (l.drop m) := by
              unfold lowsF
              rw [← List.flatMap_append, List.take_append_drop]
            rw [this, List.length_append]
            omega
          have HST : Hid (lowsF (l.take m) ++ low n q = lowsF (l.take (m + 1))) := by
            show lowsF (l.take m) ++ low n q = lowsF (l.take (m + 1))
            rw [List.take_add_one, HE.out]
            show _ = lowsF (l.take m ++ [_])
            rw [lowsF_snoc]
            rfl
          clear hb0 hw9 n1r c0 c1 ho hb ho9
          go_wp2_with fail
          go_region_held3 (fun w' => w'.cell? ⟨b, off + m * 2, none⟩ = some (.int .i64 q) ∧ w'.cell? ⟨b, off + m * 2 + 1, none⟩ = some (.int .i64 (n : Int)))
            (first | exact BOX.out _ K0 | exact BOX.out _ K6 | exact BOX.out _ K7)
            ((first
              | (go_at_call 130; refine (low_any n q _ (by omega) (by omega)).mono ?_; rintro e w6 ⟨v6, rfl, o6, b6⟩; have K6 := K0.trans (b6.mono K0.size); have hB6 := hB9.trans (b6.mono hB9.size); have oacc := ho9'.below b6; obtain ⟨a6, c6, rfl, hrd6, _, _⟩ := o6.reads; rw [hll] at hrd6 ⊢; obtain ⟨g6, f6, rfl⟩ := hrd6.some_of (by omega))
              | (refine step_append_bytes (by rfl) _ _ (by rfl) w1.heap.size _ (lowsF (l.take m)) (by rfl) oacc g6 f6 q c6 (by rfl) (low n q) hrd6 (by omega) (by omega) hB6.size ?_; intro v7 w7 o7 g7; have K7 := K6.grown g7 K6.size (fun j hj => Nat.le_trans (by omega) (oacc.lt j hj)); have hB7 := hB6.grown g7 hB6.size (fun j hj => oacc.lt j hj))))
          rename_i hHeld
          clear hHeld
          go_wp2_with fail
          go_roundw
          case rel =>
            refine ⟨m + 1, by omega, by go_num, by rw [← HST.out]; exact o7, hB7, fun j x hj hx => ?_⟩
            by_cases hjm : j = m
            · subst hjm
              have := hx.symm.trans HE2.out
              cases this
              exact HON.out
            · exact HOK.out j x (by omega) hx
          case measure => simp [intOf]; omega
        · have hh : hasB (q : Int) n = false := by unfold hasB; simp; omega
          have hno : ¬ okFs l := fun h => by have := (h _ (List.mem_of_getElem? HE.out)).2; dsimp only at this; simp at this; omega
          have HF : Hid (sealedL k l = noughts) := if_neg hno
          have HDN : Hid (okB l = false) := decide_eq_false hno
          clear hno hfit
          go_wp2_with fail
          go_quiet ((go_at_call 129; exact Calls.quiet_of_same ((has_any _ n _ ⟨by omega, by omega⟩ (by omega)).mono fun _ _ ⟨g1, g2⟩ => ⟨by rw [g1, hh], g2.symm⟩)))
          rename_i nq
          obtain ⟨w9, hw9⟩ : ∃ x, wr.drewN nq = x := ⟨_, rfl⟩
          have hb0 := drawn_below wr nq
          rw [hw9] at hb0 ⊢
          have n19 := (hb0.block w.heap.size (by omega)).trans n1r
          have HB9 : Hid (Below w.heap.size w w9) := HBr.out.trans (hb0.mono HBr.out.size)
          have hd9 := setRow_heap w9 w.heap.size _ (cells noughts) _ _ n19
          have hb9 := below_setRow (g := w.heap.size) HB9.out (Nat.le_refl _) (cells noughts)
          clear hb0 hw9 n1r c0 c1
          go_wp2_with (refine wpList_store_full rfl _ _ rfl w.heap.size noughts rfl rfl rfl _ _ n19 rfl ?_)
          refine bodyPost_ret (results_full_tmp rfl _ _ w.heap.size noughts _ _ rfl hd9 rfl) rfl ?_
          exact ⟨by rw [HF.out, HDN.out]; rfl, hb9⟩
    · obtain rfl : m = l.length := by omega
      have hip : okFs l := fun x hx => by
        obtain ⟨j, hj⟩ := List.getElem?_of_mem hx
        exact hok j x (List.getElem?_eq_some_iff.1 hj).1 hj
      have HF : Hid (sealedL k l = sealL k (lowsF l)) := if_pos hip
      have HDN : Hid (okB l = true) := decide_eq_true hip
      have ho' := ho.out
      rw [List.take_of_length_le (Nat.le_refl _)] at ho'
      obtain ⟨a4, cap4, rfl, hr4, hl4, hc4⟩ := ho'.reads
      have HR := Lib.hid hr4
      have hsl := sealL_length (kind := k) h120
      clear hok hip ho ho' hr4
      go_wp2_with fail
      refine (rmake_ok k (lowsF l) _ _ _ wr HR.out h120 hk hk0).mono ?_
      rintro e w5 ⟨rfl, b5⟩
      have n25 := (b5.block w.heap.size (by omega)).trans n1r
      have HB5 : Hid (Below w.heap.size w w5) := HBr.out.trans (b5.mono HBr.out.size)
      obtain ⟨sl, hsle⟩ : ∃ x, sealL k (lowsF l) = x := ⟨_, rfl⟩
      rw [hsle] at hsl HF ⊢
      have hd9 := setRow_heap w5 w.heap.size _ (cells sl) _ _ n25
      have hb9 := below_setRow (g := w.heap.size) HB5.out (Nat.le_refl _) (cells sl)
      clear b5 hsle n1r
      go_wp2_with (refine wpList_store_full rfl _ _ rfl w.heap.size sl rfl rfl hsl _ _ n25 rfl ?_)
      refine bodyPost_ret (results_full_tmp rfl _ _ w.heap.size sl _ _ rfl hd9 hsl) rfl ?_
      exact ⟨by rw [HF.out, HDN.out]; rfl, hb9⟩
end Go.Proofs.Ytgakidimipipeaa
