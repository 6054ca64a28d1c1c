/- The document's Sealed: numbers in a sealed sector. -/
import Derived.Test.YtplkglepbedhoaaGbpoahfpk
import Derived.Test.YtplkglepbedhoaaGddmfnfkp
import Derived.Test.YtplkglepbedhoaaGnepibmal
import Derived.Test.YtplkglepbedhoaaGdglklmlk
import Derived.Test.YtplkglepbedhoaaStep
import Derived.Deep.RegionHeld3
namespace Go.Proofs.Ytplkglepbedhoaa
open Go.RowKit Go.Sort
set_option linter.unusedVariables false
set_option linter.unusedSimpArgs false
set_option maxRecDepth 100000

/-- The slice's elements are these fields: in how many bytes, and the number. -/
def ReadsF (w : World) (a : Option Addr) (len : Nat) (l : List (Nat × Int)) : Prop :=
  l.length = len ∧ (l = [] ∨ ∃ b off, a = some ⟨b, off, none⟩ ∧ b < w.heap.size ∧ ∀ (i q : Nat) (z : Int), l[i]? = some (q, z) → w.cell? ⟨b, off + i * 2, none⟩ = some (.int .i64 q) ∧ w.cell? ⟨b, off + i * 2 + 1, none⟩ = some (.int .i64 z))
def okF (x : Nat × Int) : Prop := 0 ≤ x.2 ∧ x.2.toNat < 256 ^ x.1
def okFs (l : List (Nat × Int)) : Prop := ∀ x ∈ l, okF x
noncomputable instance okFsDec (l : List (Nat × Int)) : Decidable (okFs l) := Classical.propDecidable _
noncomputable def okB (l : List (Nat × Int)) : Bool := decide (okFs l)
def lowsF (l : List (Nat × Int)) : List Nat := l.flatMap fun x => low x.2.toNat x.1
noncomputable def sealedL (k : Nat) (l : List (Nat × Int)) : List Nat := if okFs l then sealL k (lowsF l) else noughts
theorem lowsF_snoc (l : List (Nat × Int)) (x : Nat × Int) : lowsF (l ++ [x]) = lowsF l ++ low x.2.toNat x.1 := by simp [lowsF]
theorem ReadsF.below {w w' : World} {a : Option Addr} {len : Nat} {l : List (Nat × Int)} {B : Nat} (h : ReadsF w a len l) (hb : Below B w w') (hB : B = w.heap.size) : ReadsF w' a len l := by
  obtain ⟨h1, h2⟩ := h
  refine ⟨h1, ?_⟩
  rcases h2 with h2 | ⟨b, off, e, hlt, hc⟩
  · exact .inl h2
  · refine .inr ⟨b, off, e, Nat.lt_of_lt_of_le hlt hb.size, fun i q z hi => ?_⟩
    obtain ⟨c1, c2⟩ := hc i q z hi
    have hk : ∀ o, w'.cell? ⟨b, o, none⟩ = w.cell? ⟨b, o, none⟩ := fun o => by
      unfold World.cell?
      rw [hb.block b (by omega)]
    exact ⟨(hk _).trans c1, (hk _).trans c2⟩

theorem drawn_below (w : World) (n : Nat) : Below w.heap.size w (w.drewN n) := ⟨rfl, rfl, rfl, Nat.le_refl _, fun _ _ => rfl⟩
theorem drew_below (w : World) : Below w.heap.size w w.drew := ⟨rfl, rfl, rfl, Nat.le_refl _, fun _ _ => rfl⟩

set_option maxHeartbeats 1600000 in
theorem rsealed_is (k : Nat) (hk : k < 256) (hk0 : k ≠ 0) (l : List (Nat × Int)) (hq : ∀ x ∈ l, 1 ≤ x.1 ∧ x.1 ≤ 8 ∧ I64 x.2) (h120 : (lowsF l).length ≤ 120) (a : Option Addr) (len cap : Nat) (w : World) (hr : ReadsF w a len l) (hl : len ≤ 1000) :
    Calls Try.prog 177 #[.int .u8 k, .slice a len cap] w fun e w' => e = .returned (.tuple #[.agg (cells (sealedL k l)), .bool (okB l)]) ∧ Below w.heap.size w w' := by
  obtain rfl : len = l.length := hr.1.symm
  have hz := zero_full
  have hbld := build_full
  have b1 := below_box w (.cells (cells noughts) 41)
  have n1 := heap_alloc_new w (.cells (cells noughts) 41)
  obtain ⟨w1, hw1⟩ : ∃ w1, w.alloc (.cells (cells noughts) 41) = w1 := ⟨_, rfl⟩
  have hs1 : w1.heap.size = w.heap.size + 1 := by rw [← hw1]; simp
  rw [hw1] at b1 n1
  have HB := Lib.hid b1
  clear b1
  go_enter Try.func177, Try.ntmps177
  go_wp2_with fail
  go_loopw [6, 7] (fun v i wr => ∃ m : Nat, m ≤ l.length ∧ i = .int .i64 m ∧ Hid (Owns w1.heap.size wr v (lowsF (l.take m))) ∧ Hid (Below w1.heap.size w1 wr) ∧ ∀ j x, j < m → l[j]? = some x → okF x) (fun _ i _ => l.length - (intOf i).toNat)
  case atStart => exact ⟨0, Nat.zero_le _, rfl, owns_nil _ _, Below.refl _ _, fun j x hj => by omega⟩
  case round =>
    obtain ⟨m, hm, rfl, ho, hb, hok⟩ := hrel
    have n1r := (hb.out.block w.heap.size (by omega)).trans n1
    have hsr : w.heap.size + 1 ≤ wr.heap.size := by have := hb.out.size; omega
    have HBr : Hid (Below w.heap.size w wr) := HB.out.trans (hb.out.mono HB.out.size)
    clear hw1
    by_cases hlt : m < l.length
    · obtain ⟨⟨q, z⟩, e⟩ : ∃ x, l[m]? = some x := ⟨_, List.getElem?_eq_getElem hlt⟩
      obtain ⟨hq1, hq8, hzI⟩ := hq (q, z) (List.mem_of_getElem? e)
      dsimp only at hq1 hq8 hzI
      have hltI : (m : Int) < (l.length : Int) := by omega
      obtain ⟨b, off, rfl, hbox⟩ : ∃ b off, a = some ⟨b, off, none⟩ ∧ ∀ w', Below w.heap.size w w' → w'.cell? ⟨b, off + m * 2, none⟩ = some (.int .i64 q) ∧ w'.cell? ⟨b, off + m * 2 + 1, none⟩ = some (.int .i64 z) := by
        obtain ⟨_, h⟩ := hr
        rcases h with rfl | ⟨b, off, ea, hbl, h⟩
        · simp at hlt
        · refine ⟨b, off, ea, fun w' hb' => ?_⟩
          obtain ⟨d1, d2⟩ := h m q z e
          have hk : ∀ o, w'.cell? ⟨b, o, none⟩ = w.cell? ⟨b, o, none⟩ := fun o => by
            unfold World.cell?
            rw [hb'.block b hbl]
          exact ⟨(hk _).trans d1, (hk _).trans d2⟩
      obtain ⟨c0, c1⟩ := hbox wr HBr.out
      have BOX := Lib.hid hbox
      have HE := Lib.hid e
      have HE2 := Lib.hid e
      have HOK := Lib.hid hok
      clear hbox e hok hr
      by_cases h0 : z < 0
      · have h0t : decide (z < 0) = true := decide_eq_true h0
        have hno : ¬ okFs l := fun h => by have := (h _ (List.mem_of_getElem? HE.out)).1; dsimp only at this; omega
        have HF : Hid (sealedL k l = noughts) := if_neg hno
        have HDN : Hid (okB l = false) := decide_eq_false hno
        clear hno
        go_wp2_with fail
        go_quiet (fail)
        rename_i nq
        obtain ⟨w9, hw9⟩ : ∃ x, wr.drewN nq = x := ⟨_, rfl⟩
        have hb0 := drawn_below wr nq
        rw [hw9] at hb0 ⊢
        have n19 := (hb0.block w.heap.size (by omega)).trans n1r
        have HB9 : Hid (Below w.heap.size w w9) := HBr.out.trans (hb0.mono HBr.out.size)
        have hd9 := setRow_heap w9 w.heap.size _ (cells noughts) _ _ n19
        have hb9 := below_setRow (g := w.heap.size) HB9.out (Nat.le_refl _) (cells noughts)
        clear hb0 hw9 n1r c0 c1
        go_wp2_with (refine wpList_store_full rfl _ _ rfl w.heap.size noughts rfl rfl rfl _ _ n19 rfl ?_)
        refine bodyPost_ret (results_full_tmp rfl _ _ w.heap.size noughts _ _ rfl hd9 rfl) rfl ?_
        exact ⟨by rw [HF.out, HDN.out]; rfl, hb9⟩
      · have h0t : decide (z < 0) = false := decide_eq_false h0
        obtain ⟨n, rfl⟩ : ∃ n : Nat, z = n := ⟨z.toNat, by omega⟩
        have hn : n < 9223372036854775808 := by unfold I64 at hzI; omega
        by_cases hfit : n < 256 ^ q
        · have hh : hasB (q : Int) n = true := by unfold hasB; simp; omega
          have hokn : okF (q, (n : Int)) := ⟨by dsimp only; omega, by dsimp only; simpa using hfit⟩
          have HON := Lib.hid hokn
          have HFI := Lib.hid hfit
          clear hokn hfit
          go_wp2_with fail
          go_quiet ((go_at_call 223; exact Calls.quiet_of_same ((has_any _ n _ ⟨by omega, by omega⟩ (by omega)).mono fun _ _ ⟨g1, g2⟩ => ⟨by rw [g1, hh], g2.symm⟩)))
          rename_i nq
          obtain ⟨w9, hw9⟩ : ∃ x, wr.drewN nq = x := ⟨_, rfl⟩
          have hb0 := drawn_below wr nq
          rw [hw9] at hb0 ⊢
          have ho9 := ho.out.below hb0
          have hB9 := (hb.out.trans (hb0.mono hb.out.size)).drew
          have K0 := (HBr.out.trans (hb0.mono HBr.out.size)).drew
          obtain ⟨c0', c1'⟩ := BOX.out w9 (HBr.out.trans (hb0.mono HBr.out.size))
          have ho9' := ho9.below (drew_below w9)
          have hkn : (n : Int) % 18446744073709551616 = n := by omega
          have hwkn : IntKind.u64.wrap (n : Int) = n := by rw [u64_wrap_id _ (by omega) (by omega)]
          have hll : (low n q).length = q := low_length n q
          have hll2 : (lowsF (l.take m)).length ≤ 120 := by
            refine Nat.le_trans ?_ h120
            have : lowsF l = lowsF (l.take m) ++ lowsF (l.drop m) := by
              unfold lowsF
              rw [← List.flatMap_append, List.take_append_drop]
            rw [this, List.length_append]
            omega
          have HST : Hid (lowsF (l.take m) ++ low n q = lowsF (l.take (m + 1))) := by
            show lowsF (l.take m) ++ low n q = lowsF (l.take (m + 1))
            rw [List.take_add_one, HE.out]
            show _ = lowsF (l.take m ++ [_])
            rw [lowsF_snoc]
            rfl
          clear hb0 hw9 n1r c0 c1 ho hb ho9
          go_wp2_with fail
          go_region_held3 (fun w' => w'.cell? ⟨b, off + m * 2, none⟩ = some (.int .i64 q) ∧ w'.cell? ⟨b, off + m * 2 + 1, none⟩ = some (.int .i64 (n : Int)))
            (first | exact BOX.out _ K0 | exact BOX.out _ K6 | exact BOX.out _ K7)
            ((first
              | (go_at_call 83; refine (low_any n q _ (by omega) (by omega)).mono ?_; rintro e w6 ⟨v6, rfl, o6, b6⟩; have K6 := K0.trans (b6.mono K0.size); have hB6 := hB9.trans (b6.mono hB9.size); have oacc := ho9'.below b6; obtain ⟨a6, c6, rfl, hrd6, _, _⟩ := o6.reads; rw [hll] at hrd6 ⊢; obtain ⟨g6, f6, rfl⟩ := hrd6.some_of (by omega))
              | (refine step_append_bytes (by rfl) _ _ (by rfl) w1.heap.size _ (lowsF (l.take m)) (by rfl) oacc g6 f6 q c6 (by rfl) (low n q) hrd6 (by omega) (by omega) hB6.size ?_; intro v7 w7 o7 g7; have K7 := K6.grown g7 K6.size (fun j hj => Nat.le_trans (by omega) (oacc.lt j hj)); have hB7 := hB6.grown g7 hB6.size (fun j hj => oacc.lt j hj))))
          rename_i hHeld
          clear hHeld
          go_wp2_with fail
          go_roundw
          case rel =>
            refine ⟨m + 1, by omega, by go_num, by rw [← HST.out]; exact o7, hB7, fun j x hj hx => ?_⟩
            by_cases hjm : j = m
            · subst hjm
              have := hx.symm.trans HE2.out
              cases this
              exact HON.out
            · exact HOK.out j x (by omega) hx
          case measure => simp [intOf]; omega
        · have hh : hasB (q : Int) n = false := by unfold hasB; simp; omega
          have hno : ¬ okFs l := fun h => by have := (h _ (List.mem_of_getElem? HE.out)).2; dsimp only at this; simp at this; omega
          have HF : Hid (sealedL k l = noughts) := if_neg hno
          have HDN : Hid (okB l = false) := decide_eq_false hno
          clear hno hfit
          go_wp2_with fail
          go_quiet ((go_at_call 223; exact Calls.quiet_of_same ((has_any _ n _ ⟨by omega, by omega⟩ (by omega)).mono fun _ _ ⟨g1, g2⟩ => ⟨by rw [g1, hh], g2.symm⟩)))
          rename_i nq
          obtain ⟨w9, hw9⟩ : ∃ x, wr.drewN nq = x := ⟨_, rfl⟩
          have hb0 := drawn_below wr nq
          rw [hw9] at hb0 ⊢
          have n19 := (hb0.block w.heap.size (by omega)).trans n1r
          have HB9 : Hid (Below w.heap.size w w9) := HBr.out.trans (hb0.mono HBr.out.size)
          have hd9 := setRow_heap w9 w.heap.size _ (cells noughts) _ _ n19
          have hb9 := below_setRow (g := w.heap.size) HB9.out (Nat.le_refl _) (cells noughts)
          clear hb0 hw9 n1r c0 c1
          go_wp2_with (refine wpList_store_full rfl _ _ rfl w.heap.size noughts rfl rfl rfl _ _ n19 rfl ?_)
          refine bodyPost_ret (results_full_tmp rfl _ _ w.heap.size noughts _ _ rfl hd9 rfl) rfl ?_
          exact ⟨by rw [HF.out, HDN.out]; rfl, hb9⟩
    · obtain rfl : m = l.length := by omega
      have hip : okFs l := fun x hx => by
        obtain ⟨j, hj⟩ := List.getElem?_of_mem hx
        exact hok j x (List.getElem?_eq_some_iff.1 hj).1 hj
      have HF : Hid (sealedL k l = sealL k (lowsF l)) := if_pos hip
      have HDN : Hid (okB l = true) := decide_eq_true hip
      have ho' := ho.out
      rw [List.take_of_length_le (Nat.le_refl _)] at ho'
      obtain ⟨a4, cap4, rfl, hr4, hl4, hc4⟩ := ho'.reads
      have HR := Lib.hid hr4
      have hsl := sealL_length (kind := k) h120
      clear hok hip ho ho' hr4
      go_wp2_with fail
      refine (rmake_ok k (lowsF l) _ _ _ wr HR.out h120 hk hk0).mono ?_
      rintro e w5 ⟨rfl, b5⟩
      have n25 := (b5.block w.heap.size (by omega)).trans n1r
      have HB5 : Hid (Below w.heap.size w w5) := HBr.out.trans (b5.mono HBr.out.size)
      obtain ⟨sl, hsle⟩ : ∃ x, sealL k (lowsF l) = x := ⟨_, rfl⟩
      rw [hsle] at hsl HF ⊢
      have hd9 := setRow_heap w5 w.heap.size _ (cells sl) _ _ n25
      have hb9 := below_setRow (g := w.heap.size) HB5.out (Nat.le_refl _) (cells sl)
      clear b5 hsle n1r
      go_wp2_with (refine wpList_store_full rfl _ _ rfl w.heap.size sl rfl rfl hsl _ _ n25 rfl ?_)
      refine bodyPost_ret (results_full_tmp rfl _ _ w.heap.size sl _ _ rfl hd9 hsl) rfl ?_
      exact ⟨by rw [HF.out, HDN.out]; rfl, hb9⟩
end Go.Proofs.Ytplkglepbedhoaa
