/- The document's own list of what each sector is, by its walk. -/
import Derived.Test.YtdgmkobjdhmkdaaGeoRef
import Derived.Test.YtdgmkobjdhmkdaaStep
import Derived.Test.YtdgmkobjdhmkdaaMake
namespace Go.Proofs.Ytdgmkobjdhmkdaa
open Go.RowKit Go.Sort
set_option linter.unusedVariables false
set_option maxRecDepth 100000

structure P6 where
  k : Nat
  n : Nat
  i : Nat
  s : Nat
  g : Nat
  t : Nat
def P6.vals (p : P6) : List Value := [.int .i64 p.k, .int .i64 p.n, .int .i64 p.i, .int .i64 p.s, .int .i64 p.g, .int .i64 p.t]
/-- What sector k is, of regions of R sectors and segments of g groups. -/
def partAt (R g k : Nat) : P6 :=
  if k = 0 then ⟨0, 0, 0, 0, 0, 0⟩
  else if k < 1 + 2 * R then ⟨1, (k - 1) / R, (k - 1) % R, 0, 0, 0⟩
  else if (k - 1 - 2 * R) % 9 = 0 then ⟨2, 0, 0, (k - 1 - 2 * R) / 9 / g, (k - 1 - 2 * R) / 9 % g, 0⟩
  else ⟨3, 0, 0, (k - 1 - 2 * R) / 9 / g, (k - 1 - 2 * R) / 9 % g, (k - 1 - 2 * R) % 9 - 1⟩
theorem partAt_zero (R g : Nat) : partAt R g 0 = ⟨0, 0, 0, 0, 0, 0⟩ := rfl
theorem partAt_region {R g n j : Nat} (hn : n < 2) (hj : j < R) : partAt R g (1 + n * R + j) = ⟨1, n, j, 0, 0, 0⟩ := by
  unfold partAt
  have h1 : n * R ≤ R := by have : n = 0 ∨ n = 1 := by omega
                            rcases this with rfl | rfl <;> simp
  rw [if_neg (by omega), if_pos (by omega)]
  have e1 : (1 + n * R + j - 1) / R = n := by
    rw [show 1 + n * R + j - 1 = j + R * n by rw [Nat.mul_comm R]; omega, Nat.add_mul_div_left _ _ (by omega), Nat.div_eq_of_lt hj]; omega
  have e2 : (1 + n * R + j - 1) % R = j := by
    rw [show 1 + n * R + j - 1 = j + R * n by rw [Nat.mul_comm R]; omega, Nat.add_mul_mod_self_left, Nat.mod_eq_of_lt hj]
  rw [e1, e2]
theorem group_div {g a b : Nat} (hb : b < g) : (a * g + b) / g = a ∧ (a * g + b) % g = b := by
  constructor
  · rw [show a * g + b = b + g * a by rw [Nat.mul_comm g]; omega, Nat.add_mul_div_left _ _ (by omega), Nat.div_eq_of_lt hb]; omega
  · rw [show a * g + b = b + g * a by rw [Nat.mul_comm g]; omega, Nat.add_mul_mod_self_left, Nat.mod_eq_of_lt hb]
theorem partAt_summary {R g a b : Nat} (hb : b < g) : partAt R g (1 + 2 * R + 9 * (a * g + b)) = ⟨2, 0, 0, a, b, 0⟩ := by
  unfold partAt
  obtain ⟨e1, e2⟩ := group_div (a := a) hb
  generalize a * g + b = m at *
  rw [if_neg (by omega), if_neg (by omega), if_pos (by omega), show (1 + 2 * R + 9 * m - 1 - 2 * R) / 9 = m by omega, e1, e2]
theorem partAt_block {R g a b c : Nat} (hb : b < g) (hc : c < 8) : partAt R g (1 + 2 * R + 9 * (a * g + b) + 1 + c) = ⟨3, 0, 0, a, b, c⟩ := by
  unfold partAt
  obtain ⟨e1, e2⟩ := group_div (a := a) hb
  generalize a * g + b = m at *
  rw [if_neg (by omega), if_neg (by omega), if_neg (by omega), show (1 + 2 * R + 9 * m + 1 + c - 1 - 2 * R) / 9 = m by omega, e1, e2, show (1 + 2 * R + 9 * m + 1 + c - 1 - 2 * R) % 9 - 1 = c by omega]

def partsQ (R g n : Nat) : List P6 := (List.range n).map (partAt R g)
def valsQ (l : List P6) : List Value := l.flatMap P6.vals
def OwnsQ (B : Nat) (w : World) (v : Value) (l : List P6) : Prop := w.ownsRow B 77 6 v l.length (valsQ l)
theorem partsQ_length (R g n : Nat) : (partsQ R g n).length = n := by simp [partsQ]
theorem partsQ_snoc (R g n : Nat) : partsQ R g (n + 1) = partsQ R g n ++ [partAt R g n] := by simp [partsQ, List.range_succ]
theorem valsQ_one (l : List P6) : ∀ u ∈ valsQ l, u.oneCell' = true := by
  intro u hu
  simp only [valsQ, List.mem_flatMap] at hu
  obtain ⟨p, _, hp⟩ := hu
  simp only [P6.vals, List.mem_cons, List.not_mem_nil, or_false] at hp
  rcases hp with rfl | rfl | rfl | rfl | rfl | rfl <;> rfl
theorem info_q : (Try.prog.info? 77).map (fun i => (i.zero, i.size, i.bytes)) = some (some (.agg #[.int .i64 0, .int .i64 0, .int .i64 0, .int .i64 0, .int .i64 0, .int .i64 0]), 6, 48) := by kernel_rfl

theorem wpList_append_q {w : World} {ops : Array Oper} {rest : List Oper} {o : Oper} {a : Act} {Q : Exit → Act → World → Prop} (hgd : o.guard = none) (s x : Operand)
    (ho : o.op = .call { callee := .builtin .append, args := #[s, x], argTypes := #[71, 71] })
    (B : Nat) (v : Value) (R gg n : Nat) (hs : a.eval s = v) (hown : OwnsQ B w v (partsQ R gg n)) (g c : Nat) (hx : a.eval x = .slice (some ⟨g, 0, none⟩) 1 c) (hp : w.heap[g]? = some (.cells (partAt R gg n).vals.toArray 77 (0, 0)))
    (hb : n + 1 ≤ 1000000) (hB : B ≤ w.heap.size)
    (h : ∀ v' w', OwnsQ B w' v' (partsQ R gg (n + 1)) → w.grownBy w' v.ownBlock → wpList Try.prog ops Q rest (a.put o.dst v') w') : wpList Try.prog ops Q (o :: rest) a w := by
  obtain ⟨i0, hi, hz0, hz1, hz2⟩ := info_parts info_q
  have e : valsQ (partsQ R gg (n + 1)) = valsQ (partsQ R gg n) ++ (partAt R gg n).vals := by rw [partsQ_snoc]; simp [valsQ]
  refine wpList_append_own w hgd s x 71 ho B 77 i0 _ 6 48 Try.underlying71 hi hz0 hz1 hz2 rfl (by decide) v (partsQ R gg n).length (valsQ (partsQ R gg n)) hs hown ⟨g, 0, none⟩ 1 c (partAt R gg n).vals hx rfl
      (fun j u hu => by rw [add_none, cell_of_row _ _ _ _ _ _ hp, Nat.zero_add]; simpa using hu) (fun u hu => valsQ_one [partAt R gg n] u (by simpa [valsQ] using hu)) (by rw [partsQ_length]; unfold maxLen; omega) (by rw [partsQ_length]; omega) hB (fun v' w' h1 h2 _ => h v' w' ?_ h2)
  unfold OwnsQ
  rw [e, partsQ_length]
  rw [partsQ_length] at h1
  exact h1

theorem OwnsQ.below {B : Nat} {w w' : World} {v : Value} {l : List P6} (h : OwnsQ B w v l) (hb : Below w.heap.size w w') : OwnsQ B w' v l := by
  obtain ⟨h1, h2⟩ := h
  refine ⟨h1, ?_⟩
  rcases h2 with h2 | ⟨g, cap, cur, hv, hB, hg, rest⟩
  · exact .inl h2
  · exact .inr ⟨g, cap, cur, hv, hB, by rw [hb.block g (Array.getElem?_eq_some_iff.1 hg).1]; exact hg, rest⟩
theorem OwnsQ.alloc {B : Nat} {w : World} {v : Value} {l : List P6} (h : OwnsQ B w v l) (o : Obj) : OwnsQ B (w.alloc o) v l := h.below (below_box w o)

theorem OwnsQ.mono {B B' : Nat} {w : World} {v : Value} {l : List P6} (h : OwnsQ B w v l) (hB : B' ≤ B) : OwnsQ B' w v l := by
  obtain ⟨h2, h3⟩ := h
  refine ⟨h2, ?_⟩
  rcases h3 with h3 | ⟨g, cap, cur, hv, hb, rest⟩
  · exact .inl h3
  · exact .inr ⟨g, cap, cur, hv, Nat.le_trans hB hb, rest⟩

set_option maxHeartbeats 3200000 in
theorem rparts_is {sn gn jn R : Nat} (w : World) (h : bnd sn gn jn) (hR : (R : Int) = regI sn jn) :
    Calls Try.prog 46 #[.agg #[.int .i64 sn, .int .i64 gn, .int .i64 jn]] w fun e w' => ∃ v, e = .returned v ∧ OwnsQ w.heap.size w' v (partsQ R gn (1 + 2 * R + 9 * (sn * gn))) ∧ Below w.heap.size w w' := by
  have hb0 := below_box w (.cells #[.int .i64 sn, .int .i64 gn, .int .i64 jn] 66)
  have hx0 := box3_new w (.int .i64 (sn : Int)) (.int .i64 (gn : Int)) (.int .i64 (jn : Int)) 66
  have H := Lib.hid h
  have hcb := chunks_bd h
  have htb := tables_bd h
  have hrb := reg_bd h
  have hsg := segs_bd h
  have HRR := Lib.hid hR
  have hRb : 3 ≤ R ∧ R ≤ 35 := by omega
  have hgs : gn ≤ 32 := by unfold bnd at h; omega
  have hss : sn ≤ 200 := by unfold bnd at h; omega
  have hsum : (1 : Int) + chunksI jn + tablesI sn = R := by rw [hR]; rfl
  have HSUM := Lib.hid hsum
  clear h hR hrb hsum
  have ho0 : OwnsQ (w.heap.size + 1) ((w.alloc (.cells #[.int .i64 sn, .int .i64 gn, .int .i64 jn] 66)).alloc (.cells #[.int .i64 0, .int .i64 0, .int .i64 0, .int .i64 0, .int .i64 0, .int .i64 0] 77)) (.slice (some ⟨w.heap.size + 1, 0, none⟩) 1 1) (partsQ R gn 1) := by
    refine ⟨rfl, .inr ⟨w.heap.size + 1, 1, #[.int .i64 0, .int .i64 0, .int .i64 0, .int .i64 0, .int .i64 0, .int .i64 0], rfl, Nat.le_refl _, ?_, Nat.le_refl _, by decide, rfl, rfl⟩⟩
    exact heap_alloc2_new w _ _
  have hbb0 : Below (w.heap.size + 1) (w.alloc (.cells #[.int .i64 sn, .int .i64 gn, .int .i64 jn] 66)) ((w.alloc (.cells #[.int .i64 sn, .int .i64 gn, .int .i64 jn] 66)).alloc (.cells #[.int .i64 0, .int .i64 0, .int .i64 0, .int .i64 0, .int .i64 0, .int .i64 0] 77)) := (Below.refl _ _).alloc (by simp) _
  have hsz0 : (w.alloc (.cells #[.int .i64 sn, .int .i64 gn, .int .i64 jn] 66)).heap.size = w.heap.size + 1 := by simp
  obtain ⟨W, hW⟩ : ∃ W, w.alloc (.cells #[.int .i64 sn, .int .i64 gn, .int .i64 jn] 66) = W := ⟨_, rfl⟩
  rw [hW] at hb0 hx0 ho0 hbb0 hsz0
  have HW := Lib.hid hW
  have hsz : w.heap.size + 1 ≤ W.heap.size := by omega
  clear hW hsz0
  go_enter Try.func46, Try.ntmps46
  go_wp2_with fail
  rw [HW.out]
  go_loopw [3, 4, 5] (fun v n _ wr => ∃ k : Nat, k ≤ 2 ∧ n = .int .i64 k ∧ OwnsQ (w.heap.size + 1) wr v (partsQ R gn (1 + k * R)) ∧ Below (w.heap.size + 1) W wr) (fun _ n _ _ => 2 - (intOf n).toNat)
  case atStart => exact ⟨0, by omega, rfl, by simpa using ho0, hbb0⟩
  case round =>
    obtain ⟨k, hk, rfl, ho, hb⟩ := hrel
    by_cases hk2 : k < 2
    · obtain ⟨wo, hwo⟩ : ∃ wo, wo = wr := ⟨_, rfl⟩
      subst hwo
      have hdk : decide ((k : Int) < 2) = true := decide_eq_true (by omega)
      go_wp2_with fail
      go_loopw [3, 5] (fun v j wr => ∃ m : Nat, m ≤ R ∧ j = .int .i64 m ∧ OwnsQ (w.heap.size + 1) wr v (partsQ R gn (1 + k * R + m)) ∧ Below (w.heap.size + 1) W wr) (fun _ j _ => R - (intOf j).toNat)
      case atStart => exact ⟨0, by omega, rfl, by simpa using ho, hb⟩
      case round =>
        clear ho hb
        obtain ⟨m, hm, rfl, ho, hb⟩ := hrel
        obtain ⟨hg, c0, c1, c2⟩ := hx0.kept hb (Nat.lt_succ_self _)
        have k0 := cell_regrown c0
        have k1 := cell_regrown c1
        have k2 := cell_regrown c2
        have hw1 : IntKind.i64.wrap (1 + chunksI jn) = 1 + chunksI jn := IntWalk.i64_in _ (by omega)
        have hw2 : IntKind.i64.wrap (1 + chunksI jn + tablesI sn) = (R : Int) := by rw [HSUM.out]; exact IntWalk.i64_in _ (by omega)
        have hkR : k * R ≤ 70 := by
          have : k * R ≤ 2 * R := Nat.mul_le_mul_right R hk
          omega
        go_wp2_with fail
        refine wp_region_quiet_below (by kernel_rfl) (by kernel_rfl) ?_
        repeat (go_big_quiet_step (first
          | (go_at_call 38; exact Calls.regrown_of (rchunks_is _ H.out))
          | (go_at_call 40; exact Calls.regrown_of (rtables_is _ H.out))))
        refine wpQuiet_nil (regrown_name fun w2 b2 => ?_)
        have ho2 := ho.below b2
        have hb2 := hb.trans (b2.mono (Nat.le_trans hsz hb.size))
        have hs2 : w.heap.size + 1 ≤ w2.heap.size := Nat.le_trans hsz hb2.size
        clear k0 k1 k2 hw1 hw2 ho hb c0 c1 c2 b2
        by_cases hmR : m < R
        · have hpa := partAt_region (R := R) (g := gn) hk2 hmR
          have ho3 := ho2.alloc (.cells #[.int .i64 1, .int .i64 k, .int .i64 m, .int .i64 0, .int .i64 0, .int .i64 0] 77)
          have hb3 := hb2.alloc hs2 (.cells #[.int .i64 1, .int .i64 k, .int .i64 m, .int .i64 0, .int .i64 0, .int .i64 0] 77)
          have hg3 : (w2.alloc (.cells #[.int .i64 1, .int .i64 k, .int .i64 m, .int .i64 0, .int .i64 0, .int .i64 0] 77)).heap[w2.heap.size]? = some (.cells (partAt R gn (1 + k * R + m)).vals.toArray 77 (0, 0)) := by
            rw [hpa]; exact heap_alloc_new w2 _
          have hs3 : w.heap.size + 1 ≤ (w2.alloc (.cells #[.int .i64 1, .int .i64 k, .int .i64 m, .int .i64 0, .int .i64 0, .int .i64 0] 77)).heap.size := by simp; omega
          have HG := Lib.hid hg3
          clear hpa hg3
          go_wp2_with (at_builtin; refine wpList_append_q rfl _ _ rfl (w.heap.size + 1) _ R gn (1 + k * R + m) rfl ho3 w2.heap.size 1 rfl HG.out (by omega) hs3 ?_; intro v4 w4 h4 g4)
          have hb4 := hb3.grown g4 hs3 (fun q hq => (World.ownsRow.lt ho3 q hq).1)
          clear ho3 hb3 g4 HG
          go_roundw
          case rel => exact ⟨m + 1, by omega, by go_num, h4, hb4⟩
          case measure => simp [intOf]; omega
        · have hmR2 : m = R := by omega
          have hfin : 1 + k * R + m = 1 + (k + 1) * R := by rw [Nat.add_mul, Nat.one_mul]; omega
          rw [hfin] at ho2
          clear hfin hmR2
          go_wp2
          go_roundw
          case rel => exact ⟨k + 1, by omega, by go_num, ho2, hb2⟩
          case measure => simp [intOf]; omega
    · have hk3 : k = 2 := by omega
      subst hk3
      have hdk : decide (((2 : Nat) : Int) < 2) = false := decide_eq_false (by omega)
      clear hdk
      go_wp2_with fail
      obtain ⟨wo, hwo⟩ : ∃ wo, wo = wr := ⟨_, rfl⟩
      subst hwo
      go_loopw [3, 6, 7, 8] (fun v n _ _ wr => ∃ a : Nat, a ≤ sn ∧ n = .int .i64 a ∧ OwnsQ (w.heap.size + 1) wr v (partsQ R gn (1 + 2 * R + 9 * (a * gn))) ∧ Below (w.heap.size + 1) W wr) (fun _ n _ _ _ => sn - (intOf n).toNat)
      case atStart => exact ⟨0, by omega, rfl, by simpa using ho, hb⟩
      case round =>
        clear ho hb
        obtain ⟨a, ha, rfl, ho, hb⟩ := hrel
        obtain ⟨hg, c0, c1, c2⟩ := hx0.kept hb (Nat.lt_succ_self _)
        by_cases ha2 : a < sn
        · have hda : decide ((a : Int) < sn) = true := decide_eq_true (by omega)
          obtain ⟨wo, hwo⟩ : ∃ wo, wo = wr := ⟨_, rfl⟩
          subst hwo
          go_wp2_with fail
          clear c0 c1 c2 hg
          go_loopw [3, 7, 8] (fun v n _ wr => ∃ b : Nat, b ≤ gn ∧ n = .int .i64 b ∧ OwnsQ (w.heap.size + 1) wr v (partsQ R gn (1 + 2 * R + 9 * (a * gn + b))) ∧ Below (w.heap.size + 1) W wr) (fun _ n _ _ => gn - (intOf n).toNat)
          case atStart => exact ⟨0, by omega, rfl, by simpa using ho, hb⟩
          case round =>
            clear ho hb
            obtain ⟨b, hbb, rfl, ho, hb⟩ := hrel
            obtain ⟨hg, c0, c1, c2⟩ := hx0.kept hb (Nat.lt_succ_self _)
            have hsb := hb.size
            have hab : a * gn ≤ 200 * 32 := Nat.mul_le_mul (by omega) hgs
            by_cases hb2 : b < gn
            · have hdb : decide ((b : Int) < gn) = true := decide_eq_true (by omega)
              have hpa := partAt_summary (R := R) (a := a) hb2
              have ho3 := ho.alloc (.cells #[.int .i64 2, .int .i64 0, .int .i64 0, .int .i64 a, .int .i64 b, .int .i64 0] 77)
              have hb3 := hb.alloc (by omega) (.cells #[.int .i64 2, .int .i64 0, .int .i64 0, .int .i64 a, .int .i64 b, .int .i64 0] 77)
              have hg3 : (wr.alloc (.cells #[.int .i64 2, .int .i64 0, .int .i64 0, .int .i64 a, .int .i64 b, .int .i64 0] 77)).heap[wr.heap.size]? = some (.cells (partAt R gn (1 + 2 * R + 9 * (a * gn + b))).vals.toArray 77 (0, 0)) := by
                rw [hpa]; exact heap_alloc_new wr _
              have hs3 : w.heap.size + 1 ≤ (wr.alloc (.cells #[.int .i64 2, .int .i64 0, .int .i64 0, .int .i64 a, .int .i64 b, .int .i64 0] 77)).heap.size := by simp; omega
              have HG := Lib.hid hg3
              clear hpa hg3 ho hb
              go_wp2_with (at_builtin; refine wpList_append_q rfl _ _ rfl (w.heap.size + 1) _ R gn (1 + 2 * R + 9 * (a * gn + b)) rfl ho3 wr.heap.size 1 rfl HG.out (by omega) hs3 ?_; intro v4 w4 h4 g4)
              have hb4 := hb3.grown g4 hs3 (fun q hq => (World.ownsRow.lt ho3 q hq).1)
              clear ho3 hb3 g4 HG c0 c1 c2 hg hs3 hsb
              go_loopw [3, 8] (fun v n wr => ∃ c : Nat, c ≤ 8 ∧ n = .int .i64 c ∧ OwnsQ (w.heap.size + 1) wr v (partsQ R gn (1 + 2 * R + 9 * (a * gn + b) + 1 + c)) ∧ Below (w.heap.size + 1) W wr) (fun _ n _ => 8 - (intOf n).toNat)
              case atStart => exact ⟨0, by omega, rfl, h4, hb4⟩
              case round =>
                clear h4 hb4
                obtain ⟨c, hc, rfl, ho, hb⟩ := hrel
                have hsb := hb.size
                by_cases hc2 : c < 8
                · have hpa := partAt_block (R := R) (a := a) hb2 hc2
                  have ho3 := ho.alloc (.cells #[.int .i64 3, .int .i64 0, .int .i64 0, .int .i64 a, .int .i64 b, .int .i64 c] 77)
                  have hb3 := hb.alloc (by omega) (.cells #[.int .i64 3, .int .i64 0, .int .i64 0, .int .i64 a, .int .i64 b, .int .i64 c] 77)
                  have hg3 : (wr.alloc (.cells #[.int .i64 3, .int .i64 0, .int .i64 0, .int .i64 a, .int .i64 b, .int .i64 c] 77)).heap[wr.heap.size]? = some (.cells (partAt R gn (1 + 2 * R + 9 * (a * gn + b) + 1 + c)).vals.toArray 77 (0, 0)) := by
                    rw [hpa]; exact heap_alloc_new wr _
                  have hs3 : w.heap.size + 1 ≤ (wr.alloc (.cells #[.int .i64 3, .int .i64 0, .int .i64 0, .int .i64 a, .int .i64 b, .int .i64 c] 77)).heap.size := by simp; omega
                  have HG := Lib.hid hg3
                  clear hpa hg3 ho hb
                  go_wp2_with (at_builtin; refine wpList_append_q rfl _ _ rfl (w.heap.size + 1) _ R gn (1 + 2 * R + 9 * (a * gn + b) + 1 + c) rfl ho3 wr.heap.size 1 rfl HG.out (by omega) hs3 ?_; intro v4 w4 h4 g4)
                  have hb4 := hb3.grown g4 hs3 (fun q hq => (World.ownsRow.lt ho3 q hq).1)
                  clear ho3 hb3 g4 HG
                  go_roundw
                  case rel => exact ⟨c + 1, by omega, by go_num, h4, hb4⟩
                  case measure => simp [intOf]; omega
                · have hc8 : c = 8 := by omega
                  have hfin : 1 + 2 * R + 9 * (a * gn + b) + 1 + c = 1 + 2 * R + 9 * (a * gn + (b + 1)) := by omega
                  rw [hfin] at ho
                  clear hfin hc8
                  go_wp2
                  go_roundw
                  case rel => ((repeat apply Exists.intro); exact ⟨⟨b + 1, by omega, by go_num, ho, hb⟩, rfl⟩)
                  case measure => simp [intOf]; omega
            · have hbg : b = gn := by omega
              have hfin : a * gn + b = (a + 1) * gn := by rw [Nat.add_mul, Nat.one_mul, hbg]
              rw [hfin] at ho
              clear hfin hbg
              go_wp2
              go_roundw
              case rel => exact ⟨a + 1, by omega, by go_num, ho, hb⟩
              case measure => simp [intOf]; omega
        · have has : a = sn := by omega
          subst has
          go_wp2
          go_ret
          exact ⟨_, rfl, OwnsQ.mono ho (Nat.le_succ _), hb0.trans (hb.mono (Nat.le_succ _))⟩
end Go.Proofs.Ytdgmkobjdhmkdaa
