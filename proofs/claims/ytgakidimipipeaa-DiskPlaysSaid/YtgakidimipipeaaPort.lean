/- The two ports: numbers on their way to bytes, and from there. part.Num at one kind of numbers: uint32. part.Num at one kind of numbers: int. Things of numbers, laid through a port field by field. An inode, laid through a port, written and read. -/
import Derived.Test.YtgakidimipipeaaPutOwn
import Derived.Test.YtgakidimipipeaaStep
import Derived.Test.YtgakidimipipeaaHush
import Derived.Deep.RegionHeld3
namespace Go.Proofs.Ytgakidimipipeaa
open Go.RowKit Go.Sort
set_option linter.unusedVariables false
set_option linter.unusedSimpArgs false
set_option maxRecDepth 100000

/-- A port's state: what was written, and whether a number had no room; or what is left to read. -/
inductive PS where
  | wr (l : List Nat) (f : Bool)
  | rd (b : List Nat)
/-- The number that comes out, and the state behind it. -/
def PS.num (S : PS) (q n : Nat) : Nat := match S with
  | .wr _ _ => n
  | .rd b => if q ≤ b.length then le (b.take q) else 0
def PS.next (S : PS) (q n : Nat) : PS := match S with
  | .wr l f => if n < 256 ^ q then .wr (l ++ low n q) f else .wr (l ++ List.replicate q 0) true
  | .rd b => if q ≤ b.length then .rd (b.drop q) else .rd []
/-- It may be used so many bytes more. -/
def PS.fits (S : PS) (k : Nat) : Prop := match S with
  | .wr l _ => l.length + k ≤ 2000
  | .rd _ => True
theorem PS.fits_next {S : PS} {q n k : Nat} (h : S.fits (q + k)) : (S.next q n).fits k := by
  cases S with
  | wr l f =>
    unfold PS.fits at h
    unfold PS.next
    dsimp only at h ⊢
    split
    · show (l ++ low n q).length + k ≤ 2000
      rw [List.length_append, low_length]; omega
    · show (l ++ List.replicate q 0).length + k ≤ 2000
      rw [List.length_append, List.length_replicate]; omega
  | rd b =>
    unfold PS.next
    dsimp only
    split <;> trivial

def IsWr (w : World) (g : Nat) (v : Value) (l : List Nat) (f : Bool) : Prop := w.heap[g]? = some (.cells #[v, .bool f] 204 (0, 0)) ∧ Owns 0 w v l
def IsRd (w : World) (g : Nat) (a : Option Addr) (cap : Nat) (b : List Nat) : Prop := w.heap[g]? = some (.cells #[.slice a b.length cap] 220 (0, 0)) ∧ Reads w a b.length b ∧ b.length ≤ cap ∧ cap ≤ maxLen ∧ (b ≠ [] → ∀ x, a = some x → x.block ≠ g)
/-- Of what was there, only block g and v's own block may have turned. -/
structure PKeeps (g : Nat) (v : Value) (w w' : World) : Prop where
  os : w'.os = w.os
  tape : w'.tape = w.tape
  output : w'.output = w.output
  size : w.heap.size ≤ w'.heap.size
  block : ∀ k, k < w.heap.size → k ≠ g → v.ownBlock ≠ some k → w'.heap[k]? = w.heap[k]?
theorem PKeeps.refl (g : Nat) (v : Value) (w : World) : PKeeps g v w w := ⟨rfl, rfl, rfl, Nat.le_refl _, fun _ _ _ _ => rfl⟩
theorem PKeeps.of_grown {g : Nat} {v : Value} {w w' : World} (h : w.grownBy w' v.ownBlock) (hs : w.heap.size ≤ w'.heap.size) : PKeeps g v w w' := ⟨h.os, h.tape, h.output, hs, fun k hk _ hv => h.block k hk (fun e => hv e.symm)⟩
theorem PKeeps.set {g : Nat} {v : Value} {w w' : World} (h : PKeeps g v w w') (i : Nat) (u : Value) : PKeeps g v w (w'.setCell ⟨g, i, none⟩ u) :=
  ⟨h.os, h.tape, h.output, by simpa using h.size, fun k hk hg hv => (Below.heap_setCell _ _ _ _ hg).trans (h.block k hk hg hv)⟩

theorem cell_of_row {w : World} {g : Nat} {cs : Array Value} {t : TypeId} (h : w.heap[g]? = some (.cells cs t (0, 0))) (i : Nat) : w.cell? ⟨g, i, none⟩ = cs[i]? := by unfold World.cell?; rw [h]; rfl

theorem wpList_append_zeros {w : World} {ops : Array Oper} {rest : List Oper} {o : Oper} {a : Act} {Q : Exit → Act → World → Prop} (hgd : o.guard = none) (s x : Operand)
    (ho : o.op = .call { callee := .builtin .append, args := #[s, x], argTypes := #[80, 3] })
    (B : Nat) (v : Value) (l : List Nat) (hs : a.eval s = v) (hown : Owns B w v l) (m : Nat) (hx : a.eval x = .int .i64 (m : Nat)) (hm : l.length + m ≤ 100000) (hB : B ≤ w.heap.size)
    (h : ∀ v' w', Owns B w' v' (l ++ List.replicate m 0) → w.grownBy w' v.ownBlock → w.heap.size ≤ w'.heap.size → (∀ k, v'.ownBlock = some k → v.ownBlock = some k ∨ w.heap.size ≤ k) → wpList Try.prog ops Q rest (a.put o.dst v') w') : wpList Try.prog ops Q (o :: rest) a w :=
  wpList_plain hgd fun K hK => by
    obtain ⟨v', w', hr, h1, h2, h3, h4⟩ := run_append_zeros2 w o.type B v l hown m hm hB
    unfold Oper.wp execOp
    simp only [ho, resolve, invoke, builtin, Sem.run_bind, Sem.run_pure, Result.andThen_ok, List.map_toArray, List.map_cons, List.map_nil, hs, hx, hr]
    exact hK _ _ (h v' w' h1 h2 h3 h4)

theorem owns_ne {B : Nat} {w : World} {v : Value} {l : List Nat} {g : Nat} {cs : Array Value} {t : TypeId} (h : Owns B w v l) (hg : w.heap[g]? = some (.cells cs t (0, 0))) (ht : t ≠ 5) : ∀ k, v.ownBlock = some k → k ≠ g := by
  intro k hk
  obtain ⟨_, _, ⟨rfl, _⟩ | ⟨gc, cap, cur, rfl, _, q, _⟩⟩ := h
  · cases hk
  · simp only [Value.ownBlock, Option.some.injEq] at hk
    subst hk
    rintro rfl
    rw [hg] at q
    injection q with q
    injection q with _ q
    exact ht q
theorem owns_lt {B : Nat} {w : World} {v : Value} {l : List Nat} (h : Owns B w v l) : ∀ k, v.ownBlock = some k → B ≤ k := fun k hk => (World.ownsRow.lt h.2 k hk).1
theorem below_grown {B : Nat} {w w' : World} {v : Value} {l : List Nat} (ho : Owns B w v l) (hg : w.grownBy w' v.ownBlock) (hB : B ≤ w.heap.size) : Below B w w' :=
  (Below.refl B w).grown hg hB (owns_lt ho)
/-- A cell of the port's own block is stored; its bytes lie elsewhere. -/
theorem owns_set {B : Nat} {w : World} {v : Value} {l : List Nat} {g : Nat} (h : Owns B w v l) (hne : ∀ k, v.ownBlock = some k → k ≠ g) (i : Nat) (u : Value) : Owns B (w.setCell ⟨g, i, none⟩ u) v l := by
  obtain ⟨h1, h2, h3⟩ := h
  refine ⟨h1, h2, ?_⟩
  rcases h3 with h3 | ⟨gc, cap, cur, e, q, r, s⟩
  · exact .inl h3
  · exact .inr ⟨gc, cap, cur, e, q, (Below.heap_setCell _ _ _ _ (by rw [e] at hne; exact hne gc rfl)).trans r, s⟩
theorem putL_end (l : List Nat) (q n : Nat) : putL (l ++ List.replicate q 0) l.length q n = l ++ low n q := by
  unfold putL
  rw [List.take_left' rfl, List.drop_of_length_le (by simp), List.append_nil]

theorem put_owned2 (B : Nat) (v : Value) (l : List Nat) (p q n : Nat) (w : World) (ho : Owns B w v l) (hl : l.length ≤ maxLen) (hq : 1 ≤ q) (hq8 : q ≤ 8) (hpq : p + q ≤ l.length) (h : n < 256 ^ q) :
    Calls Try.prog 136 #[v, .int .i64 p, .int .i64 q, .int .u64 n] w fun e w' => e = .returned (.int .i64 0) ∧ Owns B w' v (putL l p q n) ∧ Below B w w' ∧ ∀ k, v.ownBlock ≠ some k → w'.heap[k]? = w.heap[k]? := by
  obtain ⟨hb, hlen, ho⟩ := ho
  rcases ho with ⟨rfl, hn⟩ | ⟨g, cap, cur, rfl, hbg, hg, hc, hm, hs, ht⟩
  · omega
  rw [Nat.mul_one] at hs ht
  refine (put_yes g 0 l.length cap cur _ p q n w hg (by omega) hl hq hq8 hpq h).mono ?_
  rintro e w' ⟨rfl, rfl⟩
  refine ⟨rfl, ⟨putL_bytes hb p q n, ?_⟩, below_setRow (Below.refl _ _) hbg _, fun k hk => setRow_other _ _ _ _ (fun e => hk (by rw [e]; rfl))⟩
  rw [putL_length l p q n hpq]
  refine ⟨by simp [putL_length l p q n hpq], .inr ⟨g, cap, _, rfl, hbg, setRow_heap _ _ _ _ _ _ hg, hc, hm, ?_, ?_⟩⟩
  · rw [laid_size _ _ _ (by rw [low_length]; omega), hs, Nat.mul_one]
  · rw [Nat.zero_add, Nat.mul_one]
    exact laid_take ht hpq

set_option maxHeartbeats 1600000 in
theorem wnum_is {w : World} {g : Nat} {v : Value} {l : List Nat} {f : Bool} (h : IsWr w g v l f) (q n : Nat) (hq : 1 ≤ q) (hq8 : q ≤ 8) (hn : n < 18446744073709551616) (hl : l.length + q ≤ 2000) :
    Calls Try.prog 161 #[.pointer (some ⟨g, 0, none⟩), .int .i64 q, .int .u64 n] w fun e w' => e = .returned (.int .u64 n) ∧ PKeeps g v w w' ∧ ∃ v' l' f', PS.next (.wr l f) q n = .wr l' f' ∧ IsWr w' g v' l' f' ∧ (∀ k, v'.ownBlock = some k → v.ownBlock = some k ∨ w.heap.size ≤ k) := by
  obtain ⟨h1, h2⟩ := h
  have c0 := cell_of_row h1 0
  have c1 := cell_of_row h1 1
  have f0 := frozen_of_row w g 0 _ _ h1
  obtain ⟨a0, cap, hv, hrd, hlc, hcm⟩ := h2.reads
  subst hv
  have hgl : g < w.heap.size := (Array.getElem?_eq_some_iff.1 h1).1
  have HO := Lib.hid h2
  have HG := Lib.hid h1
  have hqI : (q : Int) ≤ 8 := by omega
  clear h1 h2 hrd
  go_enter Try.func161, Try.ntmps161
  go_wp2_with (at_builtin; refine wpList_append_zeros rfl _ _ rfl 0 (.slice a0 l.length cap) l rfl HO.out q rfl (by omega) (Nat.zero_le _) ?_)
  intro v1 w1 ho1 hg1 hsz1 hnew
  have hne := owns_ne HO.out HG.out (by decide)
  have hg1' : w1.heap[g]? = some (.cells #[.slice a0 l.length cap, .bool f] 204 (0, 0)) := (hg1.block g hgl (fun e => hne g e.symm rfl)).trans HG.out
  have b1 : PKeeps g (.slice a0 l.length cap) w w1 := PKeeps.of_grown hg1 hsz1
  have d0 := cell_of_row hg1' 0
  have e0 := frozen_of_row w1 g 0 _ _ hg1'
  obtain ⟨a1, cap1, hv1, hrd1, hlc1, hcm1⟩ := ho1.reads
  subst hv1
  have hne1 := owns_ne ho1 hg1' (by decide)
  have HO1 := Lib.hid (owns_set ho1 hne1 0 (.slice a1 (l ++ List.replicate q 0).length cap1))
  have hg2 : (w1.setCell ⟨g, 0, none⟩ (.slice a1 (l ++ List.replicate q 0).length cap1)).heap[g]? = some (.cells #[.slice a1 (l ++ List.replicate q 0).length cap1, .bool f] 204 (0, 0)) := by
    rw [heap_setCell_same w1 g 0 _ _ _ hg1']; rfl
  have HG2 := Lib.hid hg2
  have hll : (l ++ List.replicate q 0).length = l.length + q := by simp
  have HNW := Lib.hid hnew
  have B1 := Lib.hid b1
  clear hg1 hrd1 ho1 b1 c0 c1 f0 hsz1 hnew
  go_wp2_with fail
  rw [hll] at HO1 HNW
  have hBset : Hid (PKeeps g (.slice a0 l.length cap) w (w1.setCell ⟨g, 0, none⟩ (.slice a1 (l.length + q) cap1))) := B1.out.set 0 _
  rw [hll] at HG2 hg2
  clear hg1' d0 e0 hg2
  obtain ⟨w2, hw2⟩ : ∃ w2, w1.setCell ⟨g, 0, none⟩ (.slice a1 (l.length + q) cap1) = w2 := ⟨_, rfl⟩
  rw [hw2] at HO1 HG2 hBset ⊢
  clear hw2 B1
  have hm63 : (l ++ List.replicate q 0).length ≤ maxLen := by rw [hll]; unfold maxLen; omega
  have hne2 := owns_ne HO1.out HG2.out (by decide)
  by_cases hfit : n < 256 ^ q
  · refine (put_owned2 0 (.slice a1 (l.length + q) cap1) (l ++ List.replicate q 0) l.length q n w2 HO1.out hm63 hq hq8 (by rw [hll]; omega) hfit).mono ?_
    rintro e w3 ⟨rfl, ho3, b3, k3⟩
    rw [putL_end] at ho3
    have HP : Hid (PS.next (.wr l f) q n = .wr (l ++ low n q) f) := if_pos hfit
    have hg3 := (k3 g (fun e => hne2 g e rfl)).trans HG2.out
    have hpk : PKeeps g (.slice a0 l.length cap) w w3 := ⟨b3.os.trans hBset.out.os, b3.tape.trans hBset.out.tape, b3.output.trans hBset.out.output, Nat.le_trans hBset.out.size b3.size, fun k hk hkg hkv => (k3 k (fun e => (HNW.out k e).elim (fun h => hkv h) (fun h => by omega))).trans (hBset.out.block k hk hkg hkv)⟩
    have H3 := Lib.hid (And.intro hg3 (And.intro ho3 hpk))
    clear hg3 ho3 b3 k3 hpk
    go_wp2
    go_ret
    exact ⟨rfl, H3.out.2.2, .slice a1 (l.length + q) cap1, l ++ low n q, f, HP.out, ⟨H3.out.1, H3.out.2.1⟩, HNW.out⟩
  · have hno : hasB (q : Int) n = false := by
      unfold hasB
      refine decide_eq_false ?_
      rintro ⟨_, _, h⟩
      exact hfit (by simpa using h)
    refine (put_no a1 (l.length + q) cap1 l.length q n w2 (by rw [← hll]; exact hm63) (by unfold I64; omega) (by unfold I64; omega) hn (.inr hno)).mono ?_
    rintro e w3 ⟨rfl, rfl⟩
    have HP : Hid (PS.next (.wr l f) q n = .wr (l ++ List.replicate q 0) true) := if_neg hfit
    have g1 := cell_of_row HG2.out 1
    have k1 := frozen_of_row w2 g 1 _ _ HG2.out
    go_wp2
    go_ret
    refine ⟨rfl, hBset.out.set 1 _, .slice a1 (l.length + q) cap1, l ++ List.replicate q 0, true, HP.out, ⟨?_, ?_⟩, HNW.out⟩
    · rw [heap_setCell_same w2 g 1 _ _ _ HG2.out]; rfl
    · exact owns_set HO1.out hne2 1 _

theorem reads_set {w : World} {a : Option Addr} {len : Nat} {l : List Nat} {g : Nat} (h : Reads w a len l) (hne : ∀ {blk off}, a = some ⟨blk, off, none⟩ → blk ≠ g) (i : Nat) (u : Value) : Reads (w.setCell ⟨g, i, none⟩ u) a len l := by
  obtain ⟨h1, h2, h3⟩ := h
  refine ⟨h1, h2, ?_⟩
  rcases h3 with h3 | ⟨blk, off, e, hb, hc⟩
  · exact .inl h3
  · exact .inr ⟨blk, off, e, by simpa using hb, fun j hj => (World.cell?_of_block (a := ⟨blk, off + j, none⟩) (Below.heap_setCell _ _ _ _ (hne e))).trans (hc j hj)⟩

set_option maxHeartbeats 1600000 in
theorem rnum_is {w : World} {g : Nat} {a : Option Addr} {cap : Nat} {b : List Nat} (h : IsRd w g a cap b) (q n : Nat) (hq : 1 ≤ q) (hq8 : q ≤ 8) (hn : n < 18446744073709551616) :
    Calls Try.prog 163 #[.pointer (some ⟨g, 0, none⟩), .int .i64 q, .int .u64 n] w fun e w' => e = .returned (.int .u64 (PS.num (.rd b) q n : Nat)) ∧ PKeeps g (.slice none 0 0) w w' ∧ ∃ a' cap' b', PS.next (.rd b) q n = .rd b' ∧ IsRd w' g a' cap' b' ∧ (b' ≠ [] → ∀ x, a' = some x → ∃ y, a = some y ∧ y.block = x.block ∧ b ≠ []) := by
  obtain ⟨h1, h2, h3, h4, h6⟩ := h
  have c0 := cell_of_row h1 0
  have f0 := frozen_of_row w g 0 _ _ h1
  have hgl : g < w.heap.size := (Array.getElem?_eq_some_iff.1 h1).1
  have hqI : (q : Int) ≤ 8 := by omega
  have HG := Lib.hid h1
  have HR := Lib.hid h2
  by_cases hqb : q ≤ b.length
  · obtain ⟨blk, off, rfl⟩ := h2.some_of (by omega)
    have HN : Hid (PS.num (.rd b) q n = le (b.take q)) := if_pos hqb
    have HP : Hid (PS.next (.rd b) q n = .rd (b.drop q)) := if_pos hqb
    have hne : blk ≠ g := h6 (by rintro rfl; simp at hqb; omega) _ rfl
    clear h1 h2 h6
    go_enter Try.func163, Try.ntmps163
    go_wp2_with fail
    refine (get_yes (some ⟨blk, off, none⟩) b.length cap b 0 q w HR.out (Nat.le_trans h3 h4) hq hq8 (by omega)).mono ?_
    rintro e w1 ⟨rfl, rfl⟩
    have h3I : (b.length : Int) ≤ (cap : Int) := by omega
    have hqbI : (q : Int) ≤ (b.length : Int) := by omega
    by_cases hcq : cap = q
    · have hbl : b.length = q := by omega
      subst hcq
      go_wp2
      go_ret
      refine ⟨by rw [HN.out]; rfl, (PKeeps.refl g _ w).set 0 _, some ⟨blk, off, none⟩, 0, [], by rw [HP.out, List.drop_of_length_le (by omega)], ⟨?_, ⟨rfl, by intro x hx; simp at hx, .inl rfl⟩, Nat.le_refl _, by unfold maxLen; omega, fun h => absurd rfl h⟩, fun h => absurd rfl h⟩
      rw [heap_setCell_same w g 0 _ _ _ HG.out]
      simp [hbl]
    · go_wp2
      go_ret
      have hrp := HR.out.part q (b.length - q) (by omega)
      rw [List.take_of_length_le (by simp)] at hrp
      refine ⟨by rw [HN.out]; rfl, (PKeeps.refl g _ w).set 0 _, some ⟨blk, off + q, none⟩, cap - q, b.drop q, HP.out, ⟨?_, ?_, by simp; omega, by omega, fun _ x hx => by cases hx; exact hne⟩, fun _ x hx => by cases hx; exact ⟨_, rfl, rfl, by rintro rfl; simp at hqb; omega⟩⟩
      · rw [heap_setCell_same w g 0 _ _ _ HG.out, List.length_drop]
        rfl
      · rw [List.length_drop]
        exact reads_set hrp (fun e => by cases e; exact hne) 0 _
  · have HN : Hid (PS.num (.rd b) q n = 0) := if_neg hqb
    have HP : Hid (PS.next (.rd b) q n = .rd []) := if_neg hqb
    have hro : roomB b.length 0 (q : Int) = false := roomB_no (by omega)
    clear h1 h2 h6
    go_enter Try.func163, Try.ntmps163
    go_wp2_with fail
    refine (get_no a b.length cap 0 q w (Nat.le_trans h3 h4) (by unfold I64; omega) (by unfold I64; omega) hro).mono ?_
    rintro e w1 ⟨rfl, rfl⟩
    go_wp2
    go_ret
    refine ⟨by rw [HN.out]; rfl, (PKeeps.refl g _ w).set 0 _, none, 0, [], HP.out, ⟨?_, ⟨rfl, by intro x hx; simp at hx, .inl rfl⟩, Nat.le_refl _, by unfold maxLen; omega, fun h => absurd rfl h⟩, fun h => absurd rfl h⟩
    rw [heap_setCell_same w g 0 _ _ _ HG.out]
    rfl

/-! ### A port as an interface's value -/
def IsPort (w : World) (pv : Value) (S : PS) : Prop := match S with
  | .wr l f => ∃ g v, pv = .iface 205 (.pointer (some ⟨g, 0, none⟩)) ∧ IsWr w g v l f
  | .rd b => ∃ g a cap, pv = .iface 218 (.pointer (some ⟨g, 0, none⟩)) ∧ IsRd w g a cap b
/-- Block k is none of the port's. -/
def Away (w : World) (pv : Value) (S : PS) (k : Nat) : Prop := match S with
  | .wr l f => ∀ g v, pv = .iface 205 (.pointer (some ⟨g, 0, none⟩)) → IsWr w g v l f → k ≠ g ∧ v.ownBlock ≠ some k
  | .rd b => ∀ g a cap, pv = .iface 218 (.pointer (some ⟨g, 0, none⟩)) → IsRd w g a cap b → k ≠ g ∧ (b ≠ [] → ∀ x, a = some x → x.block ≠ k)
theorem IsWr.same {w : World} {g : Nat} {v v' : Value} {l l' : List Nat} {f f' : Bool} (h : IsWr w g v l f) (h' : IsWr w g v' l' f') : v = v' := by
  have := h.1.symm.trans h'.1
  simp only [Option.some.injEq, Obj.cells.injEq] at this
  have := this.1
  simp at this
  exact this.1
theorem IsRd.same {w : World} {g : Nat} {a a' : Option Addr} {cap cap' : Nat} {b : List Nat} (h : IsRd w g a cap b) (h' : IsRd w g a' cap' b) : a = a' ∧ cap = cap' := by
  have := h.1.symm.trans h'.1
  simp only [Option.some.injEq, Obj.cells.injEq] at this
  have := this.1
  simp at this
  exact this
/-- Block k is none that the port writes. -/
def Apart (w : World) (pv : Value) (S : PS) (k : Nat) : Prop := match S with
  | .wr l f => ∀ g v, pv = .iface 205 (.pointer (some ⟨g, 0, none⟩)) → IsWr w g v l f → k ≠ g ∧ v.ownBlock ≠ some k
  | .rd b => ∀ g a cap, pv = .iface 218 (.pointer (some ⟨g, 0, none⟩)) → IsRd w g a cap b → k ≠ g
theorem Away.apart {w : World} {pv : Value} {S : PS} {k : Nat} (h : Away w pv S k) : Apart w pv S k := by
  cases S with
  | wr l f => exact h
  | rd b => exact fun g a cap e hi => (h g a cap e hi).1
/-- What a call through the port leaves: it keeps all that is apart from the port, but block gx; what is away stays away. -/
structure Passed (gx : Nat) (w : World) (pv : Value) (S : PS) (w' : World) (S' : PS) : Prop where
  os : w'.os = w.os
  tape : w'.tape = w.tape
  output : w'.output = w.output
  size : w.heap.size ≤ w'.heap.size
  block : ∀ k, k < w.heap.size → Apart w pv S k → k ≠ gx → w'.heap[k]? = w.heap[k]?
  apart : ∀ k, k < w.heap.size → Apart w pv S k → Apart w' pv S' k
  away : ∀ k, k < w.heap.size → Away w pv S k → Away w' pv S' k
  port : IsPort w' pv S'
theorem Passed.trans {gx : Nat} {w w' w'' : World} {pv : Value} {S S' S'' : PS} (h : Passed gx w pv S w' S') (k : Passed gx w' pv S' w'' S'') : Passed gx w pv S w'' S'' :=
  ⟨k.os.trans h.os, k.tape.trans h.tape, k.output.trans h.output, Nat.le_trans h.size k.size,
    fun i hi ha hx => (k.block i (Nat.lt_of_lt_of_le hi h.size) (h.apart i hi ha) hx).trans (h.block i hi ha hx), fun i hi ha => k.apart i (Nat.lt_of_lt_of_le hi h.size) (h.apart i hi ha), fun i hi ha => k.away i (Nat.lt_of_lt_of_le hi h.size) (h.away i hi ha), k.port⟩
theorem away_wr {w : World} {g k : Nat} {v : Value} {l : List Nat} {f : Bool} (h : IsWr w g v l f) : Away w (.iface 205 (.pointer (some ⟨g, 0, none⟩))) (.wr l f) k ↔ (k ≠ g ∧ v.ownBlock ≠ some k) := by
  constructor
  · intro hA; exact hA g v rfl h
  · intro hA g' v' e h'
    obtain rfl : g = g' := by cases e; rfl
    obtain rfl := h.same h'
    exact hA
theorem away_rd {w : World} {g k : Nat} {a : Option Addr} {cap : Nat} {b : List Nat} (h : IsRd w g a cap b) : Away w (.iface 218 (.pointer (some ⟨g, 0, none⟩))) (.rd b) k ↔ (k ≠ g ∧ (b ≠ [] → ∀ x, a = some x → x.block ≠ k)) := by
  constructor
  · intro hA; exact hA g a cap rfl h
  · intro hA g' a' cap' e h'
    obtain rfl : g = g' := by cases e; rfl
    obtain ⟨rfl, rfl⟩ := h.same h'
    exact hA
theorem apart_wr {w : World} {g k : Nat} {v : Value} {l : List Nat} {f : Bool} (h : IsWr w g v l f) : Apart w (.iface 205 (.pointer (some ⟨g, 0, none⟩))) (.wr l f) k ↔ (k ≠ g ∧ v.ownBlock ≠ some k) := away_wr h
theorem apart_rd {w : World} {g k : Nat} {a : Option Addr} {cap : Nat} {b : List Nat} (h : IsRd w g a cap b) : Apart w (.iface 218 (.pointer (some ⟨g, 0, none⟩))) (.rd b) k ↔ k ≠ g := by
  constructor
  · intro hA; exact hA g a cap rfl h
  · intro hA g' a' cap' e h'
    obtain rfl : g = g' := by cases e; rfl
    exact hA
/-- Behind the writer's own call, with a cell of a block that is away stored. -/
theorem passed_wr {w w1 : World} {g gx i q n : Nat} {v u : Value} {l : List Nat} {f : Bool} (h : IsWr w g v l f) (hx : gx < w.heap.size) (hax : Away w (.iface 205 (.pointer (some ⟨g, 0, none⟩))) (.wr l f) gx) (k : PKeeps g v w w1)
    (H : ∃ v' l' f', PS.next (.wr l f) q n = .wr l' f' ∧ IsWr w1 g v' l' f' ∧ (∀ k, v'.ownBlock = some k → v.ownBlock = some k ∨ w.heap.size ≤ k)) :
    Passed gx w (.iface 205 (.pointer (some ⟨g, 0, none⟩))) (.wr l f) (w1.setCell ⟨gx, i, none⟩ u) (PS.next (.wr l f) q n) := by
  obtain ⟨v', l', f', e, hw, hnew⟩ := H
  obtain ⟨hxg, hxv⟩ := (away_wr h).1 hax
  have hs : IsWr (w1.setCell ⟨gx, i, none⟩ u) g v' l' f' := by
    refine ⟨(Below.heap_setCell _ _ _ _ (Ne.symm hxg)).trans hw.1, owns_set hw.2 (fun k hk => ?_) i u⟩
    rcases hnew k hk with h1 | h1
    · rintro rfl; exact hxv h1
    · omega
  rw [e]
  have key : ∀ j, j < w.heap.size → Away w (.iface 205 (.pointer (some ⟨g, 0, none⟩))) (.wr l f) j → Away (w1.setCell ⟨gx, i, none⟩ u) (.iface 205 (.pointer (some ⟨g, 0, none⟩))) (.wr l' f') j := fun j hj ha => by
    obtain ⟨a1, a2⟩ := (away_wr h).1 ha
    refine (away_wr hs).2 ⟨a1, fun hv => ?_⟩
    rcases hnew j hv with h1 | h1
    · exact a2 h1
    · omega
  refine ⟨k.os, k.tape, k.output, by simpa using k.size, fun j hj ha hjx => ?_, key, fun j hj ha => ?_, ⟨g, v', rfl, hs⟩⟩
  · obtain ⟨a1, a2⟩ := (apart_wr h).1 ha
    exact (Below.heap_setCell _ _ _ _ hjx).trans (k.block j hj a1 a2)
  · obtain ⟨a1, a2⟩ := (away_wr h).1 ha
    refine (away_wr hs).2 ⟨a1, fun hv => ?_⟩
    rcases hnew j hv with h1 | h1
    · exact a2 h1
    · omega
theorem passed_rd {w w1 : World} {g gx i q n : Nat} {a : Option Addr} {cap : Nat} {u : Value} {b : List Nat} (h : IsRd w g a cap b) (hx : gx < w.heap.size) (hax : Away w (.iface 218 (.pointer (some ⟨g, 0, none⟩))) (.rd b) gx) (k : PKeeps g (.slice none 0 0) w w1)
    (H : ∃ a' cap' b', PS.next (.rd b) q n = .rd b' ∧ IsRd w1 g a' cap' b' ∧ (b' ≠ [] → ∀ x, a' = some x → ∃ y, a = some y ∧ y.block = x.block ∧ b ≠ [])) :
    Passed gx w (.iface 218 (.pointer (some ⟨g, 0, none⟩))) (.rd b) (w1.setCell ⟨gx, i, none⟩ u) (PS.next (.rd b) q n) := by
  obtain ⟨a', cap', b', e, hw, hnew⟩ := H
  obtain ⟨hxg, hxv⟩ := (away_rd h).1 hax
  have hs : IsRd (w1.setCell ⟨gx, i, none⟩ u) g a' cap' b' := by
    refine ⟨(Below.heap_setCell _ _ _ _ (Ne.symm hxg)).trans hw.1, ?_, hw.2.2.1, hw.2.2.2.1, hw.2.2.2.2⟩
    by_cases hb : b' = []
    · subst hb; exact ⟨rfl, by intro x hx; simp at hx, .inl rfl⟩
    · refine reads_set hw.2.1 (fun {blk off} e' => ?_) i u
      obtain ⟨y, hy1, hy2, hy3⟩ := hnew hb _ e'
      have := hxv hy3 y hy1
      rw [hy2] at this
      exact this
  rw [e]
  refine ⟨k.os, k.tape, k.output, by simpa using k.size, fun j hj ha hjx => ?_, fun j hj ha => (apart_rd hs).2 ((apart_rd h).1 ha), fun j hj ha => ?_, ⟨g, a', cap', rfl, hs⟩⟩
  · exact (Below.heap_setCell _ _ _ _ hjx).trans (k.block j hj ((apart_rd h).1 ha) (by intro e; cases e))
  · obtain ⟨a1, a2⟩ := (away_rd h).1 ha
    refine (away_rd hs).2 ⟨a1, fun hb x hx' => ?_⟩
    obtain ⟨y, hy1, hy2, hy3⟩ := hnew hb x hx'
    have := a2 hy3 y hy1
    rwa [hy2] at this
/-- The block of a cell that is stored. -/
theorem row_stored {w1 : World} {gx i : Nat} {cs : Array Value} {t : TypeId} {u : Value} (h : w1.heap[gx]? = some (.cells cs t (0, 0))) : (w1.setCell ⟨gx, i, none⟩ u).heap[gx]? = some (.cells (cs.setIfInBounds i u) t (0, 0)) := heap_setCell_same w1 gx i _ _ _ h
theorem num_lt {b : List Nat} (h : Bytes b) (q n : Nat) (hq : q ≤ 8) : PS.num (.rd b) q n < 256 ^ q := by
  unfold PS.num
  dsimp only
  split
  · have := le_lt (b.take q) (h.take q)
    rw [List.length_take, Nat.min_eq_left (by assumption)] at this
    exact this
  · exact Nat.pow_pos (by omega)

theorem na_wr (n g : Nat) (w : World) (hn : 0 < n) : (nilAhead n 205 (.pointer (some ⟨g, 0, none⟩)) "Num").run Try.prog w = .ok (some false) w := by
  cases n with
  | zero => omega
  | succ n => kernel_rfl
theorem na_rd (n g : Nat) (w : World) (hn : 0 < n) : (nilAhead n 218 (.pointer (some ⟨g, 0, none⟩)) "Num").run Try.prog w = .ok (some false) w := by
  cases n with
  | zero => omega
  | succ n => kernel_rfl
theorem mt_wr (n g : Nat) (w : World) (hn : 0 < n) : (method n 205 (.pointer (some ⟨g, 0, none⟩)) "Num").run Try.prog w = .ok (161, .pointer (some ⟨g, 0, none⟩)) w := by
  cases n with
  | zero => omega
  | succ n => kernel_rfl
theorem mt_rd (n g : Nat) (w : World) (hn : 0 < n) : (method n 218 (.pointer (some ⟨g, 0, none⟩)) "Num").run Try.prog w = .ok (163, .pointer (some ⟨g, 0, none⟩)) w := by
  cases n with
  | zero => omega
  | succ n => kernel_rfl
theorem u32_small {z : Nat} (h : z < 4294967296) : IntKind.u32.wrap (z : Int) = z := by
  simp only [IntKind.wrap, IntKind.bits, IntKind.signed]
  simp
  omega
theorem below_free {B : Nat} {w w' : World} (h : Below B w w') {g o : Nat} (hg : g < B) : w'.frozen? ⟨g, o, none⟩ = w.frozen? ⟨g, o, none⟩ := World.frozen?_of_block (a := ⟨g, o, none⟩) (h.block g hg)
theorem u64_small {z : Nat} (h : z < 18446744073709551616) : IntKind.u64.wrap (z : Int) = z := by
  simp only [IntKind.wrap, IntKind.bits, IntKind.signed]
  simp
  omega

theorem u8_small {z : Nat} (h : z < 256) : IntKind.u8.wrap (z : Int) = z := by
  simp only [IntKind.wrap, IntKind.bits, IntKind.signed]
  simp
  omega
theorem wp_any_post2 {P : Program} {id : Nat} {ops : Array Oper} {b : Bool} {Q : Exit → Act → World → Prop} {a : Act} {w : World} (R : Act → World → Prop) (h : ∀ Q' : Exit → Act → World → Prop, (∀ a' w', R a' w' → Q' .normal a' w') → (Code.region id ops b).wp P (NoPanic Q') a w) (k : ∀ a' w', R a' w' → Q .normal a' w') : (Code.region id ops b).wp P Q a w := wp_region_noPanic (h Q k)

end Go.Proofs.Ytgakidimipipeaa
namespace Go.Proofs.Ytgakidimipipeaa
open Go.RowKit Go.Sort
set_option linter.unusedVariables false
set_option linter.unusedSimpArgs false
set_option maxRecDepth 100000

set_option maxHeartbeats 1600000 in
theorem pnum_u32 {gx off : Nat} {w : World} {pv : Value} {S : PS} {z : Nat} {cs : Array Value} {t : TypeId} (h : IsPort w pv S) (hx : w.heap[gx]? = some (.cells cs t (0, 0))) (hax : Away w pv S gx) (q : Nat) (hq : 1 ≤ q) (hq8 : q ≤ 4) (hf : S.fits q) (hc : cs[off]? = some (.int .u32 z)) (hz : z < 4294967296) :
    Calls Try.prog 113 #[pv, .int .i64 q, .pointer (some ⟨gx, off, none⟩)] w fun e w' => e = .returned (.tuple #[]) ∧ w'.heap[gx]? = some (.cells (cs.setIfInBounds off (.int .u32 (S.num q z : Nat))) t (0, 0)) ∧ Passed gx w pv S w' (S.next q z) := by
  have hgl : gx < w.heap.size := (Array.getElem?_eq_some_iff.1 hx).1
  have c1 : w.drew.cell? ⟨gx, off, none⟩ = some (.int .u32 z) := (cell_of_row hx off).trans hc
  have HX := Lib.hid hx
  have HAX := Lib.hid hax
  have hw64 := u64_small (z := z) (by omega)
  have hk := u32_small hz
  cases S with
  | wr l f =>
    obtain ⟨g, v, rfl, hw⟩ := h
    have HW := Lib.hid hw
    have HF := Lib.hid hf
    have hna := fun n hn w => na_wr n g w hn
    have hmt := fun n hn w => mt_wr n g w hn
    obtain ⟨xg, xv⟩ := (away_wr hw).1 hax
    clear hw hf hc hax hx
    go_enter Try.func113, Try.ntmps113
    go_wp2_with fail
    refine wp_any_post2 (fun a' w' => ∃ w1, PKeeps g v w.drew w1 ∧ (∃ v' l' f', PS.next (.wr l f) q z = .wr l' f' ∧ IsWr w1 g v' l' f' ∧ (∀ k, v'.ownBlock = some k → v.ownBlock = some k ∨ w.drew.heap.size ≤ k)) ∧ w' = w1.setCell ⟨gx, off, none⟩ (.int .u32 z) ∧ a'.defers = []) (fun Q hQ => ?_) ?_
    · go_region_with (go_at_call 161; refine (wnum_is (w := w.drew) HW.out q z hq (by omega) (by omega) HF.out).mono ?_; rintro e w1 ⟨rfl, b1, HV⟩; have r2 := (b1.block gx hgl xg xv).trans HX.out; have c2 := ((cell_of_row r2 off).trans ((cell_of_row HX.out off).symm.trans c1)); have f2 := frozen_of_row w1 gx off _ _ r2; have HV' := Lib.hid (And.intro b1 HV); clear HV b1 r2)
      all_goals exact NoPanic.normal (hQ _ _ ⟨_, HV'.out.1, HV'.out.2, rfl, rfl⟩)
    · rintro a' w' ⟨w1, b1, HV, rfl, hd⟩
      have r2 := (b1.block gx hgl xg xv).trans HX.out
      refine bodyPost_end (results_none rfl _ _ _) hd ?_
      exact ⟨rfl, row_stored r2, passed_wr HW.out hgl HAX.out ⟨b1.os, b1.tape, b1.output, b1.size, b1.block⟩ HV⟩
  | rd b =>
    obtain ⟨g, a, cap, rfl, hw⟩ := h
    have HW := Lib.hid hw
    have hna := fun n hn w => na_rd n g w hn
    have hmt := fun n hn w => mt_rd n g w hn
    obtain ⟨xg, xv⟩ := (away_rd hw).1 hax
    have hlt : PS.num (.rd b) q z < 4294967296 := Nat.lt_of_lt_of_le (num_lt hw.2.1.2.1 q z (by omega)) (Nat.le_trans (Nat.pow_le_pow_right (by omega) hq8) (by decide))
    obtain ⟨r, hr⟩ : ∃ r, PS.num (.rd b) q z = r := ⟨_, rfl⟩
    rw [hr] at hlt
    have HR := Lib.hid hr
    have hkr := u32_small hlt
    clear hw hc hax hx hf hr
    rw [HR.out]
    go_enter Try.func113, Try.ntmps113
    go_wp2_with fail
    refine wp_any_post2 (fun a' w' => ∃ w1, PKeeps g (.slice none 0 0) w.drew w1 ∧ (∃ a' cap' b', PS.next (.rd b) q z = .rd b' ∧ IsRd w1 g a' cap' b' ∧ (b' ≠ [] → ∀ x, a' = some x → ∃ y, a = some y ∧ y.block = x.block ∧ b ≠ [])) ∧ w' = w1.setCell ⟨gx, off, none⟩ (.int .u32 r) ∧ a'.defers = []) (fun Q hQ => ?_) ?_
    · go_region_with (go_at_call 163; refine (rnum_is (w := w.drew) HW.out q z hq (by omega) (by omega)).mono ?_; rintro e w1 ⟨rfl, b1, HV⟩; rw [HR.out]; have r2 := (b1.block gx hgl xg (by intro e; cases e)).trans HX.out; have c2 := ((cell_of_row r2 off).trans ((cell_of_row HX.out off).symm.trans c1)); have f2 := frozen_of_row w1 gx off _ _ r2; have HV' := Lib.hid (And.intro b1 HV); clear HV b1 r2)
      all_goals exact NoPanic.normal (hQ _ _ ⟨_, HV'.out.1, HV'.out.2, rfl, rfl⟩)
    · rintro a' w' ⟨w1, b1, HV, rfl, hd⟩
      have r2 := (b1.block gx hgl xg (by intro e; cases e)).trans HX.out
      refine bodyPost_end (results_none rfl _ _ _) hd ?_
      exact ⟨rfl, row_stored r2, passed_rd HW.out hgl HAX.out ⟨b1.os, b1.tape, b1.output, b1.size, b1.block⟩ HV⟩
end Go.Proofs.Ytgakidimipipeaa
namespace Go.Proofs.Ytgakidimipipeaa
open Go.RowKit Go.Sort
set_option linter.unusedVariables false
set_option linter.unusedSimpArgs false
set_option maxRecDepth 100000

def u64of (z : Int) : Nat := (z % 18446744073709551616).toNat
theorem u64of_is (z : Int) : IntKind.u64.wrap z = (u64of z : Int) := by
  unfold u64of
  simp only [IntKind.wrap, IntKind.bits, IntKind.signed]
  simp
  omega
theorem u64of_lt (z : Int) : u64of z < 18446744073709551616 := by unfold u64of; omega
theorem u64of_back {z : Int} (h : I64 z) : IntKind.i64.wrap (u64of z : Int) = z := by
  unfold u64of
  unfold I64 at h
  simp only [IntKind.wrap, IntKind.bits, IntKind.signed]
  simp
  omega
theorem i64_small {z : Nat} (h : z < 9223372036854775808) : IntKind.i64.wrap (z : Int) = z := by
  simp only [IntKind.wrap, IntKind.bits, IntKind.signed]
  simp
  omega
/-- The integer that comes out. -/
def PS.numI (S : PS) (q : Nat) (z : Int) : Int := match S with
  | .wr _ _ => z
  | .rd b => (PS.num (.rd b) q 0 : Nat)

set_option maxHeartbeats 1600000 in
theorem pnum_i64 {gx off : Nat} {w : World} {pv : Value} {S : PS} {z : Int} {cs : Array Value} {t : TypeId} (h : IsPort w pv S) (hx : w.heap[gx]? = some (.cells cs t (0, 0))) (hax : Away w pv S gx) (q : Nat) (hq : 1 ≤ q) (hq8 : q ≤ 4) (hf : S.fits q) (hc : cs[off]? = some (.int .i64 z)) (hz : I64 z) :
    Calls Try.prog 112 #[pv, .int .i64 q, .pointer (some ⟨gx, off, none⟩)] w fun e w' => e = .returned (.tuple #[]) ∧ w'.heap[gx]? = some (.cells (cs.setIfInBounds off (.int .i64 (S.numI q z))) t (0, 0)) ∧ Passed gx w pv S w' (S.next q (u64of z)) := by
  have hgl : gx < w.heap.size := (Array.getElem?_eq_some_iff.1 hx).1
  have c1 : w.drew.cell? ⟨gx, off, none⟩ = some (.int .i64 z) := (cell_of_row hx off).trans hc
  have HX := Lib.hid hx
  have HAX := Lib.hid hax
  have hw64 := u64of_is z
  have hk := u64of_back hz
  have hn := u64of_lt z
  obtain ⟨n, hnz⟩ : ∃ n, u64of z = n := ⟨_, rfl⟩
  rw [hnz] at hw64 hk hn ⊢
  cases S with
  | wr l f =>
    obtain ⟨g, v, rfl, hw⟩ := h
    have HW := Lib.hid hw
    have HF := Lib.hid hf
    have hna := fun n hn w => na_wr n g w hn
    have hmt := fun n hn w => mt_wr n g w hn
    obtain ⟨xg, xv⟩ := (away_wr hw).1 hax
    clear hw hf hc hax hx
    go_enter Try.func112, Try.ntmps112
    go_wp2_with fail
    refine wp_any_post2 (fun a' w' => ∃ w1, PKeeps g v w.drew w1 ∧ (∃ v' l' f', PS.next (.wr l f) q n = .wr l' f' ∧ IsWr w1 g v' l' f' ∧ (∀ k, v'.ownBlock = some k → v.ownBlock = some k ∨ w.drew.heap.size ≤ k)) ∧ w' = w1.setCell ⟨gx, off, none⟩ (.int .i64 z) ∧ a'.defers = []) (fun Q hQ => ?_) ?_
    · go_region_with (go_at_call 161; refine (wnum_is (w := w.drew) HW.out q n hq (by omega) (by omega) HF.out).mono ?_; rintro e w1 ⟨rfl, b1, HV⟩; have r2 := (b1.block gx hgl xg xv).trans HX.out; have c2 := ((cell_of_row r2 off).trans ((cell_of_row HX.out off).symm.trans c1)); have f2 := frozen_of_row w1 gx off _ _ r2; have HV' := Lib.hid (And.intro b1 HV); clear HV b1 r2)
      all_goals exact NoPanic.normal (hQ _ _ ⟨_, HV'.out.1, HV'.out.2, rfl, rfl⟩)
    · rintro a' w' ⟨w1, b1, HV, rfl, hd⟩
      have r2 := (b1.block gx hgl xg xv).trans HX.out
      refine bodyPost_end (results_none rfl _ _ _) hd ?_
      exact ⟨rfl, row_stored r2, passed_wr HW.out hgl HAX.out ⟨b1.os, b1.tape, b1.output, b1.size, b1.block⟩ HV⟩
  | rd b =>
    obtain ⟨g, a, cap, rfl, hw⟩ := h
    have HW := Lib.hid hw
    have hna := fun n hn w => na_rd n g w hn
    have hmt := fun n hn w => mt_rd n g w hn
    obtain ⟨xg, xv⟩ := (away_rd hw).1 hax
    have hlt : PS.num (.rd b) q n < 4294967296 := Nat.lt_of_lt_of_le (num_lt hw.2.1.2.1 q n (by omega)) (Nat.le_trans (Nat.pow_le_pow_right (by omega) hq8) (by decide))
    have hnI : PS.numI (.rd b) q z = (PS.num (.rd b) q n : Nat) := rfl
    rw [hnI]
    obtain ⟨r, hr⟩ : ∃ r, PS.num (.rd b) q n = r := ⟨_, rfl⟩
    rw [hr] at hlt
    have HR := Lib.hid hr
    have hkr := i64_small (z := r) (by omega)
    clear hw hc hax hx hf hr
    rw [HR.out]
    go_enter Try.func112, Try.ntmps112
    go_wp2_with fail
    refine wp_any_post2 (fun a' w' => ∃ w1, PKeeps g (.slice none 0 0) w.drew w1 ∧ (∃ a' cap' b', PS.next (.rd b) q n = .rd b' ∧ IsRd w1 g a' cap' b' ∧ (b' ≠ [] → ∀ x, a' = some x → ∃ y, a = some y ∧ y.block = x.block ∧ b ≠ [])) ∧ w' = w1.setCell ⟨gx, off, none⟩ (.int .i64 r) ∧ a'.defers = []) (fun Q hQ => ?_) ?_
    · go_region_with (go_at_call 163; refine (rnum_is (w := w.drew) HW.out q n hq (by omega) (by omega)).mono ?_; rintro e w1 ⟨rfl, b1, HV⟩; rw [HR.out]; have r2 := (b1.block gx hgl xg (by intro e; cases e)).trans HX.out; have c2 := ((cell_of_row r2 off).trans ((cell_of_row HX.out off).symm.trans c1)); have f2 := frozen_of_row w1 gx off _ _ r2; have HV' := Lib.hid (And.intro b1 HV); clear HV b1 r2)
      all_goals exact NoPanic.normal (hQ _ _ ⟨_, HV'.out.1, HV'.out.2, rfl, rfl⟩)
    · rintro a' w' ⟨w1, b1, HV, rfl, hd⟩
      have r2 := (b1.block gx hgl xg (by intro e; cases e)).trans HX.out
      refine bodyPost_end (results_none rfl _ _ _) hd ?_
      exact ⟨rfl, row_stored r2, passed_rd HW.out hgl HAX.out ⟨b1.os, b1.tape, b1.output, b1.size, b1.block⟩ HV⟩
end Go.Proofs.Ytgakidimipipeaa
namespace Go.Proofs.Ytgakidimipipeaa
open Go.RowKit Go.Sort
set_option linter.unusedVariables false
set_option linter.unusedSimpArgs false
set_option maxRecDepth 100000

/-- A field: its kind, its width, its number. -/
structure FldD where
  kind : IntKind
  width : Nat
  z : Int
def cellsF (l : List FldD) : Array Value := (l.map fun x => Value.int x.kind x.z).toArray
/-- The port's state behind fields, and the fields that come out. -/
def stS : PS → List FldD → PS
  | S, [] => S
  | S, x :: r => stS (S.next x.width (u64of x.z)) r
def stO : PS → List FldD → List FldD
  | _, [] => []
  | S, x :: r => { x with z := S.numI x.width x.z } :: stO (S.next x.width (u64of x.z)) r
def widths : List FldD → Nat
  | [] => 0
  | x :: r => x.width + widths r
theorem stS_snoc : ∀ (l : List FldD) (S : PS) (x : FldD), stS S (l ++ [x]) = (stS S l).next x.width (u64of x.z)
  | [], _, _ => rfl
  | y :: l, S, x => stS_snoc l _ x
theorem stO_snoc : ∀ (l : List FldD) (S : PS) (x : FldD), stO S (l ++ [x]) = stO S l ++ [{ x with z := (stS S l).numI x.width x.z }]
  | [], _, _ => rfl
  | y :: l, S, x => by
    show _ :: stO _ (l ++ [x]) = _ :: (stO _ l ++ _)
    rw [stO_snoc l]
    rfl
theorem stO_length : ∀ (l : List FldD) (S : PS), (stO S l).length = l.length
  | [], _ => rfl
  | x :: l, S => by show (stO _ l).length + 1 = l.length + 1; rw [stO_length l]
theorem fits_less {S : PS} {j k : Nat} (h : S.fits k) (hj : j ≤ k) : S.fits j := by
  cases S with
  | wr l f => unfold PS.fits at h ⊢; dsimp only at h ⊢; omega
  | rd b => trivial
theorem fits_at : ∀ (l : List FldD) (S : PS) (k : Nat), S.fits (widths l + k) → (stS S l).fits k
  | [], S, k, h => fits_less h (by show k ≤ 0 + k; omega)
  | x :: l, S, k, h => by
    refine fits_at l _ k (PS.fits_next ?_)
    have e : widths (x :: l) + k = x.width + (widths l + k) := by show x.width + widths l + k = _; omega
    rw [e] at h
    exact h
theorem widths_take : ∀ (l : List FldD) (m : Nat) (x : FldD), l[m]? = some x → widths (l.take m) + x.width ≤ widths l
  | [], m, x, h => by simp at h
  | y :: l, 0, x, h => by
    simp only [List.getElem?_cons_zero, Option.some.injEq] at h
    subst h
    show 0 + y.width ≤ y.width + widths l
    omega
  | y :: l, m + 1, x, h => by
    have := widths_take l m x (by simpa using h)
    show y.width + widths (l.take m) + x.width ≤ y.width + widths l
    omega

def fieldsAt (S : PS) (l : List FldD) (m : Nat) : List FldD := stO S (l.take m) ++ l.drop m
theorem fieldsAt_get {S : PS} {l : List FldD} {m : Nat} {x : FldD} (h : l[m]? = some x) : (cellsF (fieldsAt S l m))[m]? = some (.int x.kind x.z) := by
  have hm : m < l.length := (List.getElem?_eq_some_iff.1 h).1
  unfold cellsF fieldsAt
  simp only [List.getElem?_toArray, List.getElem?_map]
  rw [List.getElem?_append_right (by rw [stO_length, List.length_take]; omega), stO_length, List.length_take, Nat.min_eq_left (by omega), Nat.sub_self, List.getElem?_drop, Nat.add_zero, h]
  rfl
theorem fieldsAt_set {S : PS} {l : List FldD} {m : Nat} {x : FldD} (h : l[m]? = some x) : (cellsF (fieldsAt S l m)).setIfInBounds m (.int x.kind ((stS S (l.take m)).numI x.width x.z)) = cellsF (fieldsAt S l (m + 1)) := by
  have hm : m < l.length := (List.getElem?_eq_some_iff.1 h).1
  have e1 : l.drop m = x :: l.drop (m + 1) := by
    rw [List.drop_eq_getElem_cons hm]
    rw [List.getElem?_eq_getElem hm] at h
    cases h
    rfl
  have e2 : l.take (m + 1) = l.take m ++ [x] := by rw [List.take_add_one, h]; rfl
  unfold cellsF fieldsAt
  rw [e1, e2, stO_snoc, List.append_assoc]
  apply Array.ext'
  simp only [List.setIfInBounds_toArray, List.map_append, List.map_cons]
  rw [List.set_append_right _ _ (by rw [List.length_map, stO_length, List.length_take]; omega)]
  rw [List.length_map, stO_length, List.length_take, Nat.min_eq_left (by omega), Nat.sub_self]
  rfl
/-- Behind m fields. -/
structure LayAt (l : List FldD) (gx : Nat) (t : TypeId) (w0 : World) (pv : Value) (S : PS) (m : Nat) (w : World) : Prop where
  row : w.heap[gx]? = some (.cells (cellsF (fieldsAt S l m)) t (0, 0))
  passed : Passed gx w0 pv S w (stS S (l.take m))
  size : gx < w0.heap.size
  away : Away w0 pv S gx
  room : S.fits (widths l)
theorem layAt_start {l : List FldD} {gx : Nat} {t : TypeId} {w : World} {pv : Value} {S : PS} (h : IsPort w pv S) (hx : w.heap[gx]? = some (.cells (cellsF l) t (0, 0))) (hax : Away w pv S gx) (hf : S.fits (widths l)) : LayAt l gx t w pv S 0 w :=
  ⟨hx, ⟨rfl, rfl, rfl, Nat.le_refl _, fun _ _ _ _ => rfl, fun _ _ h => h, fun _ _ h => h, h⟩, (Array.getElem?_eq_some_iff.1 hx).1, hax, hf⟩
theorem LayAt.next {l : List FldD} {gx m : Nat} {t : TypeId} {w0 w w' : World} {pv : Value} {S : PS} {x : FldD} (h : LayAt l gx t w0 pv S m w) (hx : l[m]? = some x)
    (hr : w'.heap[gx]? = some (.cells ((cellsF (fieldsAt S l m)).setIfInBounds m (.int x.kind ((stS S (l.take m)).numI x.width x.z))) t (0, 0))) (hp : Passed gx w pv (stS S (l.take m)) w' ((stS S (l.take m)).next x.width (u64of x.z))) : LayAt l gx t w0 pv S (m + 1) w' := by
  refine ⟨by rw [hr, fieldsAt_set hx], ?_, h.size, h.away, h.room⟩
  have e2 : l.take (m + 1) = l.take m ++ [x] := by rw [List.take_add_one, hx]; rfl
  rw [e2, stS_snoc]
  exact h.passed.trans hp
theorem LayAt.fits {l : List FldD} {gx m : Nat} {t : TypeId} {w0 w : World} {pv : Value} {S : PS} {x : FldD} (h : LayAt l gx t w0 pv S m w) (hx : l[m]? = some x) : (stS S (l.take m)).fits x.width :=
  fits_at _ _ _ (fits_less h.room (widths_take l m x hx))
theorem numI_nat (S : PS) (q z : Nat) : S.numI q (z : Int) = (S.num q z : Nat) := by cases S <;> rfl
theorem u64of_nat {z : Nat} (h : z < 18446744073709551616) : u64of (z : Int) = z := by unfold u64of; omega

theorem lay_u32 {l : List FldD} {gx m : Nat} {t : TypeId} {w0 w : World} {pv : Value} {S : PS} {q : Nat} {z : Int} (h : LayAt l gx t w0 pv S m w) (hx : l[m]? = some ⟨.u32, q, z⟩) (hz : 0 ≤ z ∧ z < 4294967296) (hq : 1 ≤ q) (hq4 : q ≤ 4) :
    Calls Try.prog 113 #[pv, .int .i64 q, .pointer (some ⟨gx, m, none⟩)] w fun e w' => e = .returned (.tuple #[]) ∧ LayAt l gx t w0 pv S (m + 1) w' := by
  obtain ⟨n, rfl⟩ := Int.eq_ofNat_of_zero_le hz.1
  have hn : n < 4294967296 := by omega
  refine (pnum_u32 (h.passed.port) h.row (h.passed.away gx h.size h.away) q hq hq4 (h.fits hx) (fieldsAt_get hx) hn).mono ?_
  rintro e w' ⟨rfl, h1, h2⟩
  refine ⟨rfl, h.next hx ?_ ?_⟩
  · rw [h1]
    show some (Obj.cells (Array.setIfInBounds _ m (Value.int .u32 _)) t (0, 0)) = some (Obj.cells (Array.setIfInBounds _ m (Value.int .u32 ((stS S (l.take m)).numI q (n : Int)))) t (0, 0))
    rw [numI_nat]
  · show Passed gx w pv _ w' ((stS S (l.take m)).next q (u64of (n : Int)))
    rw [u64of_nat (by omega)]
    exact h2
theorem lay_i64 {l : List FldD} {gx m : Nat} {t : TypeId} {w0 w : World} {pv : Value} {S : PS} {q : Nat} {z : Int} (h : LayAt l gx t w0 pv S m w) (hx : l[m]? = some ⟨.i64, q, z⟩) (hz : I64 z) (hq : 1 ≤ q) (hq4 : q ≤ 4) :
    Calls Try.prog 112 #[pv, .int .i64 q, .pointer (some ⟨gx, m, none⟩)] w fun e w' => e = .returned (.tuple #[]) ∧ LayAt l gx t w0 pv S (m + 1) w' := by
  refine (pnum_i64 (h.passed.port) h.row (h.passed.away gx h.size h.away) q hq hq4 (h.fits hx) (fieldsAt_get hx) hz).mono ?_
  rintro e w' ⟨rfl, h1, h2⟩
  exact ⟨rfl, h.next hx h1 h2⟩
end Go.Proofs.Ytgakidimipipeaa
namespace Go.Proofs.Ytgakidimipipeaa
open Go.RowKit Go.Sort
set_option linter.unusedVariables false
set_option linter.unusedSimpArgs false
set_option maxRecDepth 100000

def kindI (m : Nat) : IntKind := if m = 0 ∨ m = 1 ∨ m = 4 then .u32 else .i64
def widthI (m : Nat) : Nat := if m = 0 then 2 else if m = 2 then 1 else 4
def okZ (k : IntKind) (z : Int) : Prop := match k with
  | .u32 => 0 ≤ z ∧ z < 4294967296
  | .i64 => I64 z
  | _ => True
/-- The fields of an inode. -/
def IsInode (l : List FldD) : Prop := l.length = 15 ∧ ∀ m, m < 15 → ∃ z, l[m]? = some ⟨kindI m, widthI m, z⟩ ∧ okZ (kindI m) z

theorem owned_slice {w : World} {B : Nat} {e : TypeId} {size : Nat} {v : Value} {n : Nat} {xs : List Value} (h : w.ownsRow B e size v n xs) : ∃ a l c, v = .slice a l c := by
  obtain ⟨_, ⟨rfl, _⟩ | ⟨gc, cap, cur, rfl, _⟩⟩ := h
  · exact ⟨_, _, _, rfl⟩
  · exact ⟨_, _, _, rfl⟩

/-! ### part.Write -/
theorem isPort_new (w : World) : IsPort (w.alloc (.cells #[.slice none 0 0, .bool false] 204)) (.iface 205 (.pointer (some ⟨w.heap.size, 0, none⟩))) (.wr [] false) :=
  ⟨w.heap.size, .slice none 0 0, rfl, heap_alloc_new w _, owns_nil 0 _⟩
theorem away_new (w : World) {k : Nat} (hk : k < w.heap.size) : Away (w.alloc (.cells #[.slice none 0 0, .bool false] 204)) (.iface 205 (.pointer (some ⟨w.heap.size, 0, none⟩))) (.wr [] false) k :=
  (away_wr (v := .slice none 0 0) ⟨heap_alloc_new w _, owns_nil 0 _⟩).2 ⟨by omega, by intro e; cases e⟩
theorem stS_wr : ∀ (l : List FldD) (b : List Nat) (f : Bool), ∃ b' f', stS (.wr b f) l = .wr b' f'
  | [], b, f => ⟨b, f, rfl⟩
  | x :: l, b, f => by
    show ∃ b' f', stS (PS.next (.wr b f) x.width (u64of x.z)) l = .wr b' f'
    unfold PS.next
    dsimp only
    split
    · exact stS_wr l _ _
    · exact stS_wr l _ _
/-- What is written of fields, and whether one had no room. -/
def wrB (l : List FldD) : List Nat := match stS (.wr [] false) l with | .wr b _ => b | .rd _ => []
def wrF (l : List FldD) : Bool := match stS (.wr [] false) l with | .wr _ f => f | .rd _ => true
theorem stS_is (l : List FldD) : stS (.wr [] false) l = .wr (wrB l) (wrF l) := by
  obtain ⟨b, f, e⟩ := stS_wr l [] false
  unfold wrB wrF
  rw [e]
theorem owns_raise {B : Nat} {w : World} {v : Value} {l : List Nat} (h : Owns 0 w v l) (hB : ∀ k, k < B → v.ownBlock ≠ some k) : Owns B w v l := by
  obtain ⟨h1, h2, h3⟩ := h
  refine ⟨h1, h2, ?_⟩
  rcases h3 with h3 | ⟨g, cap, cur, rfl, _, r⟩
  · exact .inl h3
  · exact .inr ⟨g, cap, cur, rfl, Nat.le_of_not_lt fun hg => hB g hg rfl, r⟩

/-! ### part.Read -/
theorem isPort_rd {w : World} {a : Option Addr} {b : List Nat} {cap : Nat} (hr : Reads w a b.length b) (hc : b.length ≤ cap) (hm : cap ≤ maxLen) : IsPort (w.alloc (.cells #[.slice a b.length cap] 220)) (.iface 218 (.pointer (some ⟨w.heap.size, 0, none⟩))) (.rd b) := by
  refine ⟨w.heap.size, a, cap, rfl, heap_alloc_new w _, hr.alloc _, hc, hm, fun hb x hx => ?_⟩
  obtain ⟨_, _, h | ⟨blk, off, rfl, hlt, _⟩⟩ := hr
  · exact absurd h hb
  · cases hx; exact Nat.ne_of_lt hlt
theorem away_rd_new {w : World} {a : Option Addr} {b : List Nat} {cap : Nat} (hr : Reads w a b.length b) (hc : b.length ≤ cap) (hm : cap ≤ maxLen) {k : Nat} (hk : k < w.heap.size) (hne : b ≠ [] → ∀ x, a = some x → x.block ≠ k) :
    Away (w.alloc (.cells #[.slice a b.length cap] 220)) (.iface 218 (.pointer (some ⟨w.heap.size, 0, none⟩))) (.rd b) k := by
  obtain ⟨g, a', cap', he, h⟩ := isPort_rd hr hc hm
  obtain rfl : g = w.heap.size := by cases he; rfl
  refine (away_rd h).2 ⟨by omega, fun hb x hx => ?_⟩
  have h2 : IsRd (w.alloc (.cells #[.slice a b.length cap] 220)) w.heap.size a cap b := ⟨heap_alloc_new w _, hr.alloc _, hc, hm, fun hb x hx => by
    obtain ⟨_, _, h | ⟨blk, off, rfl, hlt, _⟩⟩ := hr
    · exact absurd h hb
    · cases hx; exact Nat.ne_of_lt hlt⟩
  obtain ⟨rfl, _⟩ := h.same h2
  exact hne hb x hx

/-- No inode. -/
def zeroI : List FldD := (List.range 15).map fun m => ⟨kindI m, widthI m, 0⟩
theorem zeroI_is : IsInode zeroI := by
  refine ⟨rfl, fun m hm => ⟨0, ?_, ?_⟩⟩
  · unfold zeroI
    rw [List.getElem?_map, List.getElem?_range hm]
    rfl
  · unfold okZ I64
    split <;> first | trivial | omega
/-- What is read of bytes. -/
def rdI (b : List Nat) : List FldD := stO (.rd b) zeroI
theorem stO_rd : ∀ (l : List FldD) (b : List Nat), Bytes b → (∀ x ∈ l, x.width ≤ 4) → ∀ (m : Nat) (x : FldD), l[m]? = some x → ∃ z : Int, (stO (.rd b) l)[m]? = some ⟨x.kind, x.width, z⟩ ∧ 0 ≤ z ∧ z < 4294967296
  | [], _, _, _, m, x, h => by simp at h
  | y :: l, b, hb, hw, 0, x, h => by
    simp only [List.getElem?_cons_zero, Option.some.injEq] at h
    subst h
    have h1 := num_lt hb y.width 0 (by have := hw y (List.mem_cons_self ..); omega)
    have h2 : 256 ^ y.width ≤ 4294967296 := Nat.le_trans (Nat.pow_le_pow_right (by omega) (hw y (List.mem_cons_self ..))) (by decide)
    exact ⟨_, rfl, Int.natCast_nonneg _, by show ((PS.num (.rd b) y.width 0 : Nat) : Int) < _; omega⟩
  | y :: l, b, hb, hw, m + 1, x, h => by
    have e : ∃ b', PS.next (.rd b) y.width (u64of y.z) = .rd b' ∧ Bytes b' := by
      unfold PS.next
      dsimp only
      split
      · exact ⟨_, rfl, hb.drop _⟩
      · exact ⟨_, rfl, by intro x hx; simp at hx⟩
    obtain ⟨b', e, hb'⟩ := e
    show ∃ z, (stO (PS.next (.rd b) y.width (u64of y.z)) l)[m]? = _ ∧ _
    rw [e]
    exact stO_rd l b' hb' (fun x hx => hw x (List.mem_cons_of_mem _ hx)) m x (by simpa using h)
theorem zeroI_width : ∀ x ∈ zeroI, x.width ≤ 4 := by decide
theorem rdI_is {b : List Nat} (hb : Bytes b) : IsInode (rdI b) := by
  refine ⟨by unfold rdI; rw [stO_length]; rfl, fun m hm => ?_⟩
  obtain ⟨z0, e0, _⟩ := zeroI_is.2 m hm
  obtain ⟨z, e, h1, h2⟩ := stO_rd zeroI b hb zeroI_width m _ e0
  refine ⟨z, e, ?_⟩
  unfold okZ I64
  split <;> first | trivial | omega

theorem cellsF_size (l : List FldD) : (cellsF l).size = l.length := by simp [cellsF]
theorem cellsF_one (l : List FldD) : (cellsF l).all (·.oneCell') = true := by
  refine Array.all_eq_true_iff_forall_mem.2 fun v hv => ?_
  simp only [cellsF, List.mem_toArray, List.mem_map] at hv
  obtain ⟨x, _, rfl⟩ := hv
  rfl
theorem row_range {w : World} {g : Nat} {cs : Array Value} {t : TypeId} (h : w.heap[g]? = some (.cells cs t (0, 0))) : w.rangeAt g 0 cs.toList := fun j v hv => by
  rw [Nat.zero_add, cell_of_row h, ← hv]
  simp

end Go.Proofs.Ytgakidimipipeaa
