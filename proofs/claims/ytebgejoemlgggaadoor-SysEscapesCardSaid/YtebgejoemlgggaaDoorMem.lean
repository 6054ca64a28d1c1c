/- Bytes that a call owns: append onto them, by one law for whatever source; ref.Copy, ref.Equal, ref.Low by their walks. The document's own answers on numbers in bytes (Has, Low, Put), by their walks. Writing a number into bytes: num.Put by its walk. -/
import Derived.Test.YtebgejoemlgggaaDoorNumB
import Derived.Laws.AppendOwnNone
import Derived.Deep.QuietTactic
import Derived.BigQuiet
import Derived.Laws.CopyRow
namespace Go.Proofs.YtebgejoemlgggaaDoor
open Go.RowKit
set_option linter.unusedVariables false
set_option maxRecDepth 100000

def byteV (x : Nat) : Value := .int .u8 (x : Int)
theorem byteV_oneCell (l : List Nat) : ∀ u ∈ l.map byteV, u.oneCell' = true := by
  intro u hu
  simp only [List.mem_map] at hu
  obtain ⟨x, _, rfl⟩ := hu
  rfl

/-- These bytes are the call's own: the slice's row begins at block B or behind it. -/
def Owns (B : Nat) (w : World) (v : Value) (l : List Nat) : Prop := Bytes l ∧ w.ownsRow B 5 1 v l.length (l.map byteV)

theorem info_u8 : (Tryd.prog.info? 5).map (fun i => (i.zero, i.size, i.bytes)) = some (some (.int .u8 0), 1, 1) := by kernel_rfl

theorem run_append_nothing {P : Program} {w : World} (base : Nat) (t ty e : TypeId) (i : TypeInfo) (size : Nat) (ht : P.underlying t = some (.slice e)) (hi : P.info? e = some i)
    (v : Value) (n : Nat) (xs : List Value) (hown : w.ownsRow base e size v n xs) (c : Nat) :
    (Builtin.append_ #[t, t] ty #[v, .slice none 0 c]).run P w = .ok v w := by
  rcases hown.2 with ⟨rfl, rfl⟩ | ⟨g, cap, cur, rfl, _, _, hnc, _⟩
  · simp [Builtin.append_, run_underlying ht, sizeOf, typeInfo, hi, Builtin.lenOf, Builtin.firstCells]
  · simp [Builtin.append_, run_underlying ht, sizeOf, typeInfo, hi, Builtin.lenOf, Builtin.firstCells, hnc, storeCells]

/-- 'append(own, bytes...)', whatever slice the bytes lie in. -/
theorem wpList_append_bytes {w : World} {ops : Array Oper} {rest : List Oper} {o : Oper} {a : Act} {Q : Exit → Act → World → Prop} (hgd : o.guard = none) (s x : Operand)
    (ho : o.op = .call { callee := .builtin .append, args := #[s, x], argTypes := #[22, 22] })
    (B : Nat) (v : Value) (l : List Nat) (hs : a.eval s = v) (hown : Owns B w v l) (sa : Option Addr) (m c : Nat) (hx : a.eval x = .slice sa m c) (news : List Nat) (hr : Reads w sa m news)
    (hb : l.length + m ≤ 140737488355328) (hB : B ≤ w.heap.size)
    (h : ∀ v' w', Owns B w' v' (l ++ news) → w.grownBy w' v.ownBlock → wpList Tryd.prog ops Q rest (a.put o.dst v') w') : wpList Tryd.prog ops Q (o :: rest) a w := by
  obtain ⟨hl, hown⟩ := hown
  obtain ⟨hlen, hbs, hr⟩ := hr
  obtain ⟨i0, hi, hz0, hz1, hz2⟩ := info_parts info_u8
  have close : ∀ v' w', w'.ownsRow B 5 1 v' (l.length + m) (l.map byteV ++ news.map byteV) → Owns B w' v' (l ++ news) := fun v' w' h' => by
    refine ⟨hl.append hbs, ?_⟩
    rw [List.length_append, hlen, List.map_append]
    exact h'
  cases sa with
  | none =>
    have hn : news = [] := by
      rcases hr with rfl | ⟨b, off, he, _⟩
      · rfl
      · cases he
    subst hn
    obtain rfl : m = 0 := by simpa using hlen.symm
    refine wpList_plain hgd fun K hK => ?_
    have hrun := run_append_nothing (P := Tryd.prog) (w := w) B 22 o.type 5 i0 1 Tryd.underlying22 hi v _ _ hown c
    unfold Oper.wp
    simp [execOp, ho, resolve, invoke, builtin, hs, hx, hrun, Result.andThen]
    exact hK _ _ (h _ _ (close _ _ (by simpa using hown)) ⟨rfl, rfl, rfl, Nat.le_refl _, fun _ _ _ => rfl⟩)
  | some ad =>
    refine wpList_append_own w hgd s x 22 ho B 5 i0 (.int .u8 0) 1 1 Tryd.underlying22 hi hz0 hz1 hz2 rfl (by decide) v l.length (l.map byteV) hs hown ad m c (news.map byteV) hx (by simp [hlen])
      ?_ (byteV_oneCell _) (by unfold maxLen; omega) (by omega) hB (fun v' w' h1 h2 _ => h v' w' (close _ _ h1) h2)
    intro j u hu
    rcases hr with rfl | ⟨b, off, he, _, hc⟩
    · simp at hu
    · cases he
      simp only [List.getElem?_map, Option.map_eq_some_iff] at hu
      obtain ⟨y, hy, rfl⟩ := hu
      have hj : j < m := by rw [← hlen]; exact (List.getElem?_eq_some_iff.1 hy).1
      have hadd : (⟨b, off, none⟩ : Addr).add j = ⟨b, off + j, none⟩ := by unfold Addr.add; split <;> simp_all
      rw [hadd, hc j hj]
      simp [List.getD, hy, byteV]

/-- What is owned reads as what it is. -/
theorem Owns.reads {B : Nat} {w : World} {v : Value} {l : List Nat} (h : Owns B w v l) : ∃ a cap, v = .slice a l.length cap ∧ Reads w a l.length l ∧ l.length ≤ cap ∧ cap ≤ maxLen := by
  obtain ⟨hl, hlen, h⟩ := h
  rcases h with ⟨rfl, hn⟩ | ⟨g, cap, cur, rfl, hb, hg, hc, hm, hs, ht⟩
  · exact ⟨none, 0, by rw [hn], ⟨rfl, hl, .inl (List.length_eq_zero_iff.1 hn)⟩, by omega, by omega⟩
  · refine ⟨_, cap, rfl, ⟨rfl, hl, .inr ⟨g, 0, rfl, (Array.getElem?_eq_some_iff.1 hg).1, fun i hi => ?_⟩⟩, hc, hm⟩
    have h1 : (l.map byteV)[i]? = some (byteV (l.getD i 0)) := by simp [List.getD, List.getElem?_eq_getElem hi]
    rw [← ht, List.getElem?_take, if_pos (by omega)] at h1
    simpa [World.cell?, hg, byteV] using h1

/-- What reads as bytes still does where nothing that was there has changed. -/
theorem Reads.below {w w' : World} {a : Option Addr} {len : Nat} {l : List Nat} (h : Reads w a len l) (hb : Below w.heap.size w w') : Reads w' a len l := by
  obtain ⟨h1, h2, h3⟩ := h
  refine ⟨h1, h2, ?_⟩
  rcases h3 with h3 | ⟨b, off, he, hbl, hcc⟩
  · exact .inl h3
  · exact .inr ⟨b, off, he, Nat.lt_of_lt_of_le hbl hb.size, fun i hi => by rw [hb.cell (p := ⟨b, off + i, none⟩) hbl]; exact hcc i hi⟩
theorem Reads.alloc {w : World} {a : Option Addr} {len : Nat} {l : List Nat} (h : Reads w a len l) (o : Obj) : Reads (w.alloc o) a len l :=
  h.below ((Below.refl _ _).alloc (Nat.le_refl _) o)

theorem owns_new (w : World) : Owns w.heap.size (w.alloc (.cells #[] 5)) (.slice (some ⟨w.heap.size, 0, none⟩) 0 0) [] :=
  ⟨by intro x hx; simp at hx, World.ownsRow_made w #[] 0 (Nat.le_refl _) (by decide) rfl⟩

theorem copy_any (a : Option Addr) (len cap : Nat) (l : List Nat) (w : World) (hr : Reads w a len l) (hl : len ≤ 140737488355328) :
    Calls Tryd.prog 20 #[.slice a len cap] w fun e w' => ∃ v, e = .returned v ∧ Owns w.heap.size w' v l ∧ Below w.heap.size w w' := by
  have ho := owns_new w
  have hr' := hr.alloc (.cells #[] 5)
  go_enter Tryd.func20, Tryd.ntmps20
  go_wp2_with (at_builtin; refine wpList_append_bytes rfl _ _ rfl w.heap.size (.slice (some ⟨w.heap.size, 0, none⟩) 0 0) [] rfl ho _ _ _ rfl l hr' (by simpa using hl) (by simp) ?_; intro v' w' h1 h2)
  go_ret
  exact ⟨_, rfl, h1, ((Below.refl _ _).alloc (Nat.le_refl _) _).grown h2 (by simp) (fun k hk => (ho.2.lt k hk).1)⟩

/-- Equal's walk: two slices of bytes, whatever they lie in. -/
def sameB (l l' : List Nat) : Bool := decide (l = l')

theorem sameB_no {l l' : List Nat} {k : Nat} (h : (((l[k]?.getD 0 : Nat) : Int) != ((l'[k]?.getD 0 : Nat) : Int)) = true) : sameB l l' = false := by
  unfold sameB
  apply decide_eq_false
  rintro rfl
  simp at h
theorem same_step {l l' : List Nat} {k : Nat} (h1 : k < l.length) (h2 : k < l'.length) (h : Hid (l.take k = l'.take k)) (he : (((l[k]?.getD 0 : Nat) : Int) != ((l'[k]?.getD 0 : Nat) : Int)) = false) : Hid (l.take (k + 1) = l'.take (k + 1)) := by
  show _ = _
  have he' : l[k]?.getD 0 = l'[k]?.getD 0 := by simp at he; exact_mod_cast he
  rw [take_snoc_getD l k h1, take_snoc_getD l' k h2, h.out]
  simp [List.getD, he']

theorem equal_unlike_size (a a' : Option Addr) (len len' cap cap' : Nat) (w : World) (h : len ≠ len') :
    Calls Tryd.prog 23 #[.slice a len cap, .slice a' len' cap'] w fun e w' => e = .returned (.bool false) ∧ w = w' := by
  have ht : (!decide ((len : Int) = len')) = true := by simp; omega
  have ht' : ((len : Int) != len') = true := by simp; omega
  go_enter Tryd.func23, Tryd.ntmps23
  go_wp2
  go_ret
  exact ⟨rfl, rfl⟩

theorem equal_alike (a a' : Option Addr) (len cap cap' : Nat) (l l' : List Nat) (w : World) (hr : Reads w a len l) (hr' : Reads w a' len l') (hm : len ≤ maxLen) :
    Calls Tryd.prog 23 #[.slice a len cap, .slice a' len cap'] w fun e w' => e = .returned (.bool (sameB l l')) ∧ ∃ n, w.drewN n = w' := by
  have hm' : len ≤ 9223372036854775807 := by unfold maxLen at hm; omega
  have ht : ((len : Int) != len) = false := by simp
  obtain ⟨hl1, hl2, hl3⟩ := hr
  obtain ⟨hk1, hk2, hk3⟩ := hr'
  have HL := Lib.hid hl1
  have HK := Lib.hid hk1
  clear hl1 hk1
  go_enter Tryd.func23, Tryd.ntmps23
  go_wp2
  go_loopw [5] (fun i wr => ∃ k n : Nat, k ≤ len ∧ i = .int .i64 k ∧ Hid (w.drewN n = wr) ∧ Hid (l.take k = l'.take k)) (fun i _ => len - (intOf i).toNat)
  case atStart => exact ⟨0, 0, by omega, rfl, rfl, rfl⟩
  case round =>
    obtain ⟨k, n, hk, rfl, H, HE⟩ := hrel
    by_cases hlt : k < len
    · have h3 : ∃ b off, a = some ⟨b, off, none⟩ ∧ wr.cell? ⟨b, off + k, none⟩ = some (.int .u8 ((l.getD k 0 : Nat) : Int)) := by
        rcases hl3 with rfl | ⟨b, off, e, _, hc⟩
        · have := HL.out; simp at this; omega
        · exact ⟨b, off, e, by rw [← H.out, World.cell?_drewN]; exact hc k hlt⟩
      have h4 : ∃ b off, a' = some ⟨b, off, none⟩ ∧ wr.cell? ⟨b, off + k, none⟩ = some (.int .u8 ((l'.getD k 0 : Nat) : Int)) := by
        rcases hk3 with rfl | ⟨b, off, e, _, hc⟩
        · have := HK.out; simp at this; omega
        · exact ⟨b, off, e, by rw [← H.out, World.cell?_drewN]; exact hc k hlt⟩
      clear hl3 hk3
      obtain ⟨b, off, rfl, hc⟩ := h3
      obtain ⟨b', off', rfl, hc'⟩ := h4
      have hx1 : (0 : Int) ≤ (k : Int) := by omega
      have hx2 : (k : Int) < (len : Int) := by omega
      go_wp2
      go_quiet (fail)
      go_wp2
      · have hne : (((l[k]?.getD 0 : Nat) : Int) != ((l'[k]?.getD 0 : Nat) : Int)) = true := by assumption
        have hno := sameB_no (k := k) hne
        go_ret
        exact ⟨by first | rfl | (rw [hno]; rfl), n + nq, by rw [← H.out, World.drewN_drewN]⟩
      · have heq : (((l[k]?.getD 0 : Nat) : Int) != ((l'[k]?.getD 0 : Nat) : Int)) = false := by assumption
        go_roundw
        case rel => exact ⟨k + 1, n + nq, by omega, by go_num, by show _ = _; rw [← H.out, World.drewN_drewN], same_step (by have := HL.out; omega) (by have := HK.out; omega) HE heq⟩
        case measure => simp [intOf]; omega
    · have hyes : sameB l l' = true := by
        have e : k = len := by omega
        have h1 := HE.out
        rw [List.take_of_length_le (by have := HL.out; omega), List.take_of_length_le (by have := HK.out; omega)] at h1
        simp [sameB, h1]
      go_wp2
      go_ret
      exact ⟨by first | rfl | (rw [hyes]; rfl), n, H.out⟩
end Go.Proofs.YtebgejoemlgggaaDoor
namespace Go.Proofs.YtebgejoemlgggaaDoor
open Go.RowKit
set_option linter.unusedVariables false
set_option maxRecDepth 100000

/-- has a number room in so many bytes? -/
def hasB (q : Int) (n : Nat) : Bool := decide (1 ≤ q ∧ q ≤ 8 ∧ n < 256 ^ q.toNat)
theorem hasB_no {q : Int} {n : Nat} (h : ¬ (1 ≤ q ∧ q ≤ 8)) : hasB q n = false := by
  unfold hasB; apply decide_eq_false; rintro ⟨h1, h2, _⟩; exact h ⟨h1, h2⟩
theorem hasB_end {q n : Nat} (h1 : 1 ≤ q) (h2 : q ≤ 8) : (((n / 256 ^ q : Nat) : Int) == 0) = hasB q n := by
  unfold hasB
  rw [Bool.eq_iff_iff]
  simp only [beq_iff_eq, decide_eq_true_eq, Int.toNat_natCast]
  have hp : 0 < 256 ^ q := Nat.pow_pos (by decide)
  constructor
  · intro h
    have h0 : n / 256 ^ q = 0 := by omega
    exact ⟨by omega, by omega, (Nat.div_eq_zero_iff_lt hp).1 h0⟩
  · rintro ⟨_, _, h⟩
    rw [Nat.div_eq_of_lt h]; rfl

theorem reads_one (w : World) (x : Nat) (hx : x < 256) : Reads (w.alloc (.cells #[byteV x] 5)) (some ⟨w.heap.size, 0, none⟩) 1 [x] := by
  refine ⟨rfl, by intro y hy; simp at hy; omega, .inr ⟨w.heap.size, 0, rfl, by simp, fun i hi => ?_⟩⟩
  have : i = 0 := by omega
  subst this
  unfold World.cell?
  rw [heap_alloc_new]
  rfl

theorem Owns.alloc {B : Nat} {w : World} {v : Value} {l : List Nat} (h : Owns B w v l) (o : Obj) : Owns B (w.alloc o) v l := ⟨h.1, h.2.alloc o⟩
theorem Owns.lt {B : Nat} {w : World} {v : Value} {l : List Nat} (h : Owns B w v l) : ∀ k, v.ownBlock = some k → B ≤ k := fun k hk => (h.2.lt k hk).1
theorem owns_nil (B : Nat) (w : World) : Owns B w (.slice none 0 0) [] := ⟨by intro x hx; simp at hx, World.ownsRow_nil w B 5 1⟩

theorem Owns.below {B : Nat} {w w' : World} {v : Value} {l : List Nat} (h : Owns B w v l) (hb : Below w.heap.size w w') : Owns B w' v l := by
  obtain ⟨h1, h2, h3⟩ := h
  refine ⟨h1, h2, ?_⟩
  rcases h3 with h3 | ⟨g, cap, cur, hv, hg, hh, r⟩
  · exact .inl h3
  · exact .inr ⟨g, cap, cur, hv, hg, by rw [hb.block g (Array.getElem?_eq_some_iff.1 hh).1]; exact hh, r⟩
theorem Reads.take {w : World} {a : Option Addr} {len : Nat} {l : List Nat} (h : Reads w a len l) (p : Nat) (hp : p ≤ len) : Reads w a p (l.take p) := by
  obtain ⟨h1, h2, h3⟩ := h
  refine ⟨by simp; omega, h2.take p, ?_⟩
  rcases h3 with rfl | ⟨b, off, he, hbl, hcc⟩
  · left; simp
  · refine .inr ⟨b, off, he, hbl, fun i hi => ?_⟩
    rw [hcc i (by omega)]
    simp [List.getD, hi]
/-- The rest of a slice, at the address that the walk reckons. -/
theorem Reads.rest {w : World} {b off len : Nat} {l : List Nat} (h : Reads w (some ⟨b, off, none⟩) len l) (p : Nat) (hp : p ≤ len) (a' : Option Addr) (ha : p < len → a' = some ⟨b, off + p, none⟩) : Reads w a' (len - p) (l.drop p) := by
  by_cases hlt : p < len
  · have := h.part p (len - p) (by omega)
    rw [ha hlt]
    rw [List.take_of_length_le (by have := h.1; simp; omega)] at this
    exact this
  · obtain ⟨h1, h2, h3⟩ := h
    exact ⟨by simp; omega, h2.drop p, .inl (List.drop_of_length_le (by omega))⟩

/-- Bytes with a number in them. -/
def putL (l : List Nat) (p q n : Nat) : List Nat := l.take p ++ low n q ++ l.drop (p + q)

end Go.Proofs.YtebgejoemlgggaaDoor
namespace Go.Proofs.YtebgejoemlgggaaDoor
open Go.RowKit
set_option linter.unusedVariables false
set_option maxRecDepth 100000



/-- Cells with bytes in the place of some of them. -/
def laid (cur : Array Value) (at_ : Nat) (l : List Nat) : Array Value := (cur.toList.take at_ ++ l.map byteV ++ cur.toList.drop (at_ + l.length)).toArray

theorem laid_nil (cur : Array Value) (at_ : Nat) : laid cur at_ [] = cur := by simp [laid]
theorem laid_size (cur : Array Value) (at_ : Nat) (l : List Nat) (h : at_ + l.length ≤ cur.size) : (laid cur at_ l).size = cur.size := by
  simp [laid]; omega
theorem laid_snoc (cur : Array Value) (at_ : Nat) (l : List Nat) (x : Nat) (h : at_ + l.length < cur.size) : (laid cur at_ l).setIfInBounds (at_ + l.length) (byteV x) = laid cur at_ (l ++ [x]) := by
  apply Array.ext'
  rw [Array.toList_setIfInBounds]
  simp only [laid, List.map_append, List.map_cons, List.map_nil, List.length_append, List.length_cons, List.length_nil]
  have h1 : (cur.toList.take at_ ++ l.map byteV).length = at_ + l.length := by simp; omega
  have h2 : cur.toList.drop (at_ + l.length) = (cur[at_ + l.length]) :: cur.toList.drop (at_ + (l.length + 1)) := by
    rw [List.drop_eq_getElem_cons (by simpa using h)]
    simp [Nat.add_assoc]
  rw [h2, List.set_append_right _ _ (by omega), h1]
  simp [List.append_assoc]

end Go.Proofs.YtebgejoemlgggaaDoor
