/- A disk's cache comes to it, or is lost: Arm, Flush, Crash, by their walks. The document's disk, as a value: its small calls, told by their walks. A crash of the disk, by its walk. A disk is made, its queue told, and written to, by their walks. A disk's queue, told by its walk. Append of bytes at a step of a region that draws its order. -/
import Derived.Test.YtebkkbmplndcpaaGhakficfo
import Derived.Lib.MinMax
import Derived.Laws.MakeOwn
import Derived.Test.YtebkkbmplndcpaaGbgmncbfe
import Derived.Deep.RegionHeld3
import Derived.Deep.RegionLaw
namespace Go.Proofs.Ytebkkbmplndcpaa
open Go.RowKit Go.Sort
set_option linter.unusedVariables false
set_option maxRecDepth 100000

/-- Nothing but the disk's own blocks has changed. -/
structure DKeeps (g gs : Nat) (cv : Value) (w w' : World) : Prop where
  os : w'.os = w.os
  tape : w'.tape = w.tape
  output : w'.output = w.output
  size : w.heap.size ≤ w'.heap.size
  block : ∀ k, k < w.heap.size → k ≠ g → k ≠ gs → cv.ownBlock ≠ some k → w'.heap[k]? = w.heap[k]?
theorem DKeeps.refl (g gs : Nat) (cv : Value) (w : World) : DKeeps g gs cv w w := ⟨rfl, rfl, rfl, Nat.le_refl _, fun _ _ _ _ _ => rfl⟩
theorem DKeeps.of_g {g gs : Nat} {cv : Value} {w w' : World} (o : Only g w w') : DKeeps g gs cv w w' := ⟨o.os, o.tape, o.output, by rw [o.size]; exact Nat.le_refl _, fun k _ h _ _ => o.block k h⟩
theorem DKeeps.of_gs {g gs : Nat} {cv : Value} {w w' : World} (o : Only gs w w') : DKeeps g gs cv w w' := ⟨o.os, o.tape, o.output, by rw [o.size]; exact Nat.le_refl _, fun k _ _ h _ => o.block k h⟩
theorem DKeeps.trans {g gs : Nat} {cv : Value} {a b c : World} (h : DKeeps g gs cv a b) (k : DKeeps g gs cv b c) : DKeeps g gs cv a c :=
  ⟨k.os.trans h.os, k.tape.trans h.tape, k.output.trans h.output, Nat.le_trans h.size k.size, fun i hi h1 h2 h3 => (k.block i (Nat.lt_of_lt_of_le hi h.size) h1 h2 h3).trans (h.block i hi h1 h2 h3)⟩
theorem deedD_junk (D : DiskD) : (deedD D).junk = D.junk := by unfold deedD; split <;> rfl
theorem deedD_room (D : DiskD) : (deedD D).room = D.room := by unfold deedD; split <;> rfl
theorem strikeD_ok {D : DiskD} (h : D.ok) : (strikeD D).ok := by
  obtain ⟨m1, m2, m3, m4, m5, m6, m7⟩ := h
  refine ⟨m1, m2, m3, m4, m5, m6, ?_⟩
  show (if D.armed && !strikeB D then D.left - 1 else D.left) ≤ _
  split <;> omega
theorem deedD_ok {D : DiskD} (h : D.ok) (hd : D.deeds < 1000000) : (deedD D).ok := by
  unfold deedD
  split
  · exact strikeD_ok h
  · obtain ⟨m1, m2, m3, m4, m5, m6, m7⟩ := strikeD_ok h
    exact ⟨m1, m2, m3, m4, m5, hd, m7⟩
theorem deedD_secs (D : DiskD) : (deedD D).secs = D.secs := by unfold deedD; split <;> rfl
theorem deedD_cache (D : DiskD) : (deedD D).cache = D.cache := by unfold deedD; split <;> rfl

def settles (l : List (Nat × List Nat)) (s : List (List Nat)) : List (List Nat) := l.foldl (fun s p => s.set p.1 p.2) s
theorem settles_snoc (l : List (Nat × List Nat)) (s : List (List Nat)) (p : Nat × List Nat) : settles (l ++ [p]) s = (settles l s).set p.1 p.2 := by simp [settles]
def flushD (D : DiskD) : DiskD := if strikeB D then strikeD D else { deedD D with secs := settles D.cache D.secs, cache := [] }

def armD (D : DiskD) (n : Int) : DiskD := if D.dead then D else { D with dead := false, armed := decide (0 ≤ n), left := n.toNat }
theorem armD_junk (D : DiskD) (n : Int) : (armD D n).junk = D.junk := by unfold armD; split <;> rfl
theorem armD_ok {D : DiskD} (h : D.ok) {n : Int} (hn : n ≤ 9223372036854775807) : (armD D n).ok := by
  unfold armD
  split
  · exact h
  · obtain ⟨m1, m2, m3, m4, m5, m6, m7⟩ := h
    exact ⟨m1, m2, m3, m4, m5, m6, by show n.toNat ≤ _; omega⟩
end Go.Proofs.Ytebkkbmplndcpaa

namespace Go.Proofs.Ytebkkbmplndcpaa
open Go.RowKit Go.Sort
set_option linter.unusedVariables false
set_option maxRecDepth 100000

/-- The document's disk by value. -/
def refV (sa : Option Addr) (sn sc : Nat) (qa : Option Addr) (qn qc : Nat) (dead : Bool) (arm deeds : Int) : Value := .agg #[.slice sa sn sc, .slice qa qn qc, .bool dead, .int .i64 arm, .int .i64 deeds]
def mayR (dead : Bool) (n : Nat) (at_ : Int) : Int := if at_ < 0 ∨ (n : Int) ≤ at_ then 1 else if dead then 20 else 0

end Go.Proofs.Ytebkkbmplndcpaa

namespace Go.Proofs.Ytebkkbmplndcpaa
open Go.RowKit Go.Sort
set_option linter.unusedVariables false
set_option maxRecDepth 100000

/-- The slice's elements are these truths. -/
def ReadsB (w : World) (a : Option Addr) (len : Nat) (l : List Bool) : Prop :=
  l.length = len ∧ (l = [] ∨ ∃ b off, a = some ⟨b, off, none⟩ ∧ b < w.heap.size ∧ ∀ i, i < len → w.cell? ⟨b, off + i, none⟩ = some (.bool (l.getD i false)))
/-- They lie in none of the disk's own blocks. -/
theorem ReadsB.keeps {g gs : Nat} {cv : Value} {w w' : World} {a : Option Addr} {len : Nat} {l : List Bool} (h : ReadsB w a len l) (k : DKeeps g gs cv w w') (hne : l ≠ [] → ∀ x, a = some x → x.block ≠ g ∧ x.block ≠ gs ∧ cv.ownBlock ≠ some x.block) : ReadsB w' a len l := by
  by_cases h0 : l = []
  · exact ⟨h.1, .inl h0⟩
  replace hne := hne h0
  obtain ⟨h1, h2⟩ := h
  refine ⟨h1, ?_⟩
  rcases h2 with h2 | ⟨b, off, rfl, hb, hc⟩
  · exact .inl h2
  · obtain ⟨n1, n2, n3⟩ := hne _ rfl
    exact .inr ⟨b, off, rfl, Nat.lt_of_lt_of_le hb k.size, fun i hi => (World.cell?_of_block (w := w) (a := ⟨b, off + i, none⟩) (k.block b hb n1 n2 n3)).trans (hc i hi)⟩

def keepsZ (z : List ((Nat × List Nat) × Bool)) : List (Nat × List Nat) := z.filterMap fun x => if x.2 then some x.1 else none
theorem keepsZ_snoc (z : List ((Nat × List Nat) × Bool)) (p : Nat × List Nat) (b : Bool) : keepsZ (z ++ [(p, b)]) = keepsZ z ++ (if b then [p] else []) := by
  cases b <;> simp [keepsZ]
def crashD (D : DiskD) (ks : List Bool) : DiskD := { D with dead := false, armed := false, left := 0, secs := settles (keepsZ (D.cache.zip ks)) D.secs, cache := [] }
theorem zip_take_succ {α β : Type} {l : List α} {m : List β} {k : Nat} {x : α} {y : β} (hx : l[k]? = some x) (hy : m[k]? = some y) : (l.zip m).take (k + 1) = (l.zip m).take k ++ [(x, y)] := by
  rw [List.take_add_one]
  congr 1
  have : (l.zip m)[k]? = some (x, y) := by
    rw [List.getElem?_zip_eq_some]
    exact ⟨hx, hy⟩
  rw [this]
  rfl

end Go.Proofs.Ytebkkbmplndcpaa

namespace Go.Proofs.Ytebkkbmplndcpaa
open Go.RowKit Go.Sort
set_option linter.unusedVariables false
set_option maxRecDepth 100000

/-- A list of numbers that the call made. -/
def OwnsI (B : Nat) (w : World) (a : Option Addr) (l : List Int) : Prop := (l = [] ∨ ∃ b, a = some ⟨b, 0, none⟩ ∧ B ≤ b ∧ w.heap[b]? = some (.cells (l.map (Value.int .i64)).toArray 3 (0, 0)))

def newD (n : Nat) : DiskD := ⟨false, false, 0, List.replicate n noughts, [], 0, n, []⟩
theorem run_make_rowN {P : Program} (t e : TypeId) (i : TypeInfo) (z : Value) (ht : P.underlying t = some (.slice e)) (hi : P.info? e = some i) (hz : i.zero = some z)
    (kl kc : IntKind) (n c : Nat) (hnc : n ≤ c) (hbytes : i.bytes * c ≤ 281474976710656) (h63 : c ≤ 9223372036854775807) (w : World) :
    (Instr.makeSlice t (.int kl (n : Int)) (.int kc (c : Int))).run P w = .ok (.slice (some ⟨w.heap.size, 0, none⟩) n c) (w.alloc (.cells (madeCells z.cells (c * i.size)) e)) := by
  have hb : (i.bytes : Int) * (c : Int) ≤ 281474976710656 := by
    have h : ((i.bytes * c : Nat) : Int) ≤ 281474976710656 := by omega
    rwa [Int.natCast_mul] at h
  have hr := run_make (P := P) w t e i z ht hi hz kl kc n c (by omega) (by omega) hb (by omega)
  simp only [Int.toNat_natCast] at hr
  exact hr

theorem made_noughts (n : Nat) : madeCells (cells noughts) (n * 128) = (secV (List.replicate n noughts)).toArray := by
  apply Array.ext_getElem?
  intro k
  have hl : (secV (List.replicate n noughts)).length = n * 128 := by
    have := flat_length (fun s => s.map byteV) 128 (List.replicate n noughts) (fun x hx => by rw [List.eq_of_mem_replicate hx]; rfl)
    rw [List.length_replicate] at this
    exact this
  have hall : ∀ u ∈ secV (List.replicate n noughts), u = byteV 0 := by
    intro u hu
    simp only [secV, List.mem_flatMap] at hu
    obtain ⟨s, hs, hu⟩ := hu
    rw [List.eq_of_mem_replicate hs] at hu
    simp only [noughts, List.map_replicate] at hu
    exact List.eq_of_mem_replicate hu
  by_cases hk : k < n * 128
  · have h1 : (secV (List.replicate n noughts)).toArray[k]? = some (byteV 0) := by
      rw [List.getElem?_toArray, List.getElem?_eq_getElem (by omega)]
      congr 1
      exact hall _ (List.getElem_mem _)
    rw [h1]
    unfold madeCells
    rw [Array.getElem?_map, Array.getElem?_range, if_pos hk]
    have hs : (cells noughts).size = 128 := rfl
    have hm : k % (cells noughts).size < (cells noughts).size := by rw [hs]; exact Nat.mod_lt _ (by decide)
    simp only [Option.map_some]
    rw [getElem!_pos (cells noughts) _ hm]
    congr 1
    have hz : ∀ u ∈ (cells noughts).toList, u = byteV 0 := by
      intro u hu
      have hu' : u ∈ noughts.map byteV := hu
      simp only [noughts, List.map_replicate] at hu'
      exact List.eq_of_mem_replicate hu'
    exact hz _ (by simp)
  · rw [Array.getElem?_eq_none (by rw [size_madeCells]; omega), Array.getElem?_eq_none (by simp; omega)]

theorem newD_ok {n : Nat} (h1 : 1 ≤ n) (h2 : n ≤ 65536) : (newD n).ok := by
  refine ⟨fun s hs => ?_, fun p hp => (by cases hp), ?_, ?_, Nat.zero_le _, Nat.zero_le _, Nat.zero_le _⟩
  · rw [List.eq_of_mem_replicate hs]
    exact ⟨rfl, by intro x hx; have := List.eq_of_mem_replicate hx; omega⟩
  · show 1 ≤ (List.replicate n noughts).length; simp; omega
  · show (List.replicate n noughts).length ≤ 65536; simp; omega

end Go.Proofs.Ytebkkbmplndcpaa

namespace Go.Proofs.Ytebkkbmplndcpaa
open Go.RowKit Go.Sort
set_option linter.unusedVariables false
set_option maxRecDepth 100000

def queueV (l : List (Nat × List Nat)) (k : Nat) : Array Value := ((l.take k).map (fun p => Value.int .i64 p.1) ++ List.replicate (l.length - k) (Value.int .i64 0)).toArray
theorem queueV_size {l : List (Nat × List Nat)} {k : Nat} (hk : k ≤ l.length) : (queueV l k).size = l.length := by simp [queueV]; omega
theorem queueV_step {l : List (Nat × List Nat)} {k : Nat} {p : Nat × List Nat} (hp : l[k]? = some p) : (queueV l k).setIfInBounds k (.int .i64 p.1) = queueV l (k + 1) := by
  have hk : k < l.length := (List.getElem?_eq_some_iff.1 hp).1
  have hlen : ((l.take k).map (fun p => Value.int .i64 p.1)).length = k := by simp; omega
  unfold queueV
  apply Array.ext'
  rw [Array.toList_setIfInBounds]
  simp only
  rw [List.set_append_right _ _ (by omega), hlen, Nat.sub_self, List.take_add_one, hp]
  rw [show l.length - k = (l.length - (k + 1)) + 1 by omega, List.replicate_succ]
  simp
theorem info_int : (Try.prog.info? 3).map (fun i => (i.zero, i.size, i.bytes)) = some (some (.int .i64 0), 1, 8) := by kernel_rfl

end Go.Proofs.Ytebkkbmplndcpaa

namespace Go.Proofs.Ytebkkbmplndcpaa
open Go.RowKit
set_option linter.unusedVariables false
set_option maxRecDepth 100000

theorem add_none (b off i : Nat) : (⟨b, off, none⟩ : Addr).add i = ⟨b, off + i, none⟩ := by unfold Addr.add; split <;> simp_all

/-- 'append(own, bytes...)' at a step of a region that draws its order. -/
theorem step_append_bytes {w : World} {ops : Array Oper} {o : Oper} {a : Act} {K : Act → World → Prop} {Q : Exit → Act → World → Prop} {E : Prop} (hgd : Region.wanted o (yielded ops a.tmps) = true) (s x : Operand)
    (ho : o.op = .call { callee := .builtin .append, args := #[s, x], argTypes := #[63, 63] })
    (B : Nat) (v : Value) (l : List Nat) (hs : a.eval s = v) (hown : Owns B w v l) (g off m c : Nat) (hx : a.eval x = .slice (some ⟨g, off, none⟩) m c) (news : List Nat) (hr : Reads w (some ⟨g, off, none⟩) m news) (hm0 : 0 < m)
    (hb : l.length + m ≤ 100000) (hB : B ≤ w.heap.size)
    (h : ∀ v' w', Owns B w' v' (l ++ news) → w.grownBy w' v.ownBlock → K (a.put o.dst v') w') :
    if Region.wanted o (yielded ops a.tmps) = true then Oper.wp Try.prog o a w K Q else E := by
  rw [if_pos hgd]
  obtain ⟨hl, hown⟩ := hown
  obtain ⟨hlen, hbs, hr⟩ := hr
  obtain ⟨i0, hi, hz0, hz1, hz2⟩ := info_parts info_u8
  refine wp_append_own w s x 63 ho B 5 i0 (.int .u8 0) 1 1 Try.underlying63 hi hz0 hz1 hz2 rfl (by decide) v l.length (l.map byteV) hs hown ⟨g, off, none⟩ m c (news.map byteV) hx (by simp [hlen])
      ?_ (byteV_oneCell _) (by unfold maxLen; omega) (by omega) hB (fun v' w' h1 h2 _ => h v' w' ⟨hl.append hbs, by rw [List.length_append, hlen, List.map_append]; exact h1⟩ h2)
  intro j u hu
  rcases hr with rfl | ⟨b', off', he, _, hc⟩
  · simp at hu
  · cases he
    simp only [List.getElem?_map, Option.map_eq_some_iff] at hu
    obtain ⟨y, hy, rfl⟩ := hu
    have hj : j < m := by rw [← hlen]; exact (List.getElem?_eq_some_iff.1 hy).1
    rw [add_none, hc j hj]
    simp [List.getD, hy, byteV]

theorem Reads.some_of {w : World} {a : Option Addr} {len : Nat} {l : List Nat} (h : Reads w a len l) (h0 : 0 < len) : ∃ b off, a = some ⟨b, off, none⟩ := by
  obtain ⟨h1, _, h3⟩ := h
  rcases h3 with rfl | ⟨b, off, rfl, _⟩
  · simp at h1; omega
  · exact ⟨b, off, rfl⟩
theorem Owns.mono {B B' : Nat} {w : World} {v : Value} {l : List Nat} (h : Owns B w v l) (hB : B' ≤ B) : Owns B' w v l := by
  obtain ⟨h1, h2, h3⟩ := h
  refine ⟨h1, h2, ?_⟩
  rcases h3 with h3 | ⟨g, cap, cur, hv, hb, rest⟩
  · exact .inl h3
  · exact .inr ⟨g, cap, cur, hv, Nat.le_trans hB hb, rest⟩
end Go.Proofs.Ytebkkbmplndcpaa
