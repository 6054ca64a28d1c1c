/- Lists of things laid through a port, one behind the other: what holds from round to round. Append of one row, at a step of a region that draws its order. A drawn region whose last operation waits for all the others, and may end what the loads rest on: S is asked behind each operation but the last. -/
import Derived.Test.YtebkkbmplndcpaaGefbojnje
import Derived.Test.YtebkkbmplndcpaaRowsOf
import Derived.Maps.AppendAt
import Derived.Deep.RegionHeld3
import Derived.Deep.RegionLaw
import Derived.Deep.RegionHeld
import Derived.StillTail
namespace Go.Proofs.Ytebkkbmplndcpaa
open Go.RowKit Go.Sort
set_option linter.unusedVariables false
set_option linter.unusedSimpArgs false
set_option maxRecDepth 100000

/-- The item that stands at i; behind the list, one of noughts. -/
def itemAt (z : List FldD) (L : List (List FldD)) (i : Nat) : List FldD := L.getD i z
def runS (z : List FldD) (L : List (List FldD)) (S : PS) : Nat → PS
  | 0 => S
  | i + 1 => stS (runS z L S i) (itemAt z L i)
def runD (z : List FldD) (L : List (List FldD)) (S : PS) : Nat → List (List FldD)
  | 0 => []
  | i + 1 => runD z L S i ++ [stO (runS z L S i) (itemAt z L i)]
theorem runD_length (z : List FldD) (L : List (List FldD)) (S : PS) : ∀ i, (runD z L S i).length = i
  | 0 => rfl
  | i + 1 => by show (_ ++ [_]).length = _; rw [List.length_append, runD_length z L S i]; rfl

theorem grown_alloc (w : World) (o : Obj) (row : Option Nat) : w.grownBy (w.alloc o) row := ⟨rfl, rfl, rfl, by simp, fun k hk _ => Below.heap_alloc _ _ _ (by omega)⟩

theorem owns_same {B : Nat} {w w' : World} {e : TypeId} {k : Nat} {v : Value} {l : List (List Value)} (h : OwnsR' B w e k v l) (hb : ∀ j, v.ownBlock = some j → w'.heap[j]? = w.heap[j]?) : OwnsR' B w' e k v l := by
  obtain ⟨h0, h1, ⟨rfl, h2⟩ | ⟨g, cap, cur, rfl, hbb, hg, hc, hm, hsz, ht⟩⟩ := h
  · exact ⟨h0, h1, .inl ⟨rfl, h2⟩⟩
  · exact ⟨h0, h1, .inr ⟨g, cap, cur, rfl, hbb, (hb g rfl).trans hg, hc, hm, hsz, ht⟩⟩
/-- 'append(all, x)', one row, with where the new slice lies. -/
theorem wpList_append_row_at {P : Program} {w : World} {ops : Array Oper} {rest : List Oper} {o : Oper} {a : Act} {Q : Exit → Act → World → Prop} (hgd : o.guard = none) (s x : Operand) (t : TypeId)
    (ho : o.op = .call { callee := .builtin .append, args := #[s, x], argTypes := #[t, t] })
    (B : Nat) (e : TypeId) (z : Value) (k bytes : Nat) (ht : P.underlying t = some (.slice e)) (hinfo : (P.info? e).map (fun i => (i.zero, i.size, i.bytes)) = some (some z, k, bytes)) (hzs : z.cells.size = k) (hk : 0 < k)
    (v : Value) (l : List (List Value)) (hs : a.eval s = v) (hown : OwnsR' B w e k v l) (g c : Nat) (r : List Value) (hx : a.eval x = .slice (some ⟨g, 0, none⟩) 1 c) (hrl : r.length = k) (hr : ∀ j u, r[j]? = some u → w.cell? ⟨g, j, none⟩ = some u) (hone : ∀ u ∈ r, u.oneCell' = true)
    (hb : (l.length + 1) * bytes ≤ 140737488355328) (hb2 : l.length + 1 ≤ maxLen) (hB : B ≤ w.heap.size)
    (h : ∀ v' w', OwnsR' B w' e k v' (l ++ [r]) → w.grownBy w' v.ownBlock → (v'.ownBlock = v.ownBlock ∨ v'.ownBlock = some w.heap.size) → wpList P ops Q rest (a.put o.dst v') w') : wpList P ops Q (o :: rest) a w := by
  obtain ⟨i0, hi, hz0, hz1, hz2⟩ := info_parts hinfo
  refine wpList_append_own_at w hgd s x t ho B e i0 z k bytes ht hi hz0 hz1 hz2 hzs hk v l.length (flatR l) hs hown.2 ⟨g, 0, none⟩ 1 c r hx (by rw [hrl, Nat.one_mul]) ?_ hone hb2 hb hB ?_
  · intro j u hu
    have hadd : (⟨g, 0, none⟩ : Addr).add j = ⟨g, j, none⟩ := by unfold Addr.add; split <;> simp_all
    rw [hadd]
    exact hr j u hu
  · intro v' w' h1 h2 _ h4
    refine h v' w' ⟨?_, ?_⟩ h2 h4
    · intro p hp
      rcases List.mem_append.1 hp with hp | hp
      · exact hown.1 p hp
      · obtain rfl : p = r := by simpa using hp
        exact hrl
    · rw [List.length_append, flatR_append]
      have e : flatR [r] = r := by simp [flatR]
      rw [e]
      exact h1
theorem below_grown0 {w w' : World} (h : Below w.heap.size w w') : w.grownBy w' none := ⟨h.os, h.tape, h.output, h.size, fun k hk _ => h.block k hk⟩
end Go.Proofs.Ytebkkbmplndcpaa

namespace Go.Proofs.Ytebkkbmplndcpaa
open Go.RowKit
set_option linter.unusedVariables false
set_option maxRecDepth 100000

theorem step_append_row_at {P : Program} {w : World} {ops : Array Oper} {o : Oper} {a : Act} {K : Act → World → Prop} {Q : Exit → Act → World → Prop} {E : Prop} (hgd : Region.wanted o (yielded ops a.tmps) = true) (s x : Operand) (t : TypeId)
    (ho : o.op = .call { callee := .builtin .append, args := #[s, x], argTypes := #[t, t] })
    (B : Nat) (e : TypeId) (z : Value) (k bytes : Nat) (ht : P.underlying t = some (.slice e)) (hinfo : (P.info? e).map (fun i => (i.zero, i.size, i.bytes)) = some (some z, k, bytes)) (hzs : z.cells.size = k) (hk : 0 < k)
    (v : Value) (l : List (List Value)) (hs : a.eval s = v) (hown : OwnsR' B w e k v l) (g c : Nat) (r : List Value) (hx : a.eval x = .slice (some ⟨g, 0, none⟩) 1 c) (hrl : r.length = k) (hr : ∀ j u, r[j]? = some u → w.cell? ⟨g, j, none⟩ = some u) (hone : ∀ u ∈ r, u.oneCell' = true)
    (hb : (l.length + 1) * bytes ≤ 140737488355328) (hb2 : l.length + 1 ≤ maxLen) (hB : B ≤ w.heap.size)
    (h : ∀ v' w', OwnsR' B w' e k v' (l ++ [r]) → w.grownBy w' v.ownBlock → K (a.put o.dst v') w') : if Region.wanted o (yielded ops a.tmps) = true then Oper.wp P o a w K Q else E := by
  rw [if_pos hgd]
  obtain ⟨i0, hi, hz0, hz1, hz2⟩ := info_parts hinfo
  refine wp_append_own w s x t ho B e i0 z k bytes ht hi hz0 hz1 hz2 hzs hk v l.length (flatR l) hs hown.2 ⟨g, 0, none⟩ 1 c r hx (by rw [hrl, Nat.one_mul]) ?_ hone hb2 hb hB ?_
  · intro j u hu
    have hadd : (⟨g, 0, none⟩ : Addr).add j = ⟨g, j, none⟩ := by unfold Addr.add; split <;> simp_all
    rw [hadd]
    exact hr j u hu
  · intro v' w' h1 h2 _
    refine h v' w' ⟨?_, ?_⟩ h2
    · intro p hp
      rcases List.mem_append.1 hp with hp | hp
      · exact hown.1 p hp
      · obtain rfl : p = r := by simpa using hp
        exact hrl
    · rw [List.length_append, flatR_append]
      have e : flatR [r] = r := by simp [flatR]
      rw [e]
      exact h1
end Go.Proofs.Ytebkkbmplndcpaa

namespace Go.Proofs.Ytebkkbmplndcpaa
set_option linter.unusedVariables false
section
variable {P : Program} {ops : Array Oper} {Q : Exit → Act → World → Prop} {md : Region.Mode} {S : World → Prop} {n : Nat}

/-- Number n waits for each of the others itself. -/
def lastB (md : Region.Mode) (ops : Array Oper) (n : Nat) : Bool := decide (ops.size = n + 1) && (List.range n).all fun i => Region.waitsFor md ops n i
theorem lastB_size (h : lastB md ops n = true) : ops.size = n + 1 := by unfold lastB at h; rw [Bool.and_eq_true] at h; exact of_decide_eq_true h.1
/-- While another may come up, it may not. -/
theorem last_waits (h : lastB md ops n = true) {listed : Array Bool} {i j : Nat} (hi : i ∈ Region.ready md ops listed) (hj : j ∈ Region.ready md ops listed) (hne : j ≠ i) (hin : i ≠ n) : j ≠ n := by
  rintro rfl
  obtain ⟨hun, oi, hoi, _⟩ := mem_ready.1 hi
  have hlt := (Array.getElem?_eq_some_iff.1 hoi).1
  have hs := lastB_size h
  unfold lastB at h
  rw [Bool.and_eq_true] at h
  have hw := List.all_eq_true.1 h.2 i (List.mem_range.2 (by omega))
  obtain ⟨o, ho, e, he, hb, hon⟩ := Region.waitsFor_spec hw
  obtain ⟨_, o', ho', hall⟩ := mem_ready.1 hj
  rw [ho] at ho'
  obtain rfl := Option.some.inj ho'
  have h1 := hall e he hb
  rw [hon, getD_both hun] at h1
  cases h1
def wpAnyE (P : Program) (md : Region.Mode) (ops : Array Oper) (Q : Exit → Act → World → Prop) (S : World → Prop) (n : Nat) : Nat → Array Bool → Act → World → Prop
  | 0, listed, a, w => Region.ready md ops listed = [] ∧ Q .normal a w
  | k + 1, listed, a, w => (Region.ready md ops listed = [] → Q .normal a w) ∧
    ∀ i ∈ Region.ready md ops listed, wpOp P ops Q i (fun a' w' => (i = n ∨ S w') ∧ wpAnyE P md ops Q S n k (listed.setIfInBounds i true) a' w') a w
theorem wpAnyE_any : ∀ (k : Nat) (listed : Array Bool) (a : Act) (w : World), wpAnyE P md ops Q S n k listed a w → wpAny P md ops Q k listed a w
  | 0, _, _, _, h => h
  | k + 1, _, _, _, h => ⟨h.1, fun i hi => wpOp_mono (fun a' w' h' => wpAnyE_any k _ a' w' h'.2) (h.2 i hi)⟩
theorem wpAnyE_first (hl : lastB md ops n = true) {i : Nat} {oi : Oper} {v : Value} (hi : ops[i]? = some oi) (hin : i ≠ n) (hsel : ∀ (j : Nat) (o : Oper) cs b, ops[j]? = some o → o.op ≠ .select cs b)
    (hQ : ∀ c a w, Q (.panic c) (a.put oi.dst v) w → Q (.panic c) a w) :
    ∀ (k : Nat) (listed : Array Bool) (a : Act) (w : World),
      (∀ j oj, ops[j]? = some oj → j ≠ i → listed.getD j true = false → (∀ e ∈ oj.after, Region.binds md e = true → e.on ≠ i) → oi.apart ops oj = true) →
      i ∈ Region.ready md ops listed → YieldsIf P ops S oi v a → S w →
      wpAnyE P md ops Q S n k (listed.setIfInBounds i true) (a.put oi.dst v) w → wpAnyE P md ops Q S n (k + 1) listed a w
  | 0, listed, a, w, hap, hr, hy, hS, H => by
    refine ⟨fun h => (by rw [h] at hr; cases hr), fun j hj => ?_⟩
    by_cases hji : j = i
    · subst hji
      exact hy.wpOp hi hS ⟨.inr hS, H⟩
    · have := ready_mono hj hji
      rw [H.1] at this
      cases this
  | k + 1, listed, a, w, hap, hr, hy, hS, H => by
    refine ⟨fun h => (by rw [h] at hr; cases hr), fun j hj => ?_⟩
    by_cases hji : j = i
    · subst hji
      exact hy.wpOp hi hS ⟨.inr hS, H⟩
    · obtain ⟨hjun, oj, hoj, hall⟩ := mem_ready.1 hj
      have hnot : ∀ e ∈ oj.after, Region.binds md e = true → e.on ≠ i := fun e he hb heq => by
        have h1 := hall e he hb
        rw [heq, getD_both (mem_ready.1 hr).1] at h1
        cases h1
      refine wpOp_mono (fun a' w' h3 => ?_) (wpOp_putIf hoj (hap j oj hoj hji hjun hnot) (fun cs b => hsel i oi cs b hi) (fun cs b => hsel j oj cs b hoj) hQ hy (H.2 j (ready_mono hj hji)))
      obtain ⟨hy', hS', hE⟩ := h3
      have hSw : S w' := hS'.resolve_left (last_waits hl hr hj hji hin)
      refine ⟨.inr hSw, wpAnyE_first hl hi hin hsel hQ k _ a' w' (fun x ox hx hxi hun hno => hap x ox hx hxi ?_ hno) (ready_mono hr (Ne.symm hji)) hy' hSw ?_⟩
      · by_cases e : j = x
        · rw [← e]; exact hjun
        · rwa [getD_set_ne true e] at hun
      · rw [Array.setIfInBounds_comm _ _ hji]
        exact hE
theorem wpAnyE_take {i : Nat} {oi : Oper} {v : Value} {k : Nat} {listed : Array Bool} {a : Act} {w : World} (hi : ops[i]? = some oi) (hl : lastB md ops n = true) (hin : i ≠ n)
    (hs : Region.noSelect ops = true) (hf : Region.free md ops listed i = true) (hr : (Region.ready md ops listed).contains i = true)
    (hQ : ∀ c a w, Q (.panic c) (a.put oi.dst v) w → Q (.panic c) a w) (hy : YieldsIf P ops S oi v a) (hS : S w)
    (h : wpAnyE P md ops Q S n k (listed.setIfInBounds i true) (a.put oi.dst v) w) : wpAnyE P md ops Q S n (k + 1) listed a w :=
  wpAnyE_first hl hi hin (Region.noSelect_spec hs) hQ k listed a w (Region.free_spec hi hf) (by simpa using hr) hy hS h
def AllE (P : Program) (md : Region.Mode) (ops : Array Oper) (Q : Exit → Act → World → Prop) (S : World → Prop) (n : Nat) (k : Nat) (listed : Array Bool) (a : Act) (w : World) (rs : List Nat) : Prop :=
  ∀ i ∈ rs, wpOp P ops Q i (fun a' w' => (i = n ∨ S w') ∧ wpAnyE P md ops Q S n k (listed.setIfInBounds i true) a' w') a w
theorem AllE.nil {k : Nat} {listed : Array Bool} {a : Act} {w : World} : AllE P md ops Q S n k listed a w [] := fun _ h => by cases h
theorem AllE.cons {k : Nat} {listed : Array Bool} {a : Act} {w : World} {i : Nat} {o : Oper} {rs : List Nat} (ho : ops[i]? = some o)
    (h : ∀ K' : Act → World → Prop, Shut (∀ a w, S w → (S w → wpAnyE P md ops Q S n k (listed.setIfInBounds i true) a w) → K' a w) → if Region.wanted o (yielded ops a.tmps) = true then Oper.wp P o a w K' Q else K' (a.put o.dst undef) w)
    (hs : AllE P md ops Q S n k listed a w rs) : AllE P md ops Q S n k listed a w (i :: rs) := fun j hj => by
  rcases List.mem_cons.1 hj with rfl | hj
  · exact wpOp_step ho (fun K' hK => h K' (fun a w hS hW => hK a w ⟨.inr hS, hW hS⟩))
  · exact hs j hj
/-- The last one: behind it nothing is asked of S. -/
theorem AllE.last {k : Nat} {listed : Array Bool} {a : Act} {w : World} {o : Oper} (ho : ops[n]? = some o)
    (h : ∀ K' : Act → World → Prop, Shut (∀ a w, wpAnyE P md ops Q S n k (listed.setIfInBounds n true) a w → K' a w) → if Region.wanted o (yielded ops a.tmps) = true then Oper.wp P o a w K' Q else K' (a.put o.dst undef) w) :
    AllE P md ops Q S n k listed a w [n] := fun j hj => by
  rcases List.mem_cons.1 hj with rfl | hj
  · exact wpOp_step ho (fun K' hK => h K' (fun a w hW => hK a w ⟨.inl rfl, hW⟩))
  · cases hj
theorem wpAnyE_ready {rs : List Nat} {k : Nat} {listed : Array Bool} {a : Act} {w : World} (hr : Region.ready md ops listed = rs) (hne : rs ≠ [])
    (h : AllE P md ops Q S n k listed a w rs) : wpAnyE P md ops Q S n (k + 1) listed a w := ⟨fun h0 => absurd (hr ▸ h0) hne, hr ▸ h⟩
theorem wpAnyE_done {listed : Array Bool} {a : Act} {w : World} (hr : Region.ready md ops listed = []) (h : Q .normal a w) : ∀ k, wpAnyE P md ops Q S n k listed a w
  | 0 => ⟨hr, h⟩
  | _ + 1 => ⟨fun _ => h, by rw [hr]; simp⟩
theorem wp_region_last {id : Nat} {a : Act} {w : World} (hm : P.follows .mixedOrders = true) (hS : S w.drew)
    (h : S w.drew → wpAnyE P .any ops Q S n ops.size (Array.replicate ops.size false) a w.drew) : (Code.region id ops true).wp P Q a w :=
  wp_region_any hm (wpAnyE_any _ _ _ _ (h hS))
end
end Go.Proofs.Ytebkkbmplndcpaa
