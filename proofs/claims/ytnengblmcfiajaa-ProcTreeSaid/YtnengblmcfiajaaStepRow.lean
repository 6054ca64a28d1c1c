/- Append of one row, at a step of a region that draws its order. -/
import Derived.Test.YtnengblmcfiajaaEach
import Derived.Deep.RegionHeld3
import Derived.Deep.RegionLaw
namespace Go.Proofs.Ytnengblmcfiajaa
open Go.RowKit
set_option linter.unusedVariables false
set_option maxRecDepth 100000

theorem step_append_row_at {P : Program} {w : World} {ops : Array Oper} {o : Oper} {a : Act} {K : Act → World → Prop} {Q : Exit → Act → World → Prop} {E : Prop} (hgd : Region.wanted o (yielded ops a.tmps) = true) (s x : Operand) (t : TypeId)
    (ho : o.op = .call { callee := .builtin .append, args := #[s, x], argTypes := #[t, t] })
    (B : Nat) (e : TypeId) (z : Value) (k bytes : Nat) (ht : P.underlying t = some (.slice e)) (hinfo : (P.info? e).map (fun i => (i.zero, i.size, i.bytes)) = some (some z, k, bytes)) (hzs : z.cells.size = k) (hk : 0 < k)
    (v : Value) (l : List (List Value)) (hs : a.eval s = v) (hown : OwnsR' B w e k v l) (g c : Nat) (r : List Value) (hx : a.eval x = .slice (some ⟨g, 0, none⟩) 1 c) (hrl : r.length = k) (hr : ∀ j u, r[j]? = some u → w.cell? ⟨g, j, none⟩ = some u) (hone : ∀ u ∈ r, u.oneCell' = true)
    (hb : (l.length + 1) * bytes ≤ 140737488355328) (hb2 : l.length + 1 ≤ maxLen) (hB : B ≤ w.heap.size)
    (h : ∀ v' w', OwnsR' B w' e k v' (l ++ [r]) → w.grownBy w' v.ownBlock → K (a.put o.dst v') w') : if Region.wanted o (yielded ops a.tmps) = true then Oper.wp P o a w K Q else E := by
  rw [if_pos hgd]
  obtain ⟨i0, hi, hz0, hz1, hz2⟩ := info_parts hinfo
  refine wp_append_own w s x t ho B e i0 z k bytes ht hi hz0 hz1 hz2 hzs hk v l.length (flatR l) hs hown.2 ⟨g, 0, none⟩ 1 c r hx (by rw [hrl, Nat.one_mul]) ?_ hone hb2 hb hB ?_
  · intro j u hu
    have hadd : (⟨g, 0, none⟩ : Addr).add j = ⟨g, j, none⟩ := by unfold Addr.add; split <;> simp_all
    rw [hadd]
    exact hr j u hu
  · intro v' w' h1 h2 _
    refine h v' w' ⟨?_, ?_⟩ h2
    · intro p hp
      rcases List.mem_append.1 hp with hp | hp
      · exact hown.1 p hp
      · obtain rfl : p = r := by simpa using hp
        exact hrl
    · rw [List.length_append, flatR_append]
      have e : flatR [r] = r := by simp [flatR]
      rw [e]
      exact h1
end Go.Proofs.Ytnengblmcfiajaa
