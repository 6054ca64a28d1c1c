/- A straight region in an iterator's round, walked by the plain laws. -/
import Derived.Test.YtgakidimipipeaaGiafghafi
namespace Go.Proofs.Ytgakidimipipeaa
open Go.RowKit Go.Sort
set_option linter.unusedVariables false
set_option linter.unusedSimpArgs false
set_option maxRecDepth 100000

def plainOp (o : Oper) : Bool := match o.op with | .defer _ => false | _ => true
theorem plainOp_defer {o : Oper} (h : plainOp o = true) : ∀ c, o.op ≠ .defer c := by
  intro c hc
  unfold plainOp at h
  rw [hc] at h
  cases h
theorem wpListIn_of_wpList {l n : Nat} {P : Program} {ops : Array Oper} {K : Act → World → Prop} {Q : Exit → Act → World → Prop} (hK : ∀ a w, K a w → Q .normal a w) :
    ∀ (rest : List Oper) (a : Act) (w : World), rest.all plainOp = true → wpList P ops (Exit.then K (fun _ _ _ => False)) rest a w → wpListIn (Fence.wide.inRound l) n P ops Q rest a w := by
  intro rest
  induction rest with
  | nil => intro a w _ h; exact hK _ _ h
  | cons o rest ih =>
    intro a w hp h
    rw [List.all_cons, Bool.and_eq_true] at hp
    have hd := plainOp_defer hp.1
    unfold wpList at h
    unfold wpListIn
    split at h
    · rename_i hw
      rw [if_pos hw]
      rcases h with h | ⟨-, ⟨a', w', h⟩⟩
      · unfold Oper.wp at h
        unfold Oper.wpIn
        refine ⟨fun f _ => trivial, ?_⟩
        rw [Oper.semAt_eq _ _ _ hd]
        generalize (execOp a.eval o).run P w = r at h ⊢
        unfold Oper.upon at h
        unfold Oper.uponIn
        split at h
        · exact ih _ _ hp.2 h
        · exact ih _ _ hp.2 h
        · exact ih _ _ hp.2 h
        · refine ⟨fun hx => by simp [Fence.wide, Fence.inRound] at hx, ?_⟩
          refine ((callsIn_wide.2 h).inRound l).mono ?_
          intro e w'' he
          cases e with
          | returned v => exact ih _ _ hp.2 he
          | panicked c => exact he.elim
          | outgrown => obtain ⟨_, _, h⟩ := he; exact h.elim
        · refine ⟨fun hx => by simp [Fence.wide, Fence.inRound] at hx, ?_⟩
          intro c cs _
          obtain ⟨v, w'', he, hs⟩ := h c cs
          exact ⟨v, w'', ih _ _ hp.2 he, by rw [fenced_inRound]; exact stepsIn_wide.2 hs⟩
        · exact h.elim
        · exact h.elim
      · exact h.elim
    · rename_i hw
      rw [if_neg hw]
      exact ⟨fun f _ => trivial, ih _ _ hp.2 h⟩
/-- A straight region in a round: it is enough to walk it by the plain laws. -/
theorem wpIn_region_round {l n id : Nat} {P : Program} {L : List Oper} {Q : Exit → Act → World → Prop} {a : Act} {w : World} (hd : L.all plainOp = true)
    (h : ∀ K : Act → World → Prop, (∀ a w, Q .normal a w → K a w) → wpList P L.toArray (Exit.then K (fun _ _ _ => False)) L a w) : (Code.region id L.toArray false).wpIn (Fence.wide.inRound l) n P Q a w :=
  wpIn_region_lit (wpListIn_of_wpList (K := fun a w => Q .normal a w) (fun _ _ h => h) _ _ _ hd (h _ fun _ _ h => h))
end Go.Proofs.Ytgakidimipipeaa
