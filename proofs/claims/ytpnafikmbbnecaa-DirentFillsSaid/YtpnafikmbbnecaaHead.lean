/- A region's header, laid through a port, written and read. -/
import Derived.Test.YtpnafikmbbnecaaPort
import Derived.Test.YtpnafikmbbnecaaPortU64
namespace Go.Proofs.Ytpnafikmbbnecaa
open Go.RowKit Go.Sort
set_option linter.unusedVariables false
set_option linter.unusedSimpArgs false
set_option maxRecDepth 100000

theorem lay_u64 {l : List FldD} {gx m : Nat} {t : TypeId} {w0 w : World} {pv : Value} {S : PS} {q : Nat} {z : Int} (h : LayAt l gx t w0 pv S m w) (hx : l[m]? = some ⟨.u64, q, z⟩) (hz : 0 ≤ z ∧ z < 18446744073709551616) (hq : 1 ≤ q) (hq8 : q ≤ 8) :
    Calls Try.prog 140 #[pv, .int .i64 q, .pointer (some ⟨gx, m, none⟩)] w fun e w' => e = .returned (.tuple #[]) ∧ LayAt l gx t w0 pv S (m + 1) w' := by
  obtain ⟨n, rfl⟩ := Int.eq_ofNat_of_zero_le hz.1
  have hn : n < 18446744073709551616 := by omega
  refine (pnum_u64 (h.passed.port) h.row (h.passed.away gx h.size h.away) q hq hq8 (h.fits hx) (fieldsAt_get hx) hn).mono ?_
  rintro e w' ⟨rfl, h1, h2⟩
  refine ⟨rfl, h.next hx ?_ ?_⟩
  · rw [h1]
    show some (Obj.cells (Array.setIfInBounds _ m (Value.int .u64 _)) t (0, 0)) = some (Obj.cells (Array.setIfInBounds _ m (Value.int .u64 ((stS S (l.take m)).numI q (n : Int)))) t (0, 0))
    rw [numI_nat]
  · show Passed gx w pv _ w' ((stS S (l.take m)).next q (u64of (n : Int)))
    rw [u64of_nat (by omega)]
    exact h2

def kindH (m : Nat) : IntKind := if m < 2 then .u64 else if m = 5 then .u32 else .i64
def widthH (m : Nat) : Nat := if m < 2 then 8 else if m = 5 then 4 else 2
def okH (k : IntKind) (z : Int) : Prop := match k with
  | .u64 => 0 ≤ z ∧ z < 18446744073709551616
  | .u32 => 0 ≤ z ∧ z < 4294967296
  | .i64 => I64 z
  | _ => True
/-- The fields of a header. -/
def IsHead (l : List FldD) : Prop := l.length = 6 ∧ ∀ m, m < 6 → ∃ z, l[m]? = some ⟨kindH m, widthH m, z⟩ ∧ okH (kindH m) z

/-- No header. -/
def zeroH : List FldD := (List.range 6).map fun m => ⟨kindH m, widthH m, 0⟩
theorem zeroH_is : IsHead zeroH := by
  refine ⟨rfl, fun m hm => ⟨0, ?_, ?_⟩⟩
  · unfold zeroH
    rw [List.getElem?_map, List.getElem?_range hm]
    rfl
  · unfold okH I64
    split <;> first | trivial | omega
/-- What is read of bytes. -/
def rdH (b : List Nat) : List FldD := stO (.rd b) zeroH
theorem stO_rdw : ∀ (l : List FldD) (b : List Nat), Bytes b → (∀ x ∈ l, x.width ≤ 8) → ∀ (m : Nat) (x : FldD), l[m]? = some x → ∃ z : Int, (stO (.rd b) l)[m]? = some ⟨x.kind, x.width, z⟩ ∧ 0 ≤ z ∧ z < ((256 ^ x.width : Nat) : Int)
  | [], _, _, _, m, x, h => by simp at h
  | y :: l, b, hb, hw, 0, x, h => by
    simp only [List.getElem?_cons_zero, Option.some.injEq] at h
    subst h
    have h1 := num_lt hb y.width 0 (by have := hw y (List.mem_cons_self ..); omega)
    exact ⟨_, rfl, Int.natCast_nonneg _, by show ((PS.num (.rd b) y.width 0 : Nat) : Int) < _; exact_mod_cast h1⟩
  | y :: l, b, hb, hw, m + 1, x, h => by
    have e : ∃ b', PS.next (.rd b) y.width (u64of y.z) = .rd b' ∧ Bytes b' := by
      unfold PS.next
      dsimp only
      split
      · exact ⟨_, rfl, hb.drop _⟩
      · exact ⟨_, rfl, by intro x hx; simp at hx⟩
    obtain ⟨b', e, hb'⟩ := e
    show ∃ z, (stO (PS.next (.rd b) y.width (u64of y.z)) l)[m]? = _ ∧ _
    rw [e]
    exact stO_rdw l b' hb' (fun x hx => hw x (List.mem_cons_of_mem _ hx)) m x (by simpa using h)
theorem zeroH_width : ∀ x ∈ zeroH, x.width ≤ 8 := by decide
theorem rdH_is {b : List Nat} (hb : Bytes b) : IsHead (rdH b) := by
  refine ⟨by unfold rdH; rw [stO_length]; rfl, fun m hm => ?_⟩
  obtain ⟨z0, e0, _⟩ := zeroH_is.2 m hm
  obtain ⟨z, e, h1, h2⟩ := stO_rdw zeroH b hb zeroH_width m _ e0
  refine ⟨z, e, ?_⟩
  have hc : m = 0 ∨ m = 1 ∨ m = 2 ∨ m = 3 ∨ m = 4 ∨ m = 5 := by omega
  rcases hc with rfl | rfl | rfl | rfl | rfl | rfl
  · exact ⟨h1, by have : z < ((256 ^ 8 : Nat) : Int) := h2; omega⟩
  · exact ⟨h1, by have : z < ((256 ^ 8 : Nat) : Int) := h2; omega⟩
  · show I64 z; unfold I64; have : z < ((256 ^ 2 : Nat) : Int) := h2; omega
  · show I64 z; unfold I64; have : z < ((256 ^ 2 : Nat) : Int) := h2; omega
  · show I64 z; unfold I64; have : z < ((256 ^ 2 : Nat) : Int) := h2; omega
  · exact ⟨h1, by have : z < ((256 ^ 4 : Nat) : Int) := h2; omega⟩

end Go.Proofs.Ytpnafikmbbnecaa
