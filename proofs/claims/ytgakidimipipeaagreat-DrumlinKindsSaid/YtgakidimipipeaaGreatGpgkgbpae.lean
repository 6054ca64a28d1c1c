/- A block of a directory, written to bytes (part.Write). -/
import Derived.Test.YtgakidimipipeaaGreatGhgdbdlgb
import Derived.Test.YtgakidimipipeaaGreatGolgphjcg
namespace Go.Proofs.YtgakidimipipeaaGreat
open Go.RowKit Go.Sort
set_option linter.unusedVariables false
set_option linter.unusedSimpArgs false
set_option maxRecDepth 100000

def entF (x : Ent) : List FldD := ⟨.i64, 2, x.1⟩ :: ⟨.i64, 1, (x.2.data.toList.length : Int)⟩ :: nameF x.2.data.toList
def blkF (E : List Ent) : List FldD := E.flatMap entF
theorem stE_is (S : PS) (x : Ent) : stE S x.1 x.2.data.toList = stS S (entF x) := rfl
theorem stB_is : ∀ (E : List Ent) (S : PS), stB S E = stS S (blkF E)
  | [], _ => rfl
  | x :: E, S => by
    show stB (stE S x.1 x.2.data.toList) E = _
    rw [stB_is E, stE_is]
    unfold blkF
    rw [List.flatMap_cons, stS_append]
theorem strOf_bytes (s : ByteArray) : strOfNums (s.data.toList.map fun b => (b.toNat : Int)) = s := by
  obtain ⟨⟨l⟩⟩ := s
  unfold strOfNums
  congr 1
  rw [List.map_map]
  have e : ((fun n : Int => UInt8.ofNat n.toNat) ∘ fun b : UInt8 => (b.toNat : Int)) = id := by
    funext b
    simp
  rw [e, List.map_id]
theorem next_wr (b : List Nat) (f : Bool) (q n : Nat) : ∃ b' f', PS.next (.wr b f) q n = .wr b' f' := by
  unfold PS.next
  dsimp only
  split
  · exact ⟨_, _, rfl⟩
  · exact ⟨_, _, rfl⟩
theorem sizeE_wr (b : List Nat) (f : Bool) (z : Int) (s : List UInt8) : sizeE (.wr b f) z s = (s.length : Int) := by
  unfold sizeE
  obtain ⟨b', f', e⟩ := next_wr b f 2 (u64of z)
  rw [e]
  rfl
theorem stT_wr (b : List Nat) (f : Bool) (z : Int) (s : List UInt8) : ∃ b' f', stT (.wr b f) z s = .wr b' f' := by
  unfold stT
  obtain ⟨b', f', e⟩ := next_wr b f 2 (u64of z)
  rw [e]
  exact next_wr _ _ _ _
theorem nameE_wr (b : List Nat) (f : Bool) (z : Int) (s : ByteArray) (h : s.data.toList.length ≤ 29) : nameE (.wr b f) z s.data.toList = s := by
  unfold nameE outN
  rw [sizeE_wr]
  obtain ⟨b', f', e⟩ := stT_wr b f z s.data.toList
  rw [e, stO_wr]
  have hm : (min (s.data.toList.length : Int) 29).toNat = s.data.toList.length := by omega
  rw [hm]
  have : ((nameF s.data.toList).map (·.z)).take s.data.toList.length = s.data.toList.map fun b => (b.toNat : Int) := by
    unfold nameF padS
    rw [List.map_map, List.map_append, List.take_left' (by rw [List.length_map])]
    rfl
  rw [this, strOf_bytes]
theorem outB_wr : ∀ (E : List Ent) (b : List Nat) (f : Bool), (∀ x ∈ E, x.2.data.toList.length ≤ 29) → outB (.wr b f) E = E
  | [], _, _, _ => rfl
  | x :: E, b, f, h => by
    show (_, nameE (.wr b f) x.1 x.2.data.toList) :: outB (stE (.wr b f) x.1 x.2.data.toList) E = _
    rw [nameE_wr b f x.1 x.2 (h x (by simp))]
    obtain ⟨b', f', e⟩ : ∃ b' f', stE (.wr b f) x.1 x.2.data.toList = .wr b' f' := by
      rw [stE_is]
      exact stS_wr _ _ _
    rw [e, outB_wr E b' f' fun y hy => h y (by simp [hy])]
    rfl
theorem entF_widths (x : Ent) (h : x.2.data.toList.length ≤ 29) : widths (entF x) = 32 := by
  unfold entF
  show 2 + (1 + widths _) = 32
  rw [nameF_widths h]
theorem blkF_widths : ∀ (E : List Ent), (∀ x ∈ E, x.2.data.toList.length ≤ 29) → widths (blkF E) = 32 * E.length
  | [], _ => rfl
  | x :: E, h => by
    unfold blkF
    rw [List.flatMap_cons, widths_append, entF_widths x (h x (by simp))]
    have := blkF_widths E fun y hy => h y (by simp [hy])
    unfold blkF at this
    rw [this, List.length_cons]
    omega
theorem sizeB_wr (E : List Ent) (hz : ∀ x ∈ E, x.2.data.toList.length ≤ 29) : ∀ j x, E[j]? = some x → 0 ≤ sizeE (stB (.wr [] false) (E.take j)) x.1 x.2.data.toList ∧ sizeE (stB (.wr [] false) (E.take j)) x.1 x.2.data.toList < 1000 := by
  intro j x hx
  obtain ⟨b', f', e⟩ : ∃ b' f', stB (.wr [] false) (E.take j) = .wr b' f' := by
    rw [stB_is]
    exact stS_wr _ _ _
  rw [e, sizeE_wr]
  have := hz x (List.mem_of_getElem? hx)
  omega
set_option maxHeartbeats 1600000 in
theorem pwrite_block {E : List Ent} (hE : E.length = 4) (hz : ∀ x ∈ E, I64 x.1 ∧ x.2.data.toList.length ≤ 29) (w : World) :
    Calls Tryz.prog 33 #[.agg (csE E), .func (.func 34) #[] #[]] w fun e w' => Below w.heap.size w w' ∧
      ((wrF (blkF E) = true ∧ e = .returned (.tuple #[.slice none 0 0, .int .i64 1])) ∨ (wrF (blkF E) = false ∧ ∃ v, e = .returned (.tuple #[v, .int .i64 0]) ∧ Owns w.heap.size w' v (wrB (blkF E)))) := by
  have b1 := below_box w (.cells (csE E) 48)
  have n1 := heap_alloc_new w (.cells (csE E) 48)
  obtain ⟨w1, hw1⟩ : ∃ w1, w.alloc (.cells (csE E) 48) = w1 := ⟨_, rfl⟩
  have hs1 : w1.heap.size = w.heap.size + 1 := by rw [← hw1]; simp
  rw [hw1] at b1 n1
  have b2 := below_box w1 (.cells #[.slice none 0 0, .bool false] 157)
  have hp := isPort_new w1
  have ha := fun k (hk : k < w1.heap.size) => away_new w1 hk
  have n2 := (b2.block w.heap.size (by omega)).trans n1
  have hst := layBlock_is hE hp n2 (ha w.heap.size (by omega)) (show ([] : List Nat).length + 128 ≤ 2000 by decide) hz (sizeB_wr E fun x hx => (hz x hx).2)
  have HST := Lib.hid hst
  have HA := Lib.hid ha
  have HB2 := Lib.hid (below_next b1 b2)
  have HW1 := Lib.hid hw1
  clear b1 n1 b2 hp ha n2 hst
  go_enter Tryz.func33, Tryz.ntmps33
  go_wp2_with fail
  rw [hs1] at HST
  refine HST.out.mono ?_
  rintro e w3 ⟨rfl, _, hp3⟩
  rw [stB_is, stS_is] at hp3
  obtain ⟨g, v, he, hw3, ho3⟩ := hp3.port
  obtain rfl : g = w.heap.size + 1 := by cases he; rfl
  have hb3 : Below w.heap.size w w3 := by
    have hb : Below w.heap.size (w1.alloc (.cells #[.slice none 0 0, .bool false] 157)) w3 := by
      refine ⟨hp3.os, hp3.tape, hp3.output, hp3.size, fun k hk => ?_⟩
      have := HA.out k (by omega)
      rw [hs1] at this
      exact hp3.block k (by simp; omega) this.apart (by omega)
    exact HB2.out.trans hb
  have hon : Owns w.heap.size w3 v (wrB (blkF E)) := by
    refine owns_raise ho3 fun k hk => ?_
    have h1 := HA.out k (by omega)
    rw [hs1] at h1
    have h2 := hp3.away k (by simp; omega) h1
    exact ((away_wr ⟨hw3, ho3⟩).1 h2).2
  have c0 := cell_of_row hw3 0
  have c1 := cell_of_row hw3 1
  obtain ⟨av, lv, cpv, hv⟩ := owned_slice hon.2
  subst hv
  have HB3 := Lib.hid hb3
  have HO := Lib.hid hon
  clear hp3 hw3 ho3 hon hb3 he HST HA HB2 HW1 hw1 hz
  cases hf : wrF (blkF E) with
  | true =>
    rw [hf] at c1
    go_wp2
    go_ret2
    exact ⟨HB3.out, .inl ⟨hf, rfl⟩⟩
  | false =>
    rw [hf] at c1
    go_wp2
    go_ret2
    exact ⟨HB3.out, .inr ⟨hf, _, rfl, HO.out⟩⟩
end Go.Proofs.YtgakidimipipeaaGreat
