/- A block of a directory, read of bytes (part.Read). -/
import Derived.Test.YtcpbffmffoneeaaDoorGmgoeboab
namespace Go.Proofs.YtcpbffmffoneeaaDoor
open Go.RowKit Go.Sort
set_option linter.unusedVariables false
set_option linter.unusedSimpArgs false
set_option maxRecDepth 100000

def zeroE : List Ent := [(0, ByteArray.empty), (0, ByteArray.empty), (0, ByteArray.empty), (0, ByteArray.empty)]
def rdB (b : List Nat) : List Ent := outB (.rd b) zeroE
theorem rdB_length (b : List Nat) : (rdB b).length = 4 := by unfold rdB; rw [outB_length]; rfl
theorem zero_blk (w : World) : (zeroValue 31).run Tryd.prog w = .ok (.agg (csE zeroE)) w := by kernel_rfl
theorem csE_one (E : List Ent) : (csE E).all (·.oneCell') = true := by
  refine Array.all_eq_true_iff_forall_mem.2 fun v hv => ?_
  unfold csE at hv
  rw [List.mem_toArray] at hv
  obtain ⟨x, _, hx⟩ := List.mem_flatMap.1 hv
  unfold entV at hx
  simp only [List.mem_cons, List.not_mem_nil, or_false] at hx
  rcases hx with rfl | rfl <;> rfl
theorem stB_rd (E : List Ent) (b : List Nat) : ∃ b', stB (.rd b) E = .rd b' ∧ (Bytes b → Bytes b') := by
  rw [stB_is]
  obtain ⟨b', h1, _, h3⟩ := stS_rd (blkF E) b
  exact ⟨b', h1, h3⟩
theorem sizeE_rd {b : List Nat} (hb : Bytes b) (z : Int) (s : List UInt8) : 0 ≤ sizeE (.rd b) z s ∧ sizeE (.rd b) z s < 256 := by
  unfold sizeE
  obtain ⟨b', e, _, _, k⟩ := next_rd b 2 (u64of z)
  rw [e]
  have h := num_lt (k hb) 1 0 (by decide)
  show 0 ≤ ((PS.num (.rd b') 1 0 : Nat) : Int) ∧ ((PS.num (.rd b') 1 0 : Nat) : Int) < 256
  omega
theorem nameE_size (S : PS) (z : Int) (s : List UInt8) : (nameE S z s).data.toList.length ≤ 29 := by
  unfold nameE
  rw [strOfNums_data, List.length_map, List.length_take]
  omega
theorem outB_fits : ∀ (E : List Ent) (b : List Nat), Bytes b → ∀ x ∈ outB (.rd b) E, (0 ≤ x.1 ∧ x.1 < 65536) ∧ x.2.data.toList.length ≤ 29
  | [], _, _, x, h => by simp [outB] at h
  | y :: E, b, hb, x, h => by
    have h' : x ∈ ((PS.rd b).numI 2 y.1, nameE (.rd b) y.1 y.2.data.toList) :: outB (stE (.rd b) y.1 y.2.data.toList) E := h
    rcases List.mem_cons.1 h' with rfl | h2
    · refine ⟨?_, nameE_size _ _ _⟩
      have hn := num_lt hb 2 0 (by decide)
      show 0 ≤ ((PS.num (.rd b) 2 0 : Nat) : Int) ∧ ((PS.num (.rd b) 2 0 : Nat) : Int) < 65536
      omega
    · obtain ⟨b', e1, _, e3⟩ := stS_rd (entF y) b
      have e : stE (.rd b) y.1 y.2.data.toList = .rd b' := by rw [stE_is]; exact e1
      rw [e] at h2
      exact outB_fits E b' (e3 hb) x h2
theorem zeroE_ok : ∀ x ∈ zeroE, I64 x.1 ∧ x.2.data.toList.length ≤ 29 := by
  intro x hx
  simp only [zeroE, List.mem_cons, List.not_mem_nil, or_false] at hx
  rcases hx with rfl | rfl | rfl | rfl <;> exact ⟨by unfold I64; dsimp only; omega, by decide⟩
theorem sizeB_rd {b : List Nat} (hb : Bytes b) : ∀ j x, zeroE[j]? = some x → 0 ≤ sizeE (stB (.rd b) (zeroE.take j)) x.1 x.2.data.toList ∧ sizeE (stB (.rd b) (zeroE.take j)) x.1 x.2.data.toList < 1000 := by
  intro j x _
  obtain ⟨b', e, k⟩ := stB_rd (zeroE.take j) b
  rw [e]
  have := sizeE_rd (k hb) x.1 x.2.data.toList
  omega
set_option maxHeartbeats 1600000 in
theorem pread_block {b : List Nat} {a : Option Addr} {cap : Nat} (w : World) (hr : Reads w a b.length b) (hc : b.length ≤ cap) (hm : cap ≤ maxLen) :
    Calls Tryd.prog 20 #[.slice a b.length cap, .func (.func 19) #[] #[]] w fun e w' => Below w.heap.size w w' ∧ e = .returned (.agg (csE (rdB b))) := by
  have hz := zero_blk
  obtain ⟨d, hd1, hd2⟩ := row_blk
  have b1 := below_box w (.cells (csE zeroE) 31)
  obtain ⟨w1, hw1⟩ : ∃ w1, w.alloc (.cells (csE zeroE) 31) = w1 := ⟨_, rfl⟩
  have hs1 : w1.heap.size = w.heap.size + 1 := by rw [← hw1]; simp
  have n1 := heap_alloc_new w (.cells (csE zeroE) 31)
  rw [hw1] at b1 n1
  have hr1 := hr.below b1
  have b2 := below_box w1 (.cells (csE zeroE) 31)
  have n2 := heap_alloc_new w1 (.cells (csE zeroE) 31)
  obtain ⟨w2, hw2⟩ : ∃ w2, w1.alloc (.cells (csE zeroE) 31) = w2 := ⟨_, rfl⟩
  have hs2 : w2.heap.size = w.heap.size + 2 := by rw [← hw2]; simp [hs1]
  rw [hw2] at b2 n2
  have hr2 := hr1.below b2
  have n12 := (b2.block w.heap.size (by omega)).trans n1
  have b3 := below_box w2 (.cells #[.slice a b.length cap] 78)
  have hab : b ≠ [] → ∀ x, a = some x → x.block < w.heap.size := by
    intro hb x hx
    obtain ⟨_, _, h | ⟨blk, off, rfl, hlt, _⟩⟩ := hr
    · exact absurd h hb
    · cases hx; exact hlt
  have ha := fun k (hk : k < w2.heap.size) (hkw : w.heap.size ≤ k) => away_rd_new hr2 hc hm hk (fun hb x hx => Nat.ne_of_lt (Nat.lt_of_lt_of_le (hab hb x hx) hkw))
  have n23 := (b3.block (w.heap.size + 1) (by omega)).trans (hs1 ▸ n2)
  have hst := layBlock_is (E := zeroE) rfl (isPort_rd hr2 hc hm) n23 (ha (w.heap.size + 1) (by omega) (by omega)) trivial zeroE_ok (sizeB_rd hr.2.1)
  have HPORT := Lib.hid (isPort_rd hr2 hc hm)
  have HST := Lib.hid hst
  have HA := Lib.hid ha
  have HB := Lib.hid (below_next (below_next b1 b2) b3)
  have N12 := Lib.hid ((b3.block w.heap.size (by omega)).trans n12)
  clear n1 n2 n12 n23 b1 b2 b3 hr1 hr2 ha hst hr hab
  go_enter Tryd.func20, Tryd.ntmps20
  go_wp2_with fail
  rw [hs2] at HST HA HPORT
  refine HST.out.mono ?_
  rintro e w3 ⟨rfl, hrow, hp3⟩
  have hb3 : Below w.heap.size w w3 := by
    refine HB.out.trans ⟨hp3.os, hp3.tape, hp3.output, hp3.size, fun k hk => ?_⟩
    refine hp3.block k (by simp; omega) ?_ (by omega)
    obtain ⟨g, a', cap', he, h⟩ := HPORT.out
    obtain rfl : g = w.heap.size + 2 := by cases he; rfl
    exact (apart_rd h).2 (by omega)
  have n3 : w3.heap[w.heap.size]? = some (.cells (csE zeroE) 31 (0, 0)) := by
    refine (hp3.block w.heap.size (by simp; omega) (HA.out _ (by omega) (Nat.le_refl _)).apart (by omega)).trans N12.out
  have hrow' : w3.heap[w.heap.size + 1]? = some (.cells (csE (rdB b)) 31 (0, 0)) := hrow
  have hrg := row_range hrow'
  have hsz : (csE (rdB b)).size = 8 := by rw [csE_size, rdB_length]
  have hszl : (csE (rdB b)).toList.length = 8 := by simpa using hsz
  have hsi : (Tryd.prog.info? 31).map (·.size) = some (csE (rdB b)).size := by rw [hsz]; exact size_blk
  have hsi2 : (Tryd.prog.info? 31).map (·.size) = some (csE (rdB b)).toList.length := by rw [hszl]; exact size_blk
  have hold : (csE zeroE).size = (csE (rdB b)).size := by rw [hsz]; rfl
  have hone := csE_one (rdB b)
  have HB3 := Lib.hid (below_setRow (g := w.heap.size) hb3 (Nat.le_refl _) (csE (rdB b)))
  have hfin := setRow_heap w3 w.heap.size _ (csE (rdB b)) _ _ n3
  clear HST HA HB N12 hp3 hb3 hw1 hw2 hrow hrow' HPORT
  go_wp2_with (first
    | refine wpList_load_mid rfl 31 _ rfl (w.heap.size + 1) 0 (by go_simp) (csE (rdB b)).toList d hrg hd1 hd2 hsi2 ?_
    | refine wpList_store_row rfl 31 _ _ rfl w.heap.size (csE (rdB b)) (by go_simp) (by go_simp) _ _ n3 hsi hold hone ?_)
  refine bodyPost_ret (results_cell_row rfl _ _ w.heap.size _ _ _ d rfl hfin hd1 (by cases d <;> first | rfl | exact hd2) hsi) rfl ?_
  exact ⟨HB3.out, rfl⟩
end Go.Proofs.YtcpbffmffoneeaaDoor
