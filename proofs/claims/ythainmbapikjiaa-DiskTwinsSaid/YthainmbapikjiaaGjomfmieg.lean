/- The document's disk: writes come to it. -/
import Derived.Test.YthainmbapikjiaaGdockpnpe
namespace Go.Proofs.Ythainmbapikjiaa
open Go.RowKit Go.Sort
set_option linter.unusedVariables false
set_option linter.unusedSimpArgs false
set_option maxRecDepth 100000

theorem rows_set {B : Nat} {w : World} {e : TypeId} {k g n cap : Nat} {l : List (List Value)} (h : OwnsR' B w e k (.slice (some ⟨g, 0, none⟩) n cap) l) (hn : l.length = n) {j : Nat} {r : List Value} (hj : j < n) (hr : r.length = k) :
    OwnsR' B (w.setCells g (j * k) r) e k (.slice (some ⟨g, 0, none⟩) n cap) (l.set j r) := by
  obtain ⟨h0, h1, ⟨hv, _⟩ | ⟨g', cap', cur, hv, hB, hg, hc, hm, hs, ht⟩⟩ := h
  · cases hv
  · cases hv
    have hle : j * k + k ≤ l.length * k := by
      have : (j + 1) * k ≤ l.length * k := Nat.mul_le_mul_right _ (by omega)
      rw [Nat.add_mul, Nat.one_mul] at this
      exact this
    have hfl := flatR_length h0
    have hcs : l.length * k ≤ cur.size := by rw [hs]; exact Nat.mul_le_mul_right _ (by omega)
    have hcur : cur.toList = flatR l ++ cur.toList.drop (l.length * k) := by rw [← ht]; exact (List.take_append_drop _ _).symm
    have hh := setCells_heap g e r (j * k) w cur hg (by omega)
    have h0' : ∀ p ∈ l.set j r, p.length = k := by
      intro p hp
      rcases List.mem_or_eq_of_mem_set hp with hp | rfl
      · exact h0 p hp
      · exact hr
    have hsp := flat_splice (fun p : List Value => p) k l h0 j r (by omega) hr
    have hnew : (spliceV cur (j * k) r).toList = flatR (l.set j r) ++ cur.toList.drop (l.length * k) := by
      unfold spliceV
      rw [List.toList_toArray, hcur]
      rw [List.take_append_of_le_length (by omega), List.drop_append_of_le_length (by rw [hr]; omega)]
      have : flatR (l.set j r) = (flatR l).take (j * k) ++ r ++ (flatR l).drop (j * k + r.length) := by
        rw [hr]; exact hsp.symm
      rw [this, List.append_assoc, ← hcur]
      simp only [List.append_assoc]
    have hlen : (flatR (l.set j r)).length = l.length * k := by rw [flatR_length h0', List.length_set]
    refine ⟨h0', by rw [List.length_set, hlen], .inr ⟨g, cap, spliceV cur (j * k) r, by rw [List.length_set, hn], hB, hh, by rw [List.length_set]; exact hc, hm, ?_, ?_⟩⟩
    · have hz1 : (spliceV cur (j * k) r).size = (spliceV cur (j * k) r).toList.length := Array.length_toList.symm
      have hz2 : cur.toList.length = cur.size := Array.length_toList
      rw [hz1, hnew, List.length_append, hlen, List.length_drop, hz2]
      omega
    · rw [List.length_set, hnew, List.take_append_of_le_length (by omega), List.take_of_length_le (by omega)]
def secR (l : List (List Nat)) : List (List Value) := l.map fun s => s.map byteV
theorem secR_one (l : List (List Nat)) : OneRows (secR l) := by
  intro p hp u hu
  obtain ⟨x, _, rfl⟩ := List.mem_map.1 hp
  exact byteV_oneCell _ u hu
theorem infoArr : (Try.prog.info? 39).map (fun i => (i.zero, i.size, i.bytes)) = some (some (.agg (cells noughts)), 128, 128) := by kernel_rfl
/-- What a list of writes may be. -/
def OkZ (n : Nat) (z : List (Nat × List Nat)) : Prop := ∀ p ∈ z, p.1 < n ∧ p.2.length = 128
theorem settles_take {z : List (Nat × List Nat)} {secs : List (List Nat)} {k : Nat} {p : Nat × List Nat} (h : z[k]? = some p) : settles (z.take (k + 1)) secs = (settles (z.take k) secs).set p.1 p.2 := by
  rw [List.take_add_one, h]
  exact settles_snoc _ _ _
theorem settles_len : ∀ (z : List (Nat × List Nat)) (secs : List (List Nat)), (settles z secs).length = secs.length
  | [], _ => rfl
  | p :: z, secs => by
    show (settles z (secs.set p.1 p.2)).length = _
    rw [settles_len z, List.length_set]
theorem secR_set (l : List (List Nat)) (i : Nat) (s : List Nat) : secR (l.set i s) = (secR l).set i (s.map byteV) := by unfold secR; rw [List.map_set]
theorem own_form {B : Nat} {w : World} {e : TypeId} {k : Nat} {v : Value} {l : List (List Value)} (h : OwnsR' B w e k v l) (hl : 1 ≤ l.length) : ∃ g c cs, v = .slice (some ⟨g, 0, none⟩) l.length c ∧ l.length ≤ c ∧ c ≤ maxLen ∧ B ≤ g ∧ w.heap[g]? = some (.cells cs e (0, 0)) ∧ l.length * k ≤ cs.size := by
  obtain ⟨h0, h1, ⟨_, hn⟩ | ⟨g, cap, cur, hv, hB, hg, hc, hm, hs, ht⟩⟩ := h
  · omega
  · exact ⟨g, cap, cur, hv, hc, hm, hB, hg, by rw [hs]; exact Nat.mul_le_mul_right _ hc⟩
theorem nblock {w : World} {a b : Nat} {cs ds : Array Value} {t u : TypeId} {f f' : Nat × Nat} (h : w.heap[a]? = some (.cells cs t f)) (k : w.heap[b]? = some (.cells ds u f')) (hne : t ≠ u) : a ≠ b := by
  rintro rfl
  rw [h] at k
  simp at k
  exact hne k.2.1
def LayPost (w : World) (n : Nat) (dead : Bool) (arm dn : Int) (secs : List (List Nat)) (e : Ending) (w' : World) : Prop := ∃ a c, e = .returned (refV a n c none 0 0 dead arm dn) ∧ OwnsR' w.heap.size w' 39 128 (.slice a n c) (secR secs) ∧ Below w.heap.size w w'
set_option maxHeartbeats 2000000 in
theorem rlay_is (sa : Option Addr) (sc : Nat) (qa : Option Addr) (qn qc : Nat) (dead : Bool) (arm dn : Int) (secs : List (List Nat)) (z : List (Nat × List Nat)) (la : Option Addr) (lc : Nat) (w : World) (hs : ReadsR w sa 128 (secR secs)) (hl : ReadsR w la 129 (rowsW z)) (hz : OkZ secs.length z) (h1 : 1 ≤ secs.length) (h2 : secs.length ≤ 65536) (hzl : z.length ≤ 1000000) (hlc : z.length ≤ lc) :
    Calls Try.prog 119 #[refV sa secs.length sc qa qn qc dead arm dn, .slice la z.length lc] w (LayPost w secs.length dead arm dn (settles z secs)) := by
  unfold refV
  have hsl : (secR secs).length = secs.length := by unfold secR; rw [List.length_map]
  obtain ⟨n, hn⟩ : ∃ x, secs.length = x := ⟨_, rfl⟩
  have HSN : Hid (secs.length = n) := Lib.hid hn
  rw [hn] at hz h1 h2 hsl ⊢
  obtain ⟨m, hm⟩ : ∃ x, z.length = x := ⟨_, rfl⟩
  have HZM : Hid (z.length = m) := Lib.hid hm
  rw [hm] at hzl hlc ⊢
  have HSL := Lib.hid hsl
  have HS := Lib.hid hs
  have HL := Lib.hid hl
  have HZ := Lib.hid hz
  have HPO : Hid (LayPost w n dead arm dn (settles z secs) = fun e w' => ∃ a c, e = .returned (.agg #[.slice a n c, .slice none 0 0, .bool dead, .int .i64 arm, .int .i64 dn]) ∧ OwnsR' w.heap.size w' 39 128 (.slice a n c) (secR (settles z secs)) ∧ Below w.heap.size w w') := Lib.hid rfl
  rw [HPO.out]
  clear hn hm hsl hs hl hz HPO
  go_enter Try.func119, Try.ntmps119
  obtain ⟨w3, hw3⟩ : ∃ x, (((w.alloc (.cells #[.slice sa n sc, .slice qa qn qc, .bool dead, .int .i64 arm, .int .i64 dn] 28)).alloc (.cells #[.slice none 0 0, .slice none 0 0, .bool false, .int .i64 0, .int .i64 0] 28)).alloc (.cells #[] 39)) = x := ⟨_, rfl⟩
  have q := three_at (Below.refl _ (((w.alloc (.cells #[.slice sa n sc, .slice qa qn qc, .bool dead, .int .i64 arm, .int .i64 dn] 28)).alloc (.cells #[.slice none 0 0, .slice none 0 0, .bool false, .int .i64 0, .int .i64 0] 28)).alloc (.cells #[] 39)))
  obtain ⟨kb, n0, n1, n2, hsz⟩ := q
  have hs1 : (w.alloc (.cells #[.slice sa n sc, .slice qa qn qc, .bool dead, .int .i64 arm, .int .i64 dn] 28)).heap.size = w.heap.size + 1 := by simp
  have hs2 : ((w.alloc (.cells #[.slice sa n sc, .slice qa qn qc, .bool dead, .int .i64 arm, .int .i64 dn] 28)).alloc (.cells #[.slice none 0 0, .slice none 0 0, .bool false, .int .i64 0, .int .i64 0] 28)).heap.size = w.heap.size + 1 + 1 := by rw [← hs1]; simp
  rw [heap_alloc_new] at n0
  rw [← hs1, heap_alloc_new, hs1] at n1
  have O3 := OwnsR'.new (B := w.heap.size) (w := ((w.alloc (.cells #[.slice sa n sc, .slice qa qn qc, .bool dead, .int .i64 arm, .int .i64 dn] 28)).alloc (.cells #[.slice none 0 0, .slice none 0 0, .bool false, .int .i64 0, .int .i64 0] 28))) (e := 39) (k := 128) (l := []) (cs := #[]) (by simp) (by omega) (by unfold maxLen; simp) rfl
  rw [hs2] at O3
  rw [hw3] at kb n0 n1 hsz O3
  clear n2 hs1 hs2
  obtain ⟨b0, hb0⟩ : ∃ x, w.heap.size = x := ⟨_, rfl⟩
  have HB0 := Lib.hid hb0
  rw [hb0] at n0 n1 hsz O3
  have N0 := Lib.hid n0
  have N1 := Lib.hid n1
  have O3H := Lib.hid O3
  have K3 : Hid (Below b0 w w3) := Lib.hid (by rw [← hb0]; exact kb)
  have HS3 := Lib.hid (HS.out.below kb)
  have HSZ := Lib.hid hsz
  have c1 : w3.cell? ⟨b0, 0, none⟩ = some (.slice sa n sc) := cell_of_row n0 0
  have f1 := frozen_of_row w3 b0 0 _ _ n0
  clear n0 n1 O3 kb hsz
  go_wp2_with (at_builtin; refine wpList_append_rows' rfl _ _ 25 rfl b0 39 _ 128 128 Try.underlying25 infoArr rfl (by decide) _ [] rfl O3H.out sa sc (secR secs) (by rw [HSL.out]; rfl) HS3.out (secR_one _) (by rw [HSL.out]; simp; omega) (by rw [HSL.out]; unfold maxLen; simp; omega) (by have := HSZ.out; omega) ?_; intro v4 w4 O4 G4; rw [List.nil_append] at O4; obtain ⟨g4, c4, cs4, hv4, hc4, hm4, hg4, hb4, hz4⟩ := own_form O4 (by rw [HSL.out]; exact h1); rw [HSL.out] at hv4 hc4 hz4; subst hv4; have n4 := (G4.block b0 (by have := HSZ.out; omega) (by intro e; have : b0 = b0 + 1 + 1 := Option.some.inj e; omega)).trans N0.out; have f4 := frozen_of_row w4 b0 0 _ _ n4; have x4 : w4.cell? ⟨b0, 0, none⟩ = some (.slice sa n sc) := cell_of_row n4 0; obtain ⟨w5, hw5⟩ : ∃ x, w4.setCell ⟨b0, 0, none⟩ (.slice (some ⟨g4, 0, none⟩) n c4) = x := ⟨_, rfl⟩)
  have n41 := (G4.block (b0 + 1) (by have := HSZ.out; omega) (by intro e; have : b0 + 1 = b0 + 1 + 1 := Option.some.inj e; omega)).trans N1.out
  have n5 := heap_setCell_same w4 b0 0 _ _ (.slice (some ⟨g4, 0, none⟩) n c4) n4
  have hg4b := nblock hb4 n4 (by decide)
  have o5 : OwnsR' b0 w5 39 128 (.slice (some ⟨g4, 0, none⟩) n c4) (secR secs) := by
    rw [← hw5]
    exact O4.kept (grown_setCellD w4 ⟨b0, 0, none⟩ _) (.inr (by show some g4 ≠ some b0; simpa using hg4b))
  have k4 : Below b0 w w4 := K3.out.grown G4 (by have := HSZ.out; omega) (by intro j hj; have : b0 + 1 + 1 = j := Option.some.inj hj; omega)
  have K5 : Hid (Below b0 w w5) := Lib.hid (by rw [← hw5]; exact k4.setCell (p := ⟨b0, 0, none⟩) (Nat.le_refl _) _)
  have N51 : Hid (w5.heap[b0 + 1]? = some (.cells #[.slice none 0 0, .slice none 0 0, .bool false, .int .i64 0, .int .i64 0] 28 (0, 0))) := Lib.hid (by rw [← hw5]; exact (Below.heap_setCell _ _ _ _ (by show b0 + 1 ≠ b0; omega)).trans n41)
  rw [hw5] at n5
  have N5 : Hid (w5.heap[b0]? = some (.cells #[.slice (some ⟨g4, 0, none⟩) n c4, .slice qa qn qc, .bool dead, .int .i64 arm, .int .i64 dn] 28 (0, 0))) := Lib.hid n5
  have O5 := Lib.hid o5
  clear n4 f4 x4 n41 n5 o5 k4 hw5 hb4 hz4 O4 G4 N0 N1 O3H K3 HS3 c1 f1 hw3
  unfold maxLen at hm4
  go_loopw [5] (fun i wr => ∃ j : Nat, j ≤ m ∧ i = .int .i64 (j : Int) ∧ Hid (Below b0 w wr) ∧ Hid (wr.heap[b0]? = some (.cells #[.slice (some ⟨g4, 0, none⟩) n c4, .slice qa qn qc, .bool dead, .int .i64 arm, .int .i64 dn] 28 (0, 0))) ∧ Hid (wr.heap[b0 + 1]? = some (.cells #[.slice none 0 0, .slice none 0 0, .bool false, .int .i64 0, .int .i64 0] 28 (0, 0))) ∧ Hid (OwnsR' b0 wr 39 128 (.slice (some ⟨g4, 0, none⟩) n c4) (secR (settles (z.take j) secs)))) (fun i _ => m - (intOf i).toNat)
  case atStart => exact ⟨0, Nat.zero_le _, rfl, K5, N5, N51, O5⟩
  case round =>
    obtain ⟨j, hj, rfl, KR, NR, NR1, OR⟩ := hrel
    clear K5 N5 N51 O5
    by_cases hlt : j < m
    · obtain ⟨p, hp⟩ : ∃ p, z[j]? = some p := ⟨_, List.getElem?_eq_getElem (by rw [HZM.out]; exact hlt)⟩
      obtain ⟨hp1, hp2⟩ := HZ.out p (List.mem_of_getElem? hp)
      have hrow : (rowsW z)[j]? = some (wrV p) := by unfold rowsW; rw [List.getElem?_map, hp]; rfl
      obtain ⟨lb, lo, rfl, hlb0, -⟩ := HL.out.row hrow
      obtain ⟨lb2, lo2, e0, hlb, hc⟩ := (HL.out.below (by rw [HB0.out]; exact KR.out)).row hrow
      cases e0
      rw [HB0.out] at hlb0
      obtain ⟨pa, ps⟩ := p
      have d0 : wr.cell? ⟨lb, lo + j * 129, none⟩ = some (.int .i64 (pa : Int)) := hc 0 _ rfl
      have d1 : wr.rangeAt lb (lo + j * 129 + 1) (ps.map byteV) := fun i v hv => by have := hc (i + 1) v hv; rwa [show lo + (j * 129 + (i + 1)) = lo + j * 129 + 1 + i from by omega] at this
      have c0 : wr.cell? ⟨b0, 0, none⟩ = some (.slice (some ⟨g4, 0, none⟩) n c4) := cell_of_row NR.out 0
      obtain ⟨cs, hcs, hcz⟩ : ∃ cs, wr.heap[g4]? = some (.cells cs 39 (0, 0)) ∧ n * 128 ≤ cs.size := by
        obtain ⟨g9, c9, cs, e9, _, _, _, hb9, hz9⟩ := own_form OR.out (by unfold secR; rw [List.length_map, settles_len, HSN.out]; exact h1)
        have hgg : g9 = g4 := by have := (Value.slice.inj e9).1; simpa using this.symm
        rw [hgg] at hb9
        refine ⟨cs, hb9, ?_⟩
        have : (secR (settles (z.take j) secs)).length = n := by unfold secR; rw [List.length_map, settles_len, HSN.out]
        rw [this] at hz9
        exact hz9
      have hth : wr.there g4 (pa * 128) 128 := fun i hi => by
        refine ⟨?_, frozen_of_row _ _ _ _ _ hcs⟩
        have hlt : pa * 128 + i < cs.size := by
          have : (pa + 1) * 128 ≤ n * 128 := Nat.mul_le_mul_right _ hp1
          omega
        unfold World.cell?
        rw [hcs]
        simp [hlt]
      have hu : Try.prog.underlying 39 = some (.array 128 5) := by kernel_rfl
      have hsi : (Try.prog.info? 39).map (·.size) = some (ps.map byteV).length := by rw [List.length_map, hp2]; exact size_arr128
      have hl8 : (ps.map byteV).length = 128 := by rw [List.length_map]; exact hp2
      have hone : ∀ v ∈ ps.map byteV, v.oneCell' = true := byteV_oneCell ps
      have hx0 : (0 : Int) ≤ (j : Int) := by omega
      have hx1 : (j : Int) < (m : Int) := by omega
      have hx2 : (0 : Int) ≤ (pa : Int) ∧ (pa : Int) < (n : Int) := by have : pa < n := hp1; omega
      have hbg := nblock hcs NR.out (by decide)
      have hbg1 := nblock hcs NR1.out (by decide)
      have hlg : lb ≠ g4 := by omega
      have HP := Lib.hid hp
      have HP1 : Hid (pa < n) := Lib.hid hp1
      have HL8 := Lib.hid hl8
      have HLT := Lib.hid hlt
      clear hp hp1 hp2 hrow hc hcs hcz hlt
      go_wp2_with fail
      go_region_held3 (fun w' => w'.cell? ⟨b0, 0, none⟩ = some (.slice (some ⟨g4, 0, none⟩) n c4) ∧ w'.cell? ⟨lb, lo + j * 129, none⟩ = some (.int .i64 pa) ∧ w'.rangeAt lb (lo + j * 129 + 1) (ps.map byteV) ∧ w'.there g4 (pa * 128) 128)
        (first | go_keep_ranges | exact ⟨(setCells_cell (Ne.symm hbg) _ _ _ wr.drew).trans c0, (setCells_cell hlg _ _ _ wr.drew).trans d0, World.rangeAt_setCells_apart (show wr.drew.rangeAt lb (lo + j * 129 + 1) (ps.map byteV) from d1) _ _ _ (.inl hlg), World.there_setCells (show wr.drew.there g4 (pa * 128) 128 from hth) _ _ _⟩) (fail)
      rename_i hheld
      clear hheld
      go_wp2
      have h1 := HLT.out
      go_roundw
      case rel =>
        have ho : Only g4 wr (wr.drew.setCells g4 (pa * 128) (ps.map byteV)) := (only_drew g4 wr).trans (setCells_only g4 (ps.map byteV) (pa * 128) wr.drew)
        refine ⟨j + 1, HLT.out, by go_num, ?_, ?_, ?_, ?_⟩
        · exact KR.out.trans ⟨ho.os, ho.tape, ho.output, Nat.le_of_eq ho.size.symm, fun k hk => ho.block k (by omega)⟩
        · exact (ho.block b0 (Ne.symm hbg)).trans NR.out
        · exact (ho.block (b0 + 1) (Ne.symm hbg1)).trans NR1.out
        · show OwnsR' _ _ _ _ _ _
          rw [settles_take HP.out, secR_set]
          exact rows_set (show OwnsR' b0 wr.drew _ _ _ _ from OR.out) (by unfold secR; rw [List.length_map, settles_len, HSN.out]) HP1.out HL8.out
      case measure => simp [intOf]; omega
    · obtain rfl : j = m := by omega
      have htl : z.take j = z := List.take_of_length_le (by rw [HZM.out]; exact Nat.le_refl _)
      rw [htl] at OR
      have hge : ¬ (j : Int) < (j : Int) := by omega
      have c1 : wr.cell? ⟨b0, 1, none⟩ = some (.slice qa qn qc) := cell_of_row NR.out 1
      have f1 := frozen_of_row wr b0 1 _ _ NR.out
      have n6 := heap_setCell_same wr b0 1 _ _ (.slice none 0 0) NR.out
      obtain ⟨w6, hw6⟩ : ∃ x, wr.setCell ⟨b0, 1, none⟩ (.slice none 0 0) = x := ⟨_, rfl⟩
      rw [hw6] at n6
      have x0 : w6.cell? ⟨b0, 0, none⟩ = some (.slice (some ⟨g4, 0, none⟩) n c4) := cell_of_row n6 0
      have x1 : w6.cell? ⟨b0, 1, none⟩ = some (.slice none 0 0) := cell_of_row n6 1
      have x2 : w6.cell? ⟨b0, 2, none⟩ = some (.bool dead) := cell_of_row n6 2
      have x3 : w6.cell? ⟨b0, 3, none⟩ = some (.int .i64 arm) := cell_of_row n6 3
      have x4 : w6.cell? ⟨b0, 4, none⟩ = some (.int .i64 dn) := cell_of_row n6 4
      have n61 : w6.heap[b0 + 1]? = some (.cells #[.slice none 0 0, .slice none 0 0, .bool false, .int .i64 0, .int .i64 0] 28 (0, 0)) := by rw [← hw6]; exact (Below.heap_setCell _ _ _ _ (by show b0 + 1 ≠ b0; omega)).trans NR1.out
      have z0 : w6.cell? ⟨b0 + 1, 0, none⟩ = some (.slice none 0 0) := cell_of_row n61 0
      have z1 : w6.cell? ⟨b0 + 1, 1, none⟩ = some (.slice none 0 0) := cell_of_row n61 1
      have z2 : w6.cell? ⟨b0 + 1, 2, none⟩ = some (.bool false) := cell_of_row n61 2
      have z3 : w6.cell? ⟨b0 + 1, 3, none⟩ = some (.int .i64 0) := cell_of_row n61 3
      have z4 : w6.cell? ⟨b0 + 1, 4, none⟩ = some (.int .i64 0) := cell_of_row n61 4
      have ff := fun i => frozen_of_row w6 (b0 + 1) i _ _ n61
      have O6 : Hid (OwnsR' b0 w6 39 128 (.slice (some ⟨g4, 0, none⟩) n c4) (secR (settles z secs))) := Lib.hid (by
        obtain ⟨g9, c9, cs, e9, _, _, _, hb9, _⟩ := own_form OR.out (by unfold secR; rw [List.length_map, settles_len, HSN.out]; exact h1)
        have hgg : g9 = g4 := by have := (Value.slice.inj e9).1; simpa using this.symm
        rw [hgg] at hb9
        have hbg := nblock hb9 NR.out (by decide)
        rw [← hw6]
        exact OR.out.kept (grown_setCellD wr ⟨b0, 1, none⟩ _) (.inr (by intro e; have : g4 = b0 := Option.some.inj e; exact hbg this)))
      have hg4b1 : g4 ≠ b0 + 1 := by
        obtain ⟨g9, c9, cs, e9, _, _, _, hb9, _⟩ := own_form OR.out (by unfold secR; rw [List.length_map, settles_len, HSN.out]; exact h1)
        have hgg : g9 = g4 := by have := (Value.slice.inj e9).1; simpa using this.symm
        rw [hgg] at hb9
        exact nblock hb9 NR1.out (by decide)
      have K6 : Hid (Below b0 w w6) := Lib.hid (by rw [← hw6]; exact KR.out.setCell (p := ⟨b0, 1, none⟩) (Nat.le_refl _) _)
      have F7 := Lib.hid (five_set (.slice (some ⟨g4, 0, none⟩) n c4) (.slice none 0 0) (.bool dead) (.int .i64 arm) (.int .i64 dn) n61)
      clear n6 n61 OR NR NR1 KR htl hlt
      go_wp2
      refine bodyPost_ret (results_five rfl _ _ (b0 + 1) rfl F7.out.1) rfl ?_
      refine ⟨some ⟨g4, 0, none⟩, c4, rfl, ?_, ?_⟩
      · exact O6.out.kept F7.out.2 (.inr (by intro e; have : g4 = b0 + 1 := Option.some.inj e; exact hg4b1 this))
      · exact K6.out.grown F7.out.2 (by have := K6.out.size; have := HB0.out; omega) (fun i hi => by obtain rfl := Option.some.inj hi; omega)
end Go.Proofs.Ythainmbapikjiaa
