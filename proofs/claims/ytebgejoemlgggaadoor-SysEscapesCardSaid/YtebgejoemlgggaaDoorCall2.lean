/- A word of a call's text. -/
import Derived.Test.YtebgejoemlgggaaDoorCall1
namespace Go.Proofs.YtebgejoemlgggaaDoor
open Go.RowKit Go.Sort
set_option linter.unusedVariables false
set_option linter.unusedSimpArgs false
set_option maxRecDepth 100000

theorem below_bytesB (w : World) (e : TypeId) (s : ByteArray) : Below w.heap.size w (Lib.bytesWorld w e s) :=
  ⟨rfl, rfl, rfl, by rw [Lib.bytesWorld_size]; omega, fun j hj => Lib.bytesWorld_at_old w e s j hj⟩
theorem reads_bytesB (w : World) (e : TypeId) (s : ByteArray) : Reads (Lib.bytesWorld w e s) (some ⟨w.heap.size, 0, none⟩) s.size (nb s.data.toList) := by
  refine ⟨by rw [nb_length, ← Lib.size_eq], nb_lt _, .inr ⟨w.heap.size, 0, rfl, by rw [Lib.bytesWorld_size]; omega, fun i hi => ?_⟩⟩
  rw [Nat.zero_add, Lib.bytesWorld_cell w e s i hi]
  have hl : i < s.data.toList.length := by rw [← Lib.size_eq]; exact hi
  unfold nb
  rw [List.getD_eq_getElem?_getD, List.getD_eq_getElem?_getD, List.getElem?_map, List.getElem?_eq_getElem hl]
  rfl
theorem conv_bytesB (w : World) (s : ByteArray) : (convert 9 22 (.string s)).run Tryd.prog w = .ok (.slice (some ⟨w.heap.size, 0, none⟩) s.size (grownCap w s.size 0 5)) (Lib.bytesWorld w 5 s) :=
  Lib.run_convert_string_bytes (P := Tryd.prog) w 9 22 5 s Tryd.underlying9 Tryd.underlying22 Tryd.underlying5
/-- The word of a thing that a call has. -/
def wordL (l : Nat) (a b : Int) (S T d : Bx) : Bx := if l = 65 then Lib.itoa a else if l = 66 then Lib.itoa b else if l = 83 then escL S else if l = 84 then escL T else escL d
set_option maxHeartbeats 1600000 in
theorem word_is (l : Nat) (hl : l ∈ [65, 66, 83, 84, 68]) (op a b : Int) (S T : ByteArray) (da : Option Addr) (dn dc : Nat) (d : Bx) (w : World) (hv : VarsAt w) (ha : I64 a) (hb : I64 b) (hS : S.size ≤ 20000) (hT : T.size ≤ 20000) (hd : Reads w da dn (nb d)) (hdc : dn ≤ dc) (hdl : d.length ≤ 20000) :
    Calls Tryd.prog 56 #[.agg #[.int .i64 op, .int .i64 a, .int .i64 b, .string S, .string T, .slice da dn dc], .int .u8 (l : Int)] w fun e w' => e = .returned (strB (wordL l a b S.data.toList T.data.toList d)) ∧ Below w.heap.size w w' := by
  have kx := below_box w (.cells #[.int .i64 op, .int .i64 a, .int .i64 b, .string S, .string T, .slice da dn dc] 27)
  have nx := heap_alloc_new w (.cells #[.int .i64 op, .int .i64 a, .int .i64 b, .string S, .string T, .slice da dn dc] 27)
  obtain ⟨w1, hw1⟩ : ∃ x, w.alloc (.cells #[.int .i64 op, .int .i64 a, .int .i64 b, .string S, .string T, .slice da dn dc] 27) = x := ⟨_, rfl⟩
  rw [hw1] at kx nx
  have HA := Lib.hid (itoa_is a ha w1 (hv.below kx).pow)
  have HBB := Lib.hid (itoa_is b hb w1 (hv.below kx).pow)
  have HD := Lib.hid (pesc_is da dn dc d w1 (hd.below kx) hdc hdl)
  have c1 := cell_atB nx 1
  have c2 := cell_atB nx 2
  have c3 := cell_atB nx 3
  have c4 := cell_atB nx 4
  have c5 := cell_atB nx 5
  have HS := Lib.hid (pesc_is (some ⟨w1.heap.size, 0, none⟩) S.size (grownCap w1 S.size 0 5) S.data.toList (Lib.bytesWorld w1 5 S) (reads_bytesB w1 _ S) (grownCap_ge _ _ _ _) (by rw [← Lib.size_eq]; exact hS))
  have HTT := Lib.hid (pesc_is (some ⟨w1.heap.size, 0, none⟩) T.size (grownCap w1 T.size 0 5) T.data.toList (Lib.bytesWorld w1 5 T) (reads_bytesB w1 _ T) (grownCap_ge _ _ _ _) (by rw [← Lib.size_eq]; exact hT))
  have v1 := conv_bytesB w1 S
  have v2 := conv_bytesB w1 T
  have K1 := Lib.hid (below_next kx (below_bytesB w1 5 S))
  have K2 := Lib.hid (below_next kx (below_bytesB w1 5 T))
  have KX := Lib.hid kx
  obtain ⟨W1, hW1⟩ : ∃ x, Lib.bytesWorld w1 5 S = x := ⟨_, rfl⟩
  obtain ⟨W2, hW2⟩ : ∃ x, Lib.bytesWorld w1 5 T = x := ⟨_, rfl⟩
  obtain ⟨G1, hG1⟩ : ∃ x, grownCap w1 S.size 0 5 = x := ⟨_, rfl⟩
  obtain ⟨G2, hG2⟩ : ∃ x, grownCap w1 T.size 0 5 = x := ⟨_, rfl⟩
  rw [hW1] at HS v1 K1
  rw [hW2] at HTT v2 K2
  rw [hG1] at HS v1
  rw [hG2] at HTT v2
  clear hW1 hW2 hG1 hG2 kx nx hv ha hb hd hdc hdl hS hT
  go_enter Tryd.func56, Tryd.ntmps56
  simp only [List.mem_cons, List.not_mem_nil, or_false] at hl
  rcases hl with rfl | rfl | rfl | rfl | rfl
  · go_wp2_with fail
    refine HA.out.mono ?_
    rintro e w2 ⟨rfl, b2⟩
    go_wp2
    go_ret
    exact ⟨rfl, below_next KX.out b2⟩
  · go_wp2_with fail
    refine HBB.out.mono ?_
    rintro e w2 ⟨rfl, b2⟩
    go_wp2
    go_ret
    exact ⟨rfl, below_next KX.out b2⟩
  · go_wp2_with fail
    refine HS.out.mono ?_
    rintro e w2 ⟨rfl, b2⟩
    go_wp2
    go_ret
    exact ⟨rfl, below_next K1.out b2⟩
  · go_wp2_with fail
    refine HTT.out.mono ?_
    rintro e w2 ⟨rfl, b2⟩
    go_wp2
    go_ret
    exact ⟨rfl, below_next K2.out b2⟩
  · go_wp2_with fail
    refine HD.out.mono ?_
    rintro e w2 ⟨rfl, b2⟩
    go_wp2
    go_ret
    exact ⟨rfl, below_next KX.out b2⟩
end Go.Proofs.YtebgejoemlgggaaDoor
