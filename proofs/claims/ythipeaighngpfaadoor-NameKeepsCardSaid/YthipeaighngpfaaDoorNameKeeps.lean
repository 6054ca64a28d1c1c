/- The law NameKeeps is true for every input: what is answered shares nothing with what was handed in. No condition but that the tables of Go's own library that the row lists read as they are laid. -/
import Derived.Test.YthipeaighngpfaaDoorNameAwake
import Derived.Test.YthipeaighngpfaaDoorLast
import Derived.Test.YthipeaighngpfaaDoorLaid
import Derived.Test.YthipeaighngpfaaDoorCards
import Derived.Test.YthipeaighngpfaaDoorTie
import Derived.SevenTiedAt
import Derived.Lay
namespace Go.Proofs.YthipeaighngpfaaDoor
open Go.ChangeShapes Go.WideShapes Go.ChangeAt Go.RowKit Go.Sort
open Go.ChangeMaps (open_string)
set_option linter.unusedVariables false
set_option linter.unusedSimpArgs false
set_option maxRecDepth 100000

/-- What Last leaves, whatever it answers. -/
theorem LastPost.up {ab : Bool} {Q : List Bs} {w w' : World} {e : Ending} (h : LastPost ab Q w e w') : ∃ (u0 u1 bo : Bool) (v : Value) (D : List Bs) (x : ByteArray), e = .returned (.tuple #[.agg #[.bool u0, .bool u1, v], .string x, .bool bo]) ∧ OwnsV w.heap.size w' 9 v (strsV D) ∧ D.length ≤ Q.length ∧ Below w.heap.size w w' := by
  rcases h with ⟨_, he, hb⟩ | ⟨D, p, v, hQ, _, he, ho, hb⟩
  · exact ⟨_, _, _, _, [], _, he, OwnsV.nil _ _ _, Nat.zero_le _, hb⟩
  · exact ⟨_, _, _, v, D, _, he, ho, by rw [hQ]; simp, hb⟩
/-- A row that is written over, text by text. -/
def Over (B : Nat) (W wr : World) (v : Value) (n : Nat) : Prop := ∃ L : List Value, L.length = n ∧ OwnsV B wr 9 v L ∧ Below W.heap.size W wr
theorem over_store {W wr : World} {g n cap i : Nat} (h : Over W.heap.size W wr (.slice (some ⟨g, 0, none⟩) n cap) n) (u : Value) : Over W.heap.size W (wr.setCell ⟨g, i, none⟩ u) (.slice (some ⟨g, 0, none⟩) n cap) n := by
  obtain ⟨L, h1, h2, h3⟩ := h
  have hs := h2.stored h1 i u
  exact ⟨L.set i u, by rw [List.length_set]; exact h1, hs.1, h3.grown hs.2 h3.size fun k hk => (h2.lt k hk).1⟩
theorem over_cell {W wr : World} {g n cap i : Nat} (h : Over W.heap.size W wr (.slice (some ⟨g, 0, none⟩) n cap) n) (hi : i < n) : (∃ u, wr.cell? ⟨g, i, none⟩ = some u) ∧ wr.frozen? ⟨g, i, none⟩ = false ∧ g < wr.heap.size ∧ W.heap.size ≤ g := by
  obtain ⟨L, h1, h2, h3⟩ := h
  refine ⟨?_, h2.frozen h1 i, (h2.lt g rfl).2, (h2.lt g rfl).1⟩
  rcases h2.head with ⟨e, _⟩ | ⟨g', c', e, _, _, _, _, hc⟩
  · cases e
  · cases e
    exact ⟨_, hc i _ (List.getElem?_eq_getElem (by omega))⟩

theorem Kept3.grownBy {w w' : World} {g : Nat} {x y z : Value} {row : Option Nat} (h : Kept3 w g x y z) (hg : w.grownBy w' row) (hne : some g ≠ row) : Kept3 w' g x y z := by
  obtain ⟨h0, h1, h2, f0, f1, f2, hz⟩ := h
  have hb := hg.block g hz hne
  exact ⟨(World.cell?_of_block (a := ⟨g, 0, none⟩) (w := w) hb).trans h0, (World.cell?_of_block (a := ⟨g, 1, none⟩) (w := w) hb).trans h1, (World.cell?_of_block (a := ⟨g, 2, none⟩) (w := w) hb).trans h2,
    (World.frozen?_of_block (a := ⟨g, 0, none⟩) (w := w) hb).trans f0, (World.frozen?_of_block (a := ⟨g, 1, none⟩) (w := w) hb).trans f1, (World.frozen?_of_block (a := ⟨g, 2, none⟩) (w := w) hb).trans f2, Nat.le_trans hz hg.size⟩

theorem Over.cell {W wr : World} {a : Option Addr} {n cap i : Nat} (h : Over W.heap.size W wr (.slice a n cap) n) (hi : i < n) : ∃ g, a = some ⟨g, 0, none⟩ ∧ (∃ u, wr.cell? ⟨g, i, none⟩ = some u) ∧ wr.frozen? ⟨g, i, none⟩ = false ∧ g < wr.heap.size ∧ W.heap.size ≤ g := by
  have h' := h
  obtain ⟨L, h1, h2, h3⟩ := h
  rcases h2.head with ⟨e, e2⟩ | ⟨g', c', e, _⟩
  · subst e2; simp at h1; omega
  · cases e
    exact ⟨g', rfl, over_cell h' hi⟩
theorem Over.kept {W wr : World} {g n cap i b : Nat} {x y z : Value} (h : Over W.heap.size W wr (.slice (some ⟨g, 0, none⟩) n cap) n) (k : Kept3 wr b x y z) (hne : b ≠ g) (u : Value) : Kept3 (wr.setCell ⟨g, i, none⟩ u) b x y z := by
  obtain ⟨L, h1, h2, h3⟩ := h
  exact k.grownBy (h2.stored h1 i u).2 (fun e => hne (Option.some.inj e))

set_option maxHeartbeats 25600000 in
theorem nameKeeps_walk (s more : ByteArray) (w : World) (hs : s.size ≤ maxLen) : Calls Tryd.prog 11 #[.string s, .string more] w fun e w' => e = .returned (.bool true) ∧ Below w.heap.size w w' := by
  have HS := Lib.hid hs
  obtain ⟨t, ht⟩ : ∃ t, shortS s = t := ⟨_, rfl⟩
  obtain ⟨l, hl⟩ : ∃ l, t.data.toList = l := ⟨_, rfl⟩
  obtain ⟨mp, hmp⟩ : ∃ m, more.data.toList = m := ⟨_, rfl⟩
  have hpp := pparse_is t
  rw [hl] at hpp
  have HPP := Lib.hid hpp
  have HT := Lib.hid ht
  have HMP := Lib.hid hmp
  have hqn : (pParts l).length ≤ 32 := by
    unfold pParts
    split
    · rename_i h0
      exact (okParts_iff.1 (parseE_ok h0).2.2.2).2
    · simp
  have HQN := Lib.hid hqn
  clear hs ht hl hpp hqn hmp
  go_enter Tryd.func11, Tryd.ntmps11
  go_wp2_with fail
  refine (awake8_true w).mono ?_
  rintro e w0 ⟨rfl, c0⟩
  have C0 := Lib.hid c0
  clear c0
  go_wp2_with fail
  refine (short_is s w0 HS.out).mono ?_
  rintro e w1 ⟨rfl, rfl⟩
  rw [HT.out]
  go_wp2_with fail
  refine (HPP.out _).mono ?_
  rintro e w1 hpp
  obtain ⟨a1, cp1, rfl, r1, n1, m1, b1⟩ := hpp.path
  have C1 := Lib.hid (below_next C0.out b1)
  clear hpp b1 C0
  generalize pAbs l = ab at *
  generalize pDir l = di at *
  generalize pParts l = Q at *
  generalize parseE l = E at *
  obtain ⟨n, hn⟩ : ∃ n, Q.length = n := ⟨_, rfl⟩
  have HN := Lib.hid hn
  rw [hn] at r1 n1 HQN ⊢
  clear hn
  have hK1 : Kept3 (w1.alloc (.cells #[.bool ab, .bool di, .slice a1 n cp1] 57)) w1.heap.size (.bool ab) (.bool di) (.slice a1 n cp1) := kept3_of (t := 57) (heap_alloc_new w1 _)
  have hR1 : ReadsV (w1.alloc (.cells #[.bool ab, .bool di, .slice a1 n cp1] 57)) a1 n (strsV Q) := r1.alloc _
  have C2 : Hid (Below w.heap.size w (w1.alloc (.cells #[.bool ab, .bool di, .slice a1 n cp1] 57))) := below_next C1.out (below_box w1 _)
  have N1 := Lib.hid n1
  have hql : Q.length ≤ 400 := by have := HN.out; have := HQN.out; omega
  have HQL := Lib.hid hql
  have hsz1 : (w1.alloc (.cells #[.bool ab, .bool di, .slice a1 n cp1] 57)).heap.size = w1.heap.size + 1 := by simp
  have OA : Hid (OwnsV w.heap.size ((w1.alloc (.cells #[.bool ab, .bool di, .slice a1 n cp1] 57)).alloc (.cells #[] 9)) 9 (.slice (some ⟨w1.heap.size + 1, 0, none⟩) 0 0) (strsV [])) := by
    have h := OwnsV.new (B := w.heap.size) (w := (w1.alloc (.cells #[.bool ab, .bool di, .slice a1 n cp1] 57))) (e := 9) #[] C2.out.size (by decide)
    rw [hsz1] at h
    exact h
  have BA : Hid (Below w.heap.size w ((w1.alloc (.cells #[.bool ab, .bool di, .slice a1 n cp1] 57)).alloc (.cells #[] 9))) := below_next C2.out (below_box _ _)
  have RA : Hid (ReadsV ((w1.alloc (.cells #[.bool ab, .bool di, .slice a1 n cp1] 57)).alloc (.cells #[] 9)) a1 n (strsV Q)) := hR1.alloc _
  have KA : Hid (Kept3 ((w1.alloc (.cells #[.bool ab, .bool di, .slice a1 n cp1] 57)).alloc (.cells #[] 9)) w1.heap.size (.bool ab) (.bool di) (.slice a1 n cp1)) := hK1.more _
  have HG3 : Hid (∀ W : World, ((w1.alloc (.cells #[.bool ab, .bool di, .slice a1 n cp1] 57)).alloc (.cells #[] 9)).grownBy W (Value.ownBlock (.slice (some ⟨w1.heap.size + 1, 0, none⟩) 0 0)) → Below (w1.heap.size + 1) (w1.alloc (.cells #[.bool ab, .bool di, .slice a1 n cp1] 57)) W) := fun W hg => by
    have h := OwnsV.new (B := w1.heap.size + 1) (w := (w1.alloc (.cells #[.bool ab, .bool di, .slice a1 n cp1] 57))) (e := 9) #[] (by rw [hsz1]; exact Nat.le_refl _) (by decide)
    rw [hsz1] at h
    have hb : Below (w1.heap.size + 1) (w1.alloc (.cells #[.bool ab, .bool di, .slice a1 n cp1] 57)) ((w1.alloc (.cells #[.bool ab, .bool di, .slice a1 n cp1] 57)).alloc (.cells #[] 9)) := by
      have := below_box (w1.alloc (.cells #[.bool ab, .bool di, .slice a1 n cp1] 57)) (.cells #[] 9)
      rwa [hsz1] at this
    exact OwnsV.grown h hb (by simp) hg
  have HK3 : Hid (∀ W : World, Below (w1.heap.size + 1) (w1.alloc (.cells #[.bool ab, .bool di, .slice a1 n cp1] 57)) W → Kept3 W w1.heap.size (.bool ab) (.bool di) (.slice a1 n cp1) ∧ ReadsV W a1 n (strsV Q)) := fun W hb => by
    have hb' : Below (w1.alloc (.cells #[.bool ab, .bool di, .slice a1 n cp1] 57)).heap.size (w1.alloc (.cells #[.bool ab, .bool di, .slice a1 n cp1] 57)) W := by rw [hsz1]; exact hb
    exact ⟨hK1.below hb', hR1.below hb'⟩
  have R1 := Lib.hid r1
  clear r1 n1 m1 C1 HPP hql hK1 hR1 hsz1
  by_cases hE : E = 0
  · subst hE
    go_wp2_with (at_builtin; refine wpList_append_vals rfl _ _ _ rfl w.heap.size 9 _ 16 Tryd.underlying55 info_str rfl (.slice (some ⟨w1.heap.size + 1, 0, none⟩) 0 0) (strsV []) rfl OA.out a1 n cp1 rfl (strsV Q) RA.out (strsV_one Q) (by have := HQN.out; simp only [strsV_length, List.length_nil]; omega) (by have := HQN.out; unfold maxLen; simp only [strsV_length, List.length_nil]; omega) BA.out.size ?_; intro v3 w3 h1' h2'; have O3 := Lib.hid (show OwnsV w.heap.size w3 9 v3 (strsV Q) from h1'); have C3 := Lib.hid (OwnsV.grown OA.out BA.out BA.out.size h2'); have hb13 := HG3.out _ h2'; have K3 := Lib.hid (HK3.out _ hb13).1; have R13 := Lib.hid (HK3.out _ hb13).2; clear hb13; obtain ⟨x0, x1, x2, _, _, _, xz⟩ := K3.out; clear h1' h2')
    obtain ⟨a3, cp3, hv3, r3, _, _⟩ := O3.out.reads
    rw [strsV_length, HN.out] at hv3 r3
    subst hv3
    have R33 := Lib.hid r3
    have HLA : Hid (∀ W : World, ReadsV W a1 n (strsV Q) → Calls Tryd.prog 35 #[.agg #[.bool ab, .bool di, .slice a1 n cp1]] W (LastPost ab Q W)) := fun W h1 => by
      have h2 := HN.out
      rw [← h2] at h1 ⊢
      exact last_is ab di a1 cp1 Q W h1 (by rw [h2]; exact N1.out) HQL.out
    clear r3 OA BA RA KA HG3 HK3 R1 O3 C2
    (with_reducible refine (HLA.out _ R13.out).mono ?_)
    rintro e w4 hlp
    obtain ⟨u0, u1, bo, v5, D, xl, rfl, o5, hD, b4⟩ := hlp.up
    obtain ⟨a5, cp5, hv5, _, _, _⟩ := o5.reads
    rw [strsV_length] at hv5
    subst hv5
    clear hlp x0 x1 x2 xz
    have O5 := Lib.hid o5
    have B4 := Lib.hid b4
    have hdl : D.length ≤ 400 := Nat.le_trans hD HQL.out
    have HDL := Lib.hid hdl
    have hz3 : w3.heap.size ≤ w4.heap.size := b4.size
    have HZ3 := Lib.hid hz3
    have K84 : Hid (Kept3 ((w4.alloc (.cells #[.bool u0, .bool u1, .slice a5 D.length cp5] 57)).alloc (.cells #[.string more] 9)) w4.heap.size (.bool u0) (.bool u1) (.slice a5 D.length cp5)) := (kept3_of (t := 57) (heap_alloc_new w4 _)).more _
    have OB : Hid (OwnsV w3.heap.size ((w4.alloc (.cells #[.bool u0, .bool u1, .slice a5 D.length cp5] 57)).alloc (.cells #[.string more] 9)) 9 (.slice a5 D.length cp5) (strsV D)) := (O5.out.alloc _).alloc _
    have BB : Hid (Below w3.heap.size w3 ((w4.alloc (.cells #[.bool u0, .bool u1, .slice a5 D.length cp5] 57)).alloc (.cells #[.string more] 9))) := (B4.out.alloc HZ3.out _).alloc (by simp; omega) _
    have hsz8 : (w4.alloc (.cells #[.bool u0, .bool u1, .slice a5 D.length cp5] 57)).heap.size = w4.heap.size + 1 := by simp
    have RB : Hid (ReadsV ((w4.alloc (.cells #[.bool u0, .bool u1, .slice a5 D.length cp5] 57)).alloc (.cells #[.string more] 9)) (some ⟨w4.heap.size + 1, 0, none⟩) 1 (strsV [mp])) := by
      have h1 := ReadsV.lit (w4.alloc (.cells #[.bool u0, .bool u1, .slice a5 D.length cp5] 57)) #[.string more] 9
      have e : (#[Value.string more] : Array Value).toList = strsV [mp] := by rw [← strV_of more, HMP.out]; rfl
      rw [e, hsz8] at h1
      exact h1
    clear o5 b4 hD hdl hz3 hsz8
    go_wp2_with (at_builtin; refine wpList_append_vals rfl _ _ _ rfl w3.heap.size 9 _ 16 Tryd.underlying55 info_str rfl (.slice a5 D.length cp5) (strsV D) rfl OB.out (some ⟨w4.heap.size + 1, 0, none⟩) 1 1 rfl (strsV [mp]) RB.out (strsV_one [mp]) (by have := HDL.out; rw [strsV_length]; omega) (by have := HDL.out; unfold maxLen; rw [strsV_length]; omega) BB.out.size ?_; intro v6 w5 h1' h2'; obtain ⟨a6, cp6, hv6, _, _, _⟩ := OwnsV.reads h1'; obtain ⟨n6, hn6⟩ : ∃ n6, (strsV D ++ strsV [mp]).length = n6 := ⟨_, rfl⟩; rw [hn6] at hv6; subst hv6; have B5 := Lib.hid (OwnsV.grown OB.out BB.out BB.out.size h2'); have K85 := K84.out.grownBy h2' (fun e => by have := (O5.out.lt _ e.symm).2; omega); obtain ⟨y0, y1, y2, z0, z1, z2, yz⟩ := K85; have BX := Lib.hid (B5.out.setCell (p := ⟨w4.heap.size, 2, none⟩) HZ3.out (.slice a6 n6 cp6)); have KX := Lib.hid (K3.out.below BX.out); obtain ⟨x0, x1, x2, _, _, _, xz⟩ := KX.out; clear h1' h2' hn6)
    have RM6 : Hid (ReadsV ((w5.setCell ⟨w4.heap.size, 2, none⟩ (.slice a6 n6 cp6)).alloc (.cells #[.string more] 9)) (some ⟨w5.heap.size, 0, none⟩) 1 (strsV [mp])) := by
      have h1 := ReadsV.lit (w5.setCell ⟨w4.heap.size, 2, none⟩ (.slice a6 n6 cp6)) #[.string more] 9
      have e : (#[Value.string more] : Array Value).toList = strsV [mp] := by rw [← strV_of more, HMP.out]; rfl
      have e2 : (w5.setCell ⟨w4.heap.size, 2, none⟩ (.slice a6 n6 cp6)).heap.size = w5.heap.size := by simp [World.setCell]
      rw [e, e2] at h1
      exact h1
    have B6 : Hid (Below w3.heap.size w3 ((w5.setCell ⟨w4.heap.size, 2, none⟩ (.slice a6 n6 cp6)).alloc (.cells #[.string more] 9))) := BX.out.alloc BX.out.size _
    generalize (w5.setCell ⟨w4.heap.size, 2, none⟩ (.slice a6 n6 cp6)).alloc (.cells #[.string more] 9) = W6 at *
    have K6 := Lib.hid (K3.out.below B6.out)
    have R16 := Lib.hid (R13.out.below B6.out)
    have R36 := Lib.hid (R33.out.below B6.out)
    have C6 := Lib.hid (below_next C3.out B6.out)
    have HJ : Hid (Calls Tryd.prog 36 #[.agg #[.bool ab, .bool di, .slice a1 n cp1], .agg #[.bool false, .bool false, .slice (some ⟨w5.heap.size, 0, none⟩) 1 1]] W6 (JoinPost ab false (Q ++ [mp]) W6)) := by
      have h1 := R16.out
      have h2 := HN.out
      rw [← h2] at h1 ⊢
      exact join_rel ab di a1 cp1 Q false (some ⟨w5.heap.size, 0, none⟩) 1 [mp] W6 h1 RM6.out HQL.out (by simp) (by simp)
    have HCP : Hid (∀ W : World, ReadsV W a1 n (strsV Q) → Calls Tryd.prog 37 #[.agg #[.bool ab, .bool di, .slice a1 n cp1]] W (CleanPost Q W)) := fun W h1 => by
      have h2 := HN.out
      have h3 := HQL.out
      rw [← h2] at h1 ⊢
      exact pclean_is ab di a1 cp1 Q W h1 (by omega)
    have HSM : Hid (∀ W : World, ReadsV W a3 n (strsV Q) → ReadsV W a1 n (strsV Q) → Calls Tryd.prog 31 #[.agg #[.bool false, .bool false, .slice a3 n cp3], .agg #[.bool false, .bool false, .slice a1 n cp1]] W fun e w' => e = .returned (.bool true) ∧ Below W.heap.size W w') := fun W h1 h4 => by
      have h2 := HN.out
      have h3 := HQL.out
      rw [← h2] at h1 h4 ⊢
      exact same_is false false a3 a1 cp3 cp1 Q W h1 h4 (by omega)
    clear x0 x1 x2 xz y0 y1 y2 z0 z1 z2 yz BX KX OB BB RB K84 B5 O5 HLA R13 R33 K3 C3 B6 RM6 B4
    (with_reducible refine HJ.out.mono ?_)
    rintro e w7 ⟨v7, rfl, o7, b7⟩
    obtain ⟨a7, cp7, hv7, _, _, _⟩ := o7.reads
    obtain ⟨n7, hn7⟩ : ∃ n7, (strsV (Q ++ [mp])).length = n7 := ⟨_, rfl⟩
    rw [hn7] at hv7
    subst hv7
    have hlt7 : Hid (∀ k, (Value.slice a7 n7 cp7).ownBlock = some k → k < w7.heap.size) := fun k hk => (o7.lt k hk).2
    have OV : Hid (Over W6.heap.size W6 (w7.alloc (.cells #[.bool ab, .bool false, .slice a7 n7 cp7] 57)) (.slice a7 n7 cp7) n7) := ⟨_, hn7, o7.alloc _, b7.alloc b7.size _⟩
    have K7 : Hid (Kept3 (w7.alloc (.cells #[.bool ab, .bool false, .slice a7 n7 cp7] 57)) w7.heap.size (.bool ab) (.bool false) (.slice a7 n7 cp7)) := kept3_of (t := 57) (heap_alloc_new w7 _)
    have hn7b : n7 ≤ 401 := by
      rw [← hn7, strsV_length, List.length_append, List.length_singleton]
      have := HQL.out
      omega
    clear o7 b7 hn7 HJ
    obtain ⟨j0, j1, j2, _, _, _, jz⟩ := K7.out
    go_wp2_with fail
    go_loopw [49] (fun vi wr => ∃ i : Nat, i ≤ n7 ∧ vi = .int .i64 i ∧ Over W6.heap.size W6 wr (.slice a7 n7 cp7) n7 ∧ Kept3 wr w7.heap.size (.bool ab) (.bool false) (.slice a7 n7 cp7)) (fun vi _ => n7 - (intOf vi).toNat)
    case atStart => exact ⟨0, Nat.zero_le _, rfl, OV.out, K7.out⟩
    case round =>
      obtain ⟨i, hi, rfl, hov, hkk⟩ := hrel
      clear j0 j1 j2 jz
      by_cases hlt : i < n7
      · obtain ⟨g7, rfl, ⟨u7, c7⟩, f7, z7, _⟩ := hov.cell hlt
        have hne7 : w7.heap.size ≠ g7 := fun e => by have := hlt7.out g7 rfl; omega
        have HOV := Lib.hid hov
        have HKK := Lib.hid hkk
        obtain ⟨j0, j1, j2, _, _, _, jz⟩ := hkk
        have hlt2 : (i : Int) < (n7 : Int) := by omega
        have FIN : Hid (Over W6.heap.size W6 (wr.setCell ⟨g7, i, none⟩ (.string ⟨#[63]⟩)) (.slice (some ⟨g7, 0, none⟩) n7 cp7) n7 ∧ Kept3 (wr.setCell ⟨g7, i, none⟩ (.string ⟨#[63]⟩)) w7.heap.size (.bool ab) (.bool false) (.slice (some ⟨g7, 0, none⟩) n7 cp7)) := ⟨over_store hov _, hov.kept HKK.out hne7 _⟩
        clear hov OV K7 hne7
        go_wp2_with fail
        go_roundw
        case rel => exact ⟨i + 1, by omega, by go_num, FIN.out.1, FIN.out.2⟩
        case measure => simp [intOf]; omega
      · have hin : i = n7 := by omega
        subst hin
        have hnl : ¬ ((i : Int) < (i : Int)) := by omega
        generalize wr = wa at *
        have HOV := Lib.hid hov
        have hb8 : Below W6.heap.size W6 wa := by obtain ⟨_, _, _, h⟩ := hov; exact h
        have C8 := Lib.hid (below_next C6.out hb8)
        have K8 := Lib.hid (K6.out.below hb8)
        have R18 := Lib.hid (R16.out.below hb8)
        have R38 := Lib.hid (R36.out.below hb8)
        obtain ⟨j0, j1, j2, _, _, _, jz⟩ := K8.out
        clear hov hkk OV K7 hlt hlt7 hb8 HOV K6 R16 R36 C6
        go_wp2_with fail
        (with_reducible refine (HCP.out _ R18.out).mono ?_)
        rintro e w9 ⟨v9, rfl, o9, b9⟩
        obtain ⟨a9, cp9, hv9, _, _, _⟩ := o9.reads
        obtain ⟨n9, hn9⟩ : ∃ n9, (strsV (cleanL Q)).length = n9 := ⟨_, rfl⟩
        rw [hn9] at hv9
        subst hv9
        have hn9b : n9 ≤ 400 := by
          rw [← hn9, strsV_length]
          have := (cleanL_le Q).2
          have := HQL.out
          omega
        have OV9 : Hid (Over wa.heap.size wa w9 (.slice a9 n9 cp9) n9) := ⟨_, hn9, o9, b9⟩
        clear o9 b9 hn9 HCP j0 j1 j2 jz
        go_wp2_with fail
        go_loopw [61] (fun vi wr => ∃ i : Nat, i ≤ n9 ∧ vi = .int .i64 i ∧ Over wa.heap.size wa wr (.slice a9 n9 cp9) n9) (fun vi _ => n9 - (intOf vi).toNat)
        case atStart => exact ⟨0, Nat.zero_le _, rfl, OV9.out⟩
        case round =>
          obtain ⟨i2, hi2, rfl, hov⟩ := hrel
          by_cases hlt : i2 < n9
          · obtain ⟨g9, rfl, ⟨u9, c9⟩, f9, z9, _⟩ := hov.cell hlt
            have hlt2 : (i2 : Int) < (n9 : Int) := by omega
            have FIN : Hid (Over wa.heap.size wa (wr.setCell ⟨g9, i2, none⟩ (.string ⟨#[33]⟩)) (.slice (some ⟨g9, 0, none⟩) n9 cp9) n9) := over_store hov _
            clear hov OV9
            go_wp2_with fail
            go_roundw
            case rel => exact ⟨i2 + 1, by omega, by go_num, FIN.out⟩
            case measure => simp [intOf]; omega
          · have hin : i2 = n9 := by omega
            subst hin
            have hnl : ¬ ((i2 : Int) < (i2 : Int)) := by omega
            have hb9 : Below wa.heap.size wa wr := by obtain ⟨_, _, _, h⟩ := hov; exact h
            have C9 := Lib.hid (below_next C8.out hb9)
            have K9 := Lib.hid (K8.out.below hb9)
            have R19 := Lib.hid (R18.out.below hb9)
            have R39 := Lib.hid (R38.out.below hb9)
            obtain ⟨j0, j1, j2, _, _, _, jz⟩ := K9.out
            clear hov OV9 hlt hb9 C8 K8 R18 R38
            go_wp2_with fail
            (with_reducible refine (HSM.out _ R39.out R19.out).mono ?_)
            rintro e w10 ⟨rfl, b10⟩
            have CF := Lib.hid (below_next C9.out b10)
            clear b10 j0 j1 j2 jz
            go_wp2
            go_ret
            exact ⟨rfl, CF.out⟩
  · have hne : (E != 0) = true := by simp [hE]
    clear hE
    go_wp2
    go_ret
    exact ⟨rfl, C2.out⟩
theorem nameKeeps_met (os : Os) (args : Array Value) : laidMetH Tryd.prog [("unicode/utf8.acceptRanges", Rows.laid_unicode_utf8_acceptRanges), ("unicode/utf8.first", Rows.laid_unicode_utf8_first)] ((World.laidAll Tryd.prog os [("unicode/utf8.acceptRanges", Rows.laid_unicode_utf8_acceptRanges), ("unicode/utf8.first", Rows.laid_unicode_utf8_first)]).forCall (fun _ _ => 0) ⟨#[], args, []⟩).memory := by
  rw [MakeChecks.laidMetH_plain _ _ _ (by kernel_rfl)]; exact laidMet_laidAll _ (by kernel_rfl) (by kernel_rfl)
set_option maxRecDepth 100000 in
theorem nameKeeps_lifted (os : Os) (started : os.Started) (H : Type) (enc : TypeId × Value → H) :
    ReturnsInHanded {} Tryd.checked os 11 .any (fun w args => (Rows.nameKeepsSpec.pre enc Tryd.prog Tryd.f11 [] false w args ∧ laidMetH Tryd.prog [("unicode/utf8.acceptRanges", Rows.laid_unicode_utf8_acceptRanges), ("unicode/utf8.first", Rows.laid_unicode_utf8_first)] w) ∧ sizedMet enc Tryd.prog Tryd.f11 (OpenSpec.ofChange Rows.nameKeepsSpec) false w args) (Rows.nameKeepsSpec.post enc Tryd.prog Tryd.f11 false true false false) :=
  law_laid (s := Rows.nameKeepsSpec) started Tryd.func11 (by kernel_rfl) rfl (fun ds hd => by
        match ds, hd with
        | [_, _], _ => rfl) rfl
      (of_decide_eq_true (by kernel_rfl))
      (ChangeSpec.witness_shaped (enc := enc) (C := Tryd.checked) (os := os) (X := fun w _ => laidMetH Tryd.prog [("unicode/utf8.acceptRanges", Rows.laid_unicode_utf8_acceptRanges), ("unicode/utf8.first", Rows.laid_unicode_utf8_first)] w) false (World.laidAll Tryd.prog os [("unicode/utf8.acceptRanges", Rows.laid_unicode_utf8_acceptRanges), ("unicode/utf8.first", Rows.laid_unicode_utf8_first)]) #[.string ByteArray.empty, .string ByteArray.empty] 8 (World.laidAll_os _ _ _) (World.shaped_of_ZipB (by kernel_rfl) (by kernel_rfl)) (by kernel_rfl) (by kernel_rfl) (by kernel_rfl) (nameKeeps_met os _))
      (fun W base args ds ps hval hA hsz hL => by
        rw [Tryd.params11] at hA hval hsz
        obtain ⟨v0, vs0, d0, ds0, p0, q0, hargs, rfl, rfl, h0, r0⟩ := trodAll_cons hA
        obtain ⟨v1, vs1, d1, ds1, p1, q1, rfl, rfl, rfl, h1, r1⟩ := trodAll_cons r0
        obtain ⟨rfl, rfl, rfl⟩ := trodAll_nil r1
        obtain rfl : args = #[v0, v1] := by cases args; simp_all
        simp only [DataW.weightsEach, List.all_append, Bool.and_eq_true] at hsz
        obtain ⟨z0, z1, _⟩ := hsz
        obtain ⟨s, rfl, rfl, rfl, ws⟩ := open_string Tryd.underlying9 (hval 0 9 v0 rfl rfl) h0
        obtain ⟨s1, rfl, rfl, rfl, ws1⟩ := open_string Tryd.underlying9 (hval 1 9 v1 rfl rfl) h1
        exact nameKeeps_walk s s1 W ws)

theorem nameKeeps_holds : Rows.NameKeepsSaid :=
  OpenClaim.holds_of_wide 11 Tryd.f11 rfl rfl rfl rfl rfl rfl rfl ⟨rfl, rfl, rfl, rfl, rfl⟩ rfl rfl rfl rfl rfl (by kernel_rfl) Tryd.func11 (by kernel_rfl)
    (of_decide_eq_true (by kernel_rfl)) (by unfold Func.isWrapper; first | (rw [if_pos (by decide +kernel)]; kernel_rfl) | (rw [if_neg (by decide +kernel)]; exact ⟨rfl, rfl⟩))
    (fun os started H enc _ => nameKeeps_lifted os started H enc)
/-- The tied card. -/
theorem nameKeeps_card : Rows.NameKeepsCardSaid :=
  Claim7.holds_tied_plain_at .later [] [.data, .pinned] true Rows.nameKeepsCard.stood.harness false
    nameKeeps_holds (fun _ h => by cases h) (by kernel_rfl) (fun _ h => by cases h) nameKeeps_row_tie rfl ⟨rfl, rfl⟩ (by kernel_rfl) rfl
    (fun f fn hf hfn => by
      obtain rfl : f = 11 := Option.some.inj ((show Tryd.prog.funcNamed "drumlin/drumlinlaw08.NameKeeps" = some 11 by kernel_rfl).symm.trans hf) |>.symm
      obtain rfl : fn = Tryd.f11 := (Option.some.inj (Tryd.func11.symm.trans hfn)).symm
      exact ⟨by kernel_rfl, fun j t ht => by
        rw [Tryd.params11] at ht
        have hm : t ∈ [9, 9] := by simpa using Array.mem_of_getElem? ht
        have hall : ([9, 9].all fun u => !Tryd.prog.wantsStandIn u) = true := by kernel_rfl
        exact (show Tryd.prog.wantsStandIn t = false by simpa using List.all_eq_true.1 hall t hm)⟩)
    (by kernel_rfl)
#print axioms nameKeeps_card
end Go.Proofs.YthipeaighngpfaaDoor
