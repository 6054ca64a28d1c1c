/- The law NameLasts is true for every input: what stands ahead of a path's last part, and the last part. No condition but that the tables of Go's own library that the row lists read as they are laid. -/
import Derived.Test.YthipeaighngpfaaDoorNameAwake
import Derived.Test.YthipeaighngpfaaDoorLast
import Derived.Test.YthipeaighngpfaaDoorLaid
import Derived.Test.YthipeaighngpfaaDoorCards
import Derived.Test.YthipeaighngpfaaDoorTie
import Derived.SevenTiedAt
import Derived.Lay
namespace Go.Proofs.YthipeaighngpfaaDoor
open Go.ChangeShapes Go.WideShapes Go.ChangeAt Go.RowKit Go.Sort
open Go.ChangeMaps (open_string)
set_option linter.unusedVariables false
set_option linter.unusedSimpArgs false
set_option maxRecDepth 100000

/-- A part that is parsed alone. -/
theorem one_part {l p : Bs} (h : parseE l = 0) (hp : p ∈ partsOf l) (hd : p ≠ [46, 46]) : parseE p = 0 ∧ pAbs p = false ∧ pDir p = false ∧ pParts p = [p] := by
  obtain ⟨k1, k2, k3, k4⟩ := partsOf_mem hp
  obtain ⟨z1, _, z3, z4⟩ := parseE_ok h
  have hpl := (okParts_iff.1 z4).1 p hp
  have hpc : pieces p = [p] := pieces_plain k3
  have hpo : partsOf p = [p] := by unfold partsOf; rw [hpc]; exact keepL_all fun q hq => by rw [List.mem_singleton.1 hq]; exact keptB_iff.2 ⟨k1, k2⟩
  have hE : parseE p = 0 := parseE_of (fun hz => z1 (k4 _ hz)) k1 (by omega) (by rw [hpo]; exact okParts_iff.2 ⟨fun q hq => by rw [List.mem_singleton.1 hq]; exact hpl, by simp⟩)
  have hl : lastP p = p := lastP_eq (D := []) (by rw [hpc]; rfl)
  have hdb : dirB p = false := by unfold dirB; rw [hl]; simp [k1, k2, hd]
  have hab : absB p = false := by
    unfold absB
    cases p with
    | nil => rfl
    | cons c m =>
      have : c ≠ 47 := fun e => k3 (by rw [e]; exact List.mem_cons_self)
      simp [this]
  refine ⟨hE, ?_, ?_, ?_⟩
  · unfold pAbs; simp [hE, hab]
  · unfold pDir; simp [hE, hdb]
  · unfold pParts; simp [hE, hpo]

set_option maxHeartbeats 25600000 in
theorem nameLasts_walk (s : ByteArray) (w : World) (hs : s.size ≤ maxLen) : Calls Tryd.prog 9 #[.string s] w fun e w' => e = .returned (.bool true) ∧ Below w.heap.size w w' := by
  have HS := Lib.hid hs
  obtain ⟨t, ht⟩ : ∃ t, shortS s = t := ⟨_, rfl⟩
  obtain ⟨l, hl⟩ : ∃ l, t.data.toList = l := ⟨_, rfl⟩
  have hpp := pparse_is t
  rw [hl] at hpp
  have HPP := Lib.hid hpp
  have HT := Lib.hid ht
  have hqn : (pParts l).length ≤ 32 := by
    unfold pParts
    split
    · rename_i h0
      exact (okParts_iff.1 (parseE_ok h0).2.2.2).2
    · simp
  have hq0 : parseE l ≠ 0 → pParts l = [] := fun h => by
    unfold pParts
    rw [if_neg h]
  have HQN := Lib.hid hqn
  have HQ0 := Lib.hid hq0
  clear hs ht hl hpp hqn hq0
  go_enter Tryd.func9, Tryd.ntmps9
  go_wp2_with fail
  refine (awake8_true w).mono ?_
  rintro e w0 ⟨rfl, c0⟩
  have C0 := Lib.hid c0
  clear c0
  go_wp2_with fail
  refine (short_is s w0 HS.out).mono ?_
  rintro e w1 ⟨rfl, rfl⟩
  rw [HT.out]
  go_wp2_with fail
  refine (HPP.out _).mono ?_
  rintro e w1 hpp
  obtain ⟨a1, cp1, rfl, r1, n1, m1, b1⟩ := hpp.path
  have C1 := Lib.hid (below_next C0.out b1)
  clear hpp b1 C0
  obtain ⟨Q, hQ⟩ : ∃ Q, pParts l = Q := ⟨_, rfl⟩
  obtain ⟨E, hE⟩ : ∃ E, parseE l = E := ⟨_, rfl⟩
  have HEQ := Lib.hid hE
  have HQQ := Lib.hid hQ
  rw [hQ, hE] at HQ0
  rw [hQ] at HQN r1 n1 ⊢
  rw [hE]
  clear hE hQ
  generalize pAbs l = ab at *
  generalize pDir l = di at *
  have R1 : Hid (ReadsV (w1.alloc (.cells #[.bool ab, .bool di, .slice a1 Q.length cp1] 57)) a1 Q.length (strsV Q)) := r1.alloc _
  have K1 : Hid (Kept3 (w1.alloc (.cells #[.bool ab, .bool di, .slice a1 Q.length cp1] 57)) w1.heap.size (.bool ab) (.bool di) (.slice a1 Q.length cp1)) := kept3_of (t := 57) (heap_alloc_new w1 _)
  have C2 : Hid (Below w.heap.size w (w1.alloc (.cells #[.bool ab, .bool di, .slice a1 Q.length cp1] 57))) := below_next C1.out (below_box w1 _)
  have N1 := Lib.hid n1
  have hql : Q.length ≤ 400 := by have := HQN.out; omega
  have HQL := Lib.hid hql
  have HLA : Hid (∀ W : World, ReadsV W a1 Q.length (strsV Q) → Calls Tryd.prog 35 #[.agg #[.bool ab, .bool di, .slice a1 Q.length cp1]] W (LastPost ab Q W)) := fun W h1 => last_is ab di a1 cp1 Q W h1 N1.out HQL.out
  obtain ⟨x0, x1, x2, _, _, _, xz⟩ := K1.out
  clear r1 n1 m1 C1 HPP hql
  by_cases hE : E = 0
  · subst hE
    by_cases hq : Q = []
    · subst hq
      simp only [List.length_nil] at x2 R1 K1 C2 HLA ⊢
      go_wp2_with fail
      (with_reducible refine (HLA.out _ R1.out).mono ?_)
      rintro e w4 (⟨_, rfl, b4⟩ | ⟨D, p, v, hd, _⟩)
      rotate_left
      · simp at hd
      have CF : Hid (Below w.heap.size w (w4.alloc (.cells #[.bool false, .bool false, .slice none 0 0] 57))) := below_next (below_next C2.out b4) (below_box w4 _)
      obtain ⟨y0, y1, y2, _, _, _, yz⟩ := (K1.out.below b4).more (.cells #[.bool false, .bool false, .slice none 0 0] 57)
      obtain ⟨u0, u1, u2, _, _, _, uz⟩ : Kept3 (w4.alloc (.cells #[.bool false, .bool false, .slice none 0 0] 57)) w4.heap.size (.bool false) (.bool false) (.slice none 0 0) := kept3_of (t := 57) (heap_alloc_new w4 _)
      clear b4 x0 x1 x2 xz HLA
      go_wp2
      go_ret
      exact ⟨rfl, CF.out⟩
    · obtain ⟨D, p, hD⟩ := last_split hq
      obtain ⟨M, hM⟩ : ∃ M, D.length = M := ⟨_, rfl⟩
      have hl : Q.length = M + 1 := by rw [hD, List.length_append, hM]; rfl
      have hget : Q[M]? = some p := by rw [hD, ← hM]; simp
      obtain ⟨x, hx⟩ : ∃ x : ByteArray, x = ⟨p.toArray⟩ := ⟨_, rfl⟩
      have hxv : strV p = .string x := by rw [hx]; rfl
      have hxl : x.data.toList = p := by rw [hx]
      obtain ⟨g, off, ha, hg, hc⟩ := R1.out.at (strsV_get hget)
      rw [hxv] at hc
      subst ha
      rw [hl] at hg hc x2 R1 K1 C2 N1 HQN HQL HLA ⊢
      have HC := Lib.hid hc
      have hn0 : ((M : Int) + 1 == 0) = false := by simp; omega
      have hI1 : (0 : Int) ≤ (M : Int) := by omega
      have hI3 : (M : Int) < (M : Int) + 1 := by omega
      have hMb : M ≤ 400 := by have := HQL.out; omega
      clear hq hl hget hc
      go_wp2_with fail
      (with_reducible refine (HLA.out _ R1.out).mono ?_)
      by_cases hu : endsUp Q = true
      · rintro e w4 (⟨_, rfl, b4⟩ | ⟨D2, p2, v, _, hu2, _⟩)
        rotate_left
        · rw [hu] at hu2; cases hu2
        have hp : p = [46, 46] := by unfold endsUp at hu; rw [hD] at hu; simpa using hu
        have hxu : (x.toList == [46, 46]) = true := by rw [txt_tests hxl, hp]; rfl
        have CF : Hid (Below w.heap.size w (w4.alloc (.cells #[.bool false, .bool false, .slice none 0 0] 57))) := below_next (below_next C2.out b4) (below_box w4 _)
        obtain ⟨y0, y1, y2, _, _, _, yz⟩ := (K1.out.below b4).more (.cells #[.bool false, .bool false, .slice none 0 0] 57)
        obtain ⟨u0, u1, u2, _, _, _, uz⟩ : Kept3 (w4.alloc (.cells #[.bool false, .bool false, .slice none 0 0] 57)) w4.heap.size (.bool false) (.bool false) (.slice none 0 0) := kept3_of (t := 57) (heap_alloc_new w4 _)
        have hgz := Nat.lt_of_lt_of_le hg b4.size
        have hcell : (w4.alloc (.cells #[.bool false, .bool false, .slice none 0 0] 57)).cell? ⟨g, off + M, none⟩ = some (.string x) := ((below_box w4 _).cell (p := ⟨g, off + M, none⟩) hgz).trans ((b4.cell (p := ⟨g, off + M, none⟩) hg).trans HC.out)
        have hgz2 : g < (w4.alloc (.cells #[.bool false, .bool false, .slice none 0 0] 57)).heap.size := Nat.lt_of_lt_of_le hgz (below_box w4 _).size
        clear b4 x0 x1 x2 xz HLA hD hM hx hxv hp hu hxl
        go_wp2
        go_ret
        exact ⟨rfl, CF.out⟩
      · have huf : endsUp Q = false := by simpa using hu
        rintro e w4 (⟨h, _⟩ | ⟨D2, p2, v, hd2, _, rfl, o4, b4⟩)
        · rcases h with h | h
          · rw [hD] at h; simp at h
          · exact absurd h hu
        obtain ⟨e1, e2⟩ := List.append_inj' (hD.symm.trans hd2) rfl
        have e3 : p2 = p := by simpa using e2.symm
        subst e1 e3
        rw [hxv]
        clear hd2 e2
        obtain ⟨a5, cp5, hv5, r5, n5, m5⟩ := o4.reads
        rw [strsV_length, hM] at hv5 r5 n5
        subst hv5
        have hpu : p2 ≠ [46, 46] := fun e => hu (by unfold endsUp; rw [hD, e]; simp)
        have hxu : (x.toList == [46, 46]) = false := by rw [txt_tests hxl]; simp [hpu]
        have hmem : p2 ∈ Q := by rw [hD]; simp
        have HONE : Hid (parseE p2 = 0 ∧ pAbs p2 = false ∧ pDir p2 = false ∧ pParts p2 = [p2]) := by
          have hq := HQQ.out
          have h0 := HEQ.out
          unfold pParts at hq
          rw [if_pos h0] at hq
          rw [← hq] at hmem
          exact one_part h0 hmem hpu
        have C5 : Hid (Below w.heap.size w (w4.alloc (.cells #[.bool ab, .bool true, .slice a5 M cp5] 57))) := below_next (below_next C2.out b4) (below_box w4 _)
        have K15 : Hid (Kept3 (w4.alloc (.cells #[.bool ab, .bool true, .slice a5 M cp5] 57)) w1.heap.size (.bool ab) (.bool di) (.slice (some ⟨g, off, none⟩) (M + 1) cp1)) := (K1.out.below b4).more _
        have KU5 : Hid (Kept3 (w4.alloc (.cells #[.bool ab, .bool true, .slice a5 M cp5] 57)) w4.heap.size (.bool ab) (.bool true) (.slice a5 M cp5)) := kept3_of (t := 57) (heap_alloc_new w4 _)
        have R15 : Hid (ReadsV (w4.alloc (.cells #[.bool ab, .bool true, .slice a5 M cp5] 57)) (some ⟨g, off, none⟩) (M + 1) (strsV Q)) := (R1.out.below b4).alloc _
        have R55 : Hid (ReadsV (w4.alloc (.cells #[.bool ab, .bool true, .slice a5 M cp5] 57)) a5 M (strsV D)) := r5.alloc _
        have N5 := Lib.hid n5
        have hgz := Nat.lt_of_lt_of_le hg b4.size
        have hcell : (w4.alloc (.cells #[.bool ab, .bool true, .slice a5 M cp5] 57)).cell? ⟨g, off + M, none⟩ = some (.string x) := ((below_box w4 _).cell (p := ⟨g, off + M, none⟩) hgz).trans ((b4.cell (p := ⟨g, off + M, none⟩) hg).trans HC.out)
        have hgz2 : g < (w4.alloc (.cells #[.bool ab, .bool true, .slice a5 M cp5] 57)).heap.size := Nat.lt_of_lt_of_le hgz (below_box w4 _).size
        have HCE := Lib.hid hcell
        have hI2 : (M : Int) ≤ (cp1 : Int) := by have := N1.out; omega
        have hcp2 : M + 1 ≤ cp1 := N1.out
        have HXL := Lib.hid hxl
        have HM := Lib.hid hM
        have HD := Lib.hid hD
        have hxl0 : Hid (x.data.toList = p2) := hxl
        clear b4 o4 r5 n5 m5 hxv hxl hx hD hM hu huf hmem hpu HLA K1 R1 C2 x0 x1 x2 xz HC
        obtain ⟨y0, y1, y2, _, _, _, yz⟩ := K15.out
        obtain ⟨u0, u1, u2, _, _, _, uz⟩ := KU5.out
        go_wp2_with fail
        generalize w4.alloc (.cells #[.bool ab, .bool true, .slice a5 M cp5] 57) = W5 at *
        clear y0 y1 y2 yz u0 u1 u2 uz hcell
        obtain ⟨y0, y1, y2, _, _, _, yz⟩ := K15.out
        have HKS : Hid (∀ w', Below W5.heap.size W5 w' → w'.cell? ⟨w1.heap.size, 0, none⟩ = some (.bool ab) ∧ w'.cell? ⟨w1.heap.size, 2, none⟩ = some (.slice (some ⟨g, off, none⟩) (M + 1) cp1)) := fun w' hb =>
          ⟨(hb.cell (p := ⟨w1.heap.size, 0, none⟩) K15.out.2.2.2.2.2.2).trans K15.out.1, (hb.cell (p := ⟨w1.heap.size, 2, none⟩) K15.out.2.2.2.2.2.2).trans K15.out.2.2.1⟩
        have H0 : Below W5.heap.size W5 W5.drew := ⟨rfl, rfl, rfl, Nat.le_refl _, fun _ _ => rfl⟩
        have H1 : Below W5.heap.size W5 ((W5.alloc (.cells #[.bool false, .bool false, .slice none 0 0] 60)).drew) := by
          have := (Below.refl W5.heap.size W5).alloc (Nat.le_refl _) (.cells #[.bool false, .bool false, .slice none 0 0] 60)
          exact ⟨this.os, this.tape, this.output, this.size, this.block⟩
        have hw2 : IntKind.i64.wrap (M : Int) = (M : Int) := IntWalk.i64_in _ (by omega)
        have hw1 : IntKind.i64.wrap ((M : Int) + 1 - 1) = (M : Int) := by rw [show (M : Int) + 1 - 1 = (M : Int) by omega]; exact hw2
        have H2 : Below W5.heap.size W5 ((W5.alloc (.cells #[.bool ab, .bool true, .slice (some ⟨g, off, none⟩) M cp1] 60)).drew) := by
          have := (Below.refl W5.heap.size W5).alloc (Nat.le_refl _) (.cells #[.bool ab, .bool true, .slice (some ⟨g, off, none⟩) M cp1] 60)
          exact ⟨this.os, this.tape, this.output, this.size, this.block⟩
        have KW6 : Hid (Kept3 ((W5.alloc (.cells #[.bool ab, .bool true, .slice (some ⟨g, off, none⟩) M cp1] 60)).drew) W5.heap.size (.bool ab) (.bool true) (.slice (some ⟨g, off, none⟩) M cp1)) := by
          have h := kept3_of (t := 60) (heap_alloc_new W5 (.cells #[.bool ab, .bool true, .slice (some ⟨g, off, none⟩) M cp1] 60))
          exact h
        have HH2 := Lib.hid H2
        go_region_held3 (fun w' => w'.cell? ⟨w1.heap.size, 0, none⟩ = some (.bool ab) ∧ w'.cell? ⟨w1.heap.size, 2, none⟩ = some (.slice (some ⟨g, off, none⟩) (M + 1) cp1))
          (first | exact HKS.out _ H0 | exact HKS.out _ H1 | exact HKS.out _ H2)
          (fail)
        rename_i hHeld
        clear hHeld H0 H1 H2 HKS y0 y1 y2 yz
        generalize ((W5.alloc (.cells #[.bool ab, .bool true, .slice (some ⟨g, off, none⟩) M cp1] 60)).drew) = W6 at *
        have K16 := Lib.hid (K15.out.below HH2.out)
        have KU6 := Lib.hid (KU5.out.below HH2.out)
        have R16 := Lib.hid (R15.out.below HH2.out)
        have R56 := Lib.hid (R55.out.below HH2.out)
        have C6 := Lib.hid (below_next C5.out HH2.out)
        have hcell : W6.cell? ⟨g, off + M, none⟩ = some (.string x) := (HH2.out.cell (p := ⟨g, off + M, none⟩) hgz2).trans HCE.out
        have hg6 := Nat.lt_of_lt_of_le hgz2 HH2.out.size
        have hrd : Hid (ReadsV W6 (some ⟨g, off, none⟩) M (strsV D)) := by
          have h1 := R16.out.take (k := M) (by omega)
          have h2 : (strsV Q).take M = strsV D := by rw [HD.out, strsV_append]; unfold strsV; rw [List.take_left' (by rw [List.length_map, HM.out])]
          rwa [h2] at h1
        have HSM : Hid (∀ W : World, ReadsV W a5 M (strsV D) → ReadsV W (some ⟨g, off, none⟩) M (strsV D) → Calls Tryd.prog 31 #[.agg #[.bool ab, .bool true, .slice a5 M cp5], .agg #[.bool ab, .bool true, .slice (some ⟨g, off, none⟩) M cp1]] W fun e w' => e = .returned (.bool true) ∧ Below W.heap.size W w') := fun W h1 h4 => by
          have h2 := HM.out
          rw [← h2] at h1 h4 ⊢
          exact same_is ab true a5 (some ⟨g, off, none⟩) cp5 cp1 D W h1 h4 (by omega)
        have HJN : Hid (∀ (W : World) (b : Option Addr) (c : Nat), ReadsV W a5 M (strsV D) → ReadsV W b 1 (strsV [p2]) → Calls Tryd.prog 36 #[.agg #[.bool ab, .bool true, .slice a5 M cp5], .agg #[.bool false, .bool false, .slice b 1 c]] W (JoinPost ab false (D ++ [p2]) W)) := fun W b c h1 h4 => by
          have h2 := HM.out
          rw [← h2] at h1 ⊢
          exact join_rel ab true a5 cp5 D false b c [p2] W h1 h4 (by omega) (by simp) (by simp)
        have HPX : Hid (∀ W : World, Calls Tryd.prog 29 #[.string x] W (ParsePost p2 W)) := by
          have h := pparse_is x
          rw [hxl0.out] at h
          exact h
        have hxx : (x.toList != x.toList) = false := by simp
        have hxx2 : (x.toList == x.toList) = true := by simp
        clear C5 K15 KU5 R15 R55 HCE hgz hgz2 HH2
        obtain ⟨y0, y1, y2, _, _, _, yz⟩ := K16.out
        obtain ⟨u0, u1, u2, _, _, _, uz⟩ := KU6.out
        obtain ⟨z0, z1, z2, _, _, _, zz⟩ := KW6.out
        go_wp2_with fail
        have p0 := cell_regrown y0
        have p1 := cell_regrown y1
        have p2' := cell_regrown y2
        have q0 := cell_regrown u0
        have q1 := cell_regrown u1
        have q2 := cell_regrown u2
        have s0 := cell_regrown z0
        have s1 := cell_regrown z1
        have s2 := cell_regrown z2
        have sc := cell_regrown hcell
        refine wp_region_quiet_below (by kernel_rfl) (by kernel_rfl) ?_
        repeat (go_big_quiet_step (first
          | (go_at_call 32; exact Calls.regrown_of (told_is _ _ _ _ _ _))
          | (go_at_call 31; exact Calls.regrown_of (HSM.out _ (R56.out.below (below_regrown _ _ _)) (hrd.out.below (below_regrown _ _ _))))))
        refine wpQuiet_nil (regrown_name fun w7 b7 => ?_)
        have C7 := Lib.hid (below_next C6.out b7)
        have K17 := Lib.hid (K16.out.below b7)
        have KU7 := Lib.hid (KU6.out.below b7)
        have R57 := Lib.hid (R56.out.below b7)
        clear p0 p1 p2' q0 q1 q2 s0 s1 s2 sc y0 y1 y2 yz u0 u1 u2 uz z0 z1 z2 zz hcell hg6 b7 K16 KU6 R16 R56 C6 hrd HSM KW6
        go_wp2_with fail
        refine (HPX.out _).mono ?_
        rintro e w8 hpp
        obtain ⟨a8, cp8, rfl, r8, n8, m8, b8⟩ := hpp.path
        rw [HONE.out.1, HONE.out.2.1, HONE.out.2.2.1]
        rw [HONE.out.2.2.2] at r8 n8 ⊢
        simp only [List.length_singleton] at r8 n8 ⊢
        have C8 : Hid (Below w.heap.size w (w8.alloc (.cells #[.bool false, .bool false, .slice a8 1 cp8] 57))) := below_next (below_next C7.out b8) (below_box w8 _)
        have K18 : Hid (Kept3 (w8.alloc (.cells #[.bool false, .bool false, .slice a8 1 cp8] 57)) w1.heap.size (.bool ab) (.bool di) (.slice (some ⟨g, off, none⟩) (M + 1) cp1)) := (K17.out.below b8).more _
        have KU8 : Hid (Kept3 (w8.alloc (.cells #[.bool false, .bool false, .slice a8 1 cp8] 57)) w4.heap.size (.bool ab) (.bool true) (.slice a5 M cp5)) := (KU7.out.below b8).more _
        have KO8 : Hid (Kept3 (w8.alloc (.cells #[.bool false, .bool false, .slice a8 1 cp8] 57)) w8.heap.size (.bool false) (.bool false) (.slice a8 1 cp8)) := kept3_of (t := 57) (heap_alloc_new w8 _)
        have R58 : Hid (ReadsV (w8.alloc (.cells #[.bool false, .bool false, .slice a8 1 cp8] 57)) a5 M (strsV D)) := (R57.out.below b8).alloc _
        have R88 : Hid (ReadsV (w8.alloc (.cells #[.bool false, .bool false, .slice a8 1 cp8] 57)) a8 1 (strsV [p2])) := r8.alloc _
        clear hpp r8 n8 m8 b8 C7 K17 KU7 R57 HPX
        obtain ⟨u0, u1, u2, _, _, _, uz⟩ := KU8.out
        obtain ⟨z0, z1, z2, _, _, _, zz⟩ := KO8.out
        go_wp2_with fail
        (with_reducible refine (HJN.out _ _ _ R58.out R88.out).mono ?_)
        rintro e w9 ⟨v9, rfl, o9, b9⟩
        obtain ⟨n9, hn9⟩ : ∃ n9, (strsV (D ++ [p2])).length = n9 := ⟨_, rfl⟩
        have hn9M : n9 = M + 1 := by rw [← hn9, strsV_length, List.length_append, HM.out]; rfl
        subst hn9M
        have hget9 : (strsV (D ++ [p2]))[M]? = some (.string x) := by
          have : (D ++ [p2])[M]? = some p2 := by rw [← HM.out]; simp
          rw [strsV_get this]
          congr 1
          rw [← strV_of x, hxl0.out]
        rcases o9.head with ⟨_, h⟩ | ⟨g9, cp9, hv9, _, hg9, _, _, hc9⟩
        · rw [h] at hn9; simp at hn9
        rw [hn9] at hv9
        subst hv9
        have hc9' := hc9 M _ hget9
        have hcell : (w9.alloc (.cells #[.bool ab, .bool false, .slice (some ⟨g9, 0, none⟩) (M + 1) cp9] 57)).cell? ⟨g9, M, none⟩ = some (.string x) := ((below_box w9 _).cell (p := ⟨g9, M, none⟩) hg9).trans hc9'
        have hg9' : g9 < (w9.alloc (.cells #[.bool ab, .bool false, .slice (some ⟨g9, 0, none⟩) (M + 1) cp9] 57)).heap.size := Nat.lt_of_lt_of_le hg9 (below_box w9 _).size
        have CF : Hid (Below w.heap.size w (w9.alloc (.cells #[.bool ab, .bool false, .slice (some ⟨g9, 0, none⟩) (M + 1) cp9] 57))) := below_next (below_next C8.out b9) (below_box w9 _)
        obtain ⟨y0, y1, y2, _, _, _, yz⟩ := (K18.out.below b9).more (.cells #[.bool ab, .bool false, .slice (some ⟨g9, 0, none⟩) (M + 1) cp9] 57)
        obtain ⟨j0, j1, j2, _, _, _, jz⟩ : Kept3 (w9.alloc (.cells #[.bool ab, .bool false, .slice (some ⟨g9, 0, none⟩) (M + 1) cp9] 57)) w9.heap.size (.bool ab) (.bool false) (.slice (some ⟨g9, 0, none⟩) (M + 1) cp9) := kept3_of (t := 57) (heap_alloc_new w9 _)
        have hbb : (ab == ab) = true := by simp
        have hmm : ((M : Int) + 1 == (M : Int) + 1) = true := by simp
        clear hget9 hc9 hc9' hn9 o9 b9 C8 K18 KU8 KO8 R58 R88 u0 u1 u2 uz z0 z1 z2 zz HJN
        go_wp2
        go_ret
        exact ⟨rfl, CF.out⟩
  · have hne : (E != 0) = true := by simp [hE]
    have hq := HQ0.out hE
    subst hq
    clear hE
    go_wp2
    go_ret
    exact ⟨rfl, C2.out⟩
theorem nameLasts_met (os : Os) (args : Array Value) : laidMetH Tryd.prog [("unicode/utf8.acceptRanges", Rows.laid_unicode_utf8_acceptRanges), ("unicode/utf8.first", Rows.laid_unicode_utf8_first)] ((World.laidAll Tryd.prog os [("unicode/utf8.acceptRanges", Rows.laid_unicode_utf8_acceptRanges), ("unicode/utf8.first", Rows.laid_unicode_utf8_first)]).forCall (fun _ _ => 0) ⟨#[], args, []⟩).memory := by
  rw [MakeChecks.laidMetH_plain _ _ _ (by kernel_rfl)]; exact laidMet_laidAll _ (by kernel_rfl) (by kernel_rfl)
set_option maxRecDepth 100000 in
theorem nameLasts_lifted (os : Os) (started : os.Started) (H : Type) (enc : TypeId × Value → H) :
    ReturnsInHanded {} Tryd.checked os 9 .any (fun w args => (Rows.nameLastsSpec.pre enc Tryd.prog Tryd.f9 [] false w args ∧ laidMetH Tryd.prog [("unicode/utf8.acceptRanges", Rows.laid_unicode_utf8_acceptRanges), ("unicode/utf8.first", Rows.laid_unicode_utf8_first)] w) ∧ sizedMet enc Tryd.prog Tryd.f9 (OpenSpec.ofChange Rows.nameLastsSpec) false w args) (Rows.nameLastsSpec.post enc Tryd.prog Tryd.f9 false true false false) :=
  law_laid (s := Rows.nameLastsSpec) started Tryd.func9 (by kernel_rfl) rfl (fun ds hd => by
        match ds, hd with
        | [_], _ => rfl) rfl
      (of_decide_eq_true (by kernel_rfl))
      (ChangeSpec.witness_shaped (enc := enc) (C := Tryd.checked) (os := os) (X := fun w _ => laidMetH Tryd.prog [("unicode/utf8.acceptRanges", Rows.laid_unicode_utf8_acceptRanges), ("unicode/utf8.first", Rows.laid_unicode_utf8_first)] w) false (World.laidAll Tryd.prog os [("unicode/utf8.acceptRanges", Rows.laid_unicode_utf8_acceptRanges), ("unicode/utf8.first", Rows.laid_unicode_utf8_first)]) #[.string ByteArray.empty] 8 (World.laidAll_os _ _ _) (World.shaped_of_ZipB (by kernel_rfl) (by kernel_rfl)) (by kernel_rfl) (by kernel_rfl) (by kernel_rfl) (nameLasts_met os _))
      (fun W base args ds ps hval hA hsz hL => by
        rw [Tryd.params9] at hA hval hsz
        obtain ⟨v0, vs0, d0, ds0, p0, q0, hargs, rfl, rfl, h0, r0⟩ := trodAll_cons hA
        obtain ⟨rfl, rfl, rfl⟩ := trodAll_nil r0
        obtain rfl : args = #[v0] := by cases args; simp_all
        simp only [DataW.weightsEach, List.all_append, Bool.and_eq_true] at hsz
        obtain ⟨z0, _⟩ := hsz
        obtain ⟨s, rfl, rfl, rfl, ws⟩ := open_string Tryd.underlying9 (hval 0 9 v0 rfl rfl) h0
        exact nameLasts_walk s W ws)

theorem nameLasts_holds : Rows.NameLastsSaid :=
  OpenClaim.holds_of_wide 9 Tryd.f9 rfl rfl rfl rfl rfl rfl rfl ⟨rfl, rfl, rfl, rfl, rfl⟩ rfl rfl rfl rfl rfl (by kernel_rfl) Tryd.func9 (by kernel_rfl)
    (of_decide_eq_true (by kernel_rfl)) (by unfold Func.isWrapper; first | (rw [if_pos (by decide +kernel)]; kernel_rfl) | (rw [if_neg (by decide +kernel)]; exact ⟨rfl, rfl⟩))
    (fun os started H enc _ => nameLasts_lifted os started H enc)
/-- The tied card. -/
theorem nameLasts_card : Rows.NameLastsCardSaid :=
  Claim7.holds_tied_plain_at .later [] [.data, .pinned] true Rows.nameLastsCard.stood.harness false
    nameLasts_holds (fun _ h => by cases h) (by kernel_rfl) (fun _ h => by cases h) nameLasts_row_tie rfl ⟨rfl, rfl⟩ (by kernel_rfl) rfl
    (fun f fn hf hfn => by
      obtain rfl : f = 9 := Option.some.inj ((show Tryd.prog.funcNamed "drumlin/drumlinlaw08.NameLasts" = some 9 by kernel_rfl).symm.trans hf) |>.symm
      obtain rfl : fn = Tryd.f9 := (Option.some.inj (Tryd.func9.symm.trans hfn)).symm
      exact ⟨by kernel_rfl, fun j t ht => by
        rw [Tryd.params9] at ht
        have hm : t ∈ [9] := by simpa using Array.mem_of_getElem? ht
        have hall : ([9].all fun u => !Tryd.prog.wantsStandIn u) = true := by kernel_rfl
        exact (show Tryd.prog.wantsStandIn t = false by simpa using List.all_eq_true.1 hall t hm)⟩)
    (by kernel_rfl)
#print axioms nameLasts_card
end Go.Proofs.YthipeaighngpfaaDoor
