/- The law DrumlinPlaces is true for every input: whatever blocks are written, and whichever are lost, superblock, regions and summaries stay what they are. No condition. -/
import Derived.Test.YtedhfgadphjobaaDisk10
import Derived.Test.YtedhfgadphjobaaSuperOf
import Derived.Test.YtedhfgadphjobaaWhere
import Derived.Test.YtedhfgadphjobaaGeoOpen
import Derived.Test.YtedhfgadphjobaaAwake4
import Derived.Test.YtedhfgadphjobaaOpenI
import Derived.Test.YtedhfgadphjobaaOpenB
import Derived.Lib.MinMax
namespace Go.Proofs.Ytedhfgadphjobaa
open Go.ChangeShapes Go.WideShapes Go.ChangeAt Go.RowKit Go.Sort
set_option linter.unusedVariables false
set_option linter.unusedSimpArgs false
set_option maxRecDepth 100000

set_option maxHeartbeats 1600000 in
theorem places_no (s g i : Int) (a : Option Addr) (len cap : Nat) (l : List Int) (b : Option Addr) (blen bcap : Nat) (ks : List Bool) (w : World) (hM : mayB s g i = false ∨ 400 < s * g) :
    Calls Try.prog 8 #[.agg #[.int .i64 s, .int .i64 g, .int .i64 i], .slice a len cap, .slice b blen bcap] w fun e w' => e = .returned (.bool true) ∧ Below w.heap.size w w' := by
  have hb0 := below_box w (.cells #[.int .i64 s, .int .i64 g, .int .i64 i] 66)
  have hbox := box3_new w (.int .i64 s) (.int .i64 g) (.int .i64 i) 66
  have HB : Hid (bnd 20 2 10) := by show bnd _ _ _; unfold bnd; omega
  have HS : Hid (sectorsI 20 2 10 = 369) := by show _ = _; decide
  go_enter Try.func8, Try.ntmps8
  go_wp2_with fail
  refine (gsectors _ HB.out).mono ?_
  rintro e w1 ⟨rfl, b1⟩
  rw [HS.out]
  have hb1 := below_next hb0 b1
  have hx1 := hbox.below b1
  clear hb0 hbox b1
  obtain ⟨hgx, c0, c1, c2⟩ := hx1
  go_wp2_with fail
  refine (rmay_any s g i _).mono ?_
  rintro e w2 ⟨rfl, b2⟩
  have hb2 := below_next hb1 b2
  have hx2 := Box3.below ⟨hgx, c0, c1, c2⟩ b2
  clear hb1 b2 c0 c1 c2 hgx
  obtain ⟨hgx, c0, c1, c2⟩ := hx2
  cases hm : mayB s g i with
  | false =>
    go_wp2
    go_ret
    exact ⟨rfl, hb2⟩
  | true =>
    have h4 : 400 < s * g := by
      rcases hM with h | h
      · rw [h] at hm; cases hm
      · exact h
    have hbd := (mayB_yes hm).1
    have hsg := segs_bd hbd
    unfold bnd at hbd
    go_wp2
    go_ret
    exact ⟨rfl, hb2⟩

/-- A disk on which the superblock is safe, and whose cache has blocks alone. -/
structure PInv (S : Nat) (sup : List Nat) (P : Nat → Prop) (k : Nat) (D : DiskD) : Prop where
  secs : D.secs = (List.replicate S noughts).set 0 sup
  dead : D.dead = false
  armed : D.armed = false
  cache : ∀ p ∈ D.cache, P p.1
  few : D.cache.length ≤ k
  deeds : D.deeds ≤ k + 2
theorem PInv.len {S : Nat} {sup : List Nat} {P : Nat → Prop} {k : Nat} {D : DiskD} (h : PInv S sup P k D) : D.secs.length = S := by rw [h.secs]; simp
theorem pinv_start {S : Nat} (hS : 1 ≤ S) (sup : List Nat) (P : Nat → Prop) : writeE (newD S) 0 = 0 ∧ deedE (writeD (newD S) 0 sup) = 0 ∧ (writeD (newD S) 0 sup).deeds < 1000000 ∧ PInv S sup P 0 (flushD (writeD (newD S) 0 sup)) := by
  have e : refI (newD S) 0 = 0 := by
    unfold refI
    rw [if_neg (by simp [newD]; omega)]
    rfl
  have e2 : writeD (newD S) 0 sup = deedD (pushD (newD S) (0, sup)) := by unfold writeD; rw [e]; rfl
  have e3 : writeE (newD S) 0 = deedE (newD S) := by unfold writeE; rw [e]; rfl
  refine ⟨e3, by rw [e2]; rfl, by rw [e2]; show 1 < 1000000; decide, ?_⟩
  rw [e2]
  refine ⟨rfl, rfl, rfl, ?_, Nat.le_refl _, Nat.le_refl _⟩
  intro p hp
  have : p ∈ ([] : List (Nat × List Nat)) := hp
  simp at this
theorem PInv.write {S : Nat} {sup : List Nat} {P : Nat → Prop} {k : Nat} {D : DiskD} (h : PInv S sup P k D) {x : Nat} (hx : x < S) (hp : P x) (s : List Nat) : writeE D x = 0 ∧ PInv S sup P (k + 1) (writeD D x s) := by
  have e : refI D x = 0 := by unfold refI; rw [h.len, if_neg (by omega), h.dead]; rfl
  have hs : strikeB D = false := by unfold strikeB; rw [h.dead, h.armed]; rfl
  have hs2 : strikeB (pushD D (x, s)) = false := hs
  have e2 : writeD D x s = { strikeD (pushD D (x, s)) with deeds := D.deeds + 1 } := by
    unfold writeD
    rw [e, if_neg (by decide)]
    unfold deedD
    rw [show ((x : Int)).toNat = x by simp, if_neg (by rw [hs2]; decide)]
    rfl
  have e3 : deedE D = 0 := if_neg (by rw [hs]; decide)
  refine ⟨by unfold writeE; rw [e]; exact e3, ?_⟩
  rw [e2]
  refine ⟨h.secs, hs2, h.armed, ?_, ?_, ?_⟩
  · intro p hp'
    have hp2 : p ∈ D.cache ++ [(x, s)] := hp'
    rcases List.mem_append.1 hp2 with h1 | h1
    · exact h.cache p h1
    · have : p = (x, s) := by simpa using h1
      rw [this]; exact hp
  · show (D.cache ++ [(x, s)]).length ≤ _
    have := h.few
    simp; omega
  · show D.deeds + 1 ≤ _
    have := h.deeds
    omega
theorem settles_apart (i : Nat) : ∀ (l : List (Nat × List Nat)) (s : List (List Nat)), (∀ p ∈ l, p.1 ≠ i) → (settles l s)[i]? = s[i]?
  | [], _, _ => rfl
  | p :: l, s, h => by
    show (settles l (s.set p.1 p.2))[i]? = _
    rw [settles_apart i l _ fun q hq => h q (List.mem_cons_of_mem _ hq)]
    exact List.getElem?_set_ne (h p (List.mem_cons_self ..))
theorem settles_length : ∀ (l : List (Nat × List Nat)) (s : List (List Nat)), (settles l s).length = s.length
  | [], _ => rfl
  | p :: l, s => by show (settles l (s.set p.1 p.2)).length = _; rw [settles_length l, List.length_set]
theorem keepsZ_mem {z : List ((Nat × List Nat) × Bool)} {p : Nat × List Nat} (h : p ∈ keepsZ z) : ∃ b, (p, b) ∈ z := by
  unfold keepsZ at h
  rw [List.mem_filterMap] at h
  obtain ⟨⟨q, b⟩, h1, h2⟩ := h
  by_cases hb : b = true
  · simp [hb] at h2; subst h2; exact ⟨b, h1⟩
  · simp [hb] at h2
theorem PInv.crash {S : Nat} {sup : List Nat} {P : Nat → Prop} {k : Nat} {D : DiskD} (h : PInv S sup P k D) (ks : List Bool) {x : Nat} (hx : x < S) : refI (crashD D ks) x = 0 ∧ (¬ P x → readS (crashD D ks) x = if x = 0 then sup else noughts) := by
  have hl : (crashD D ks).secs.length = S := by show (settles _ _).length = _; rw [settles_length]; exact h.len
  have e : refI (crashD D ks) x = 0 := by unfold refI; rw [hl, if_neg (by omega)]; rfl
  refine ⟨e, fun hp => ?_⟩
  unfold readS
  rw [e, if_neg (by decide)]
  show (settles (keepsZ (D.cache.zip ks)) D.secs)[((x : Int)).toNat]?.getD noughts = _
  rw [show ((x : Int)).toNat = x by simp, settles_apart]
  · rw [h.secs]
    by_cases h0 : x = 0
    · subst h0
      rw [List.getElem?_set_self (by simpa using hx), if_pos rfl]
      rfl
    · rw [List.getElem?_set_ne (by omega), if_neg h0, List.getElem?_replicate, if_pos hx]
      rfl
  · intro q hq hqx
    obtain ⟨b, hb⟩ := keepsZ_mem hq
    exact hp (hqx ▸ h.cache q (List.of_mem_zip hb).1)

theorem place_of {s g i q : Nat} (h : bnd s g i) (hq : (q : Int) < (s : Int) * g * 8) :
    whereP s g i (groupI s g i ((q : Int) / 8 / g) ((q : Int) / 8 % g) + 1 + (q : Int) % 8) ∧
    (groupI s g i ((q : Int) / 8 / g) ((q : Int) / 8 % g) + 1 + (q : Int) % 8 - logI s i) / 9 / g = (q : Int) / 8 / g ∧
    (groupI s g i ((q : Int) / 8 / g) ((q : Int) / 8 % g) + 1 + (q : Int) % 8 - logI s i) / 9 % g = (q : Int) / 8 % g ∧
    (groupI s g i ((q : Int) / 8 / g) ((q : Int) / 8 % g) + 1 + (q : Int) % 8 - logI s i) % 9 - 1 = (q : Int) % 8 := by
  have e : (q : Int) / 8 / g * g + (q : Int) / 8 % g = (q : Int) / 8 := Int.ediv_mul_add_emod ..
  have e2 : groupI s g i ((q : Int) / 8 / g) ((q : Int) / 8 % g) + 1 + (q : Int) % 8 - logI s i = (q : Int) / 8 * 9 + 1 + (q : Int) % 8 := by
    unfold groupI
    rw [e]
    omega
  have e3 : ((q : Int) / 8 * 9 + 1 + (q : Int) % 8) / 9 = (q : Int) / 8 := by omega
  refine ⟨⟨?_, ?_, ?_⟩, by rw [e2, e3], by rw [e2, e3], by rw [e2]; omega⟩
  · have := (Int.sub_nonneg (a := groupI s g i ((q : Int) / 8 / g) ((q : Int) / 8 % g) + 1 + (q : Int) % 8) (b := logI s i)).1
    apply this
    rw [e2]
    omega
  · unfold sectorsI
    generalize (s : Int) * g = sg at *
    omega
  · rw [e2]; omega

theorem ReadsB.below {n : Nat} {w w' : World} {a : Option Addr} {len : Nat} {l : List Bool} (h : ReadsB w a len l) (b : Below w.heap.size w w') : ReadsB w' a len l := by
  obtain ⟨h1, h2⟩ := h
  refine ⟨h1, ?_⟩
  rcases h2 with h2 | ⟨c, off, rfl, hb, hc⟩
  · exact .inl h2
  · exact .inr ⟨c, off, rfl, Nat.lt_of_lt_of_le hb b.size, fun i hi => (b.cell (p := ⟨c, off + i, none⟩) hb).trans (hc i hi)⟩
theorem readsB_far {B : Nat} {w0 w : World} {g gs : Nat} {cv : Value} {D : DiskD} {a : Option Addr} {len : Nat} {l : List Bool} (h : ReadsB w0 a len l) (hw : w0.heap.size ≤ B) (hd : IsDisk B w g gs cv D) (hl : l ≠ []) : ∀ x, a = some x → x.block ≠ g ∧ x.block ≠ gs ∧ cv.ownBlock ≠ some x.block := by
  obtain ⟨h1, h2 | ⟨c, off, rfl, hb, hc⟩⟩ := h
  · exact absurd h2 hl
  · intro x hx
    cases hx
    have k1 := hd.2.2.2.2.1
    have k2 := hd.2.2.2.2.2
    exact ⟨by show c ≠ g; omega, by show c ≠ gs; omega, fun e => by have := World.ownsRow.lt hd.2.2.1 _ e; show False; simp only at this; omega⟩
theorem readL_length {a : Nat} : ∀ (c : List (Nat × List Nat)) (s : List Nat), (∀ p ∈ c, p.2.length = 128) → s.length = 128 → (readL c a s).length = 128
  | [], s, _, hs => hs
  | p :: c, s, h, hs => by
    show (readL c a (if p.1 = a then p.2 else s)).length = 128
    refine readL_length c _ (fun q hq => h q (List.mem_cons_of_mem _ hq)) ?_
    split
    · exact h p (List.mem_cons_self ..)
    · exact hs
theorem readS_length {D : DiskD} (h : D.ok) (x : Int) : (readS D x).length = 128 := by
  unfold readS
  split
  · rfl
  · refine readL_length _ _ (fun p hp => (h.2.1 p hp).2.1) ?_
    cases e : D.secs[x.toNat]? with
    | none => rfl
    | some s => exact (h.1 s (List.mem_of_getElem? e)).1

set_option maxHeartbeats 1600000 in
theorem places_yes (s g i : Nat) (a : Option Addr) (len cap : Nat) (l : List Int) (b : Option Addr) (blen bcap : Nat) (ks : List Bool) (w : World) (hM : mayB s g i = true) (h4 : (s : Int) * g ≤ 400)
    (hr : ReadsI w a len l) (hlen : len ≤ 9223372036854775807) (hlc : len ≤ cap) (hcm : cap ≤ 9223372036854775807) (hk : ReadsB w b blen ks) (hbl : blen ≤ 9223372036854775807) :
    Calls Try.prog 8 #[.agg #[.int .i64 s, .int .i64 g, .int .i64 i], .slice a len cap, .slice b blen bcap] w fun e w' => e = .returned (.bool true) ∧ Below w.heap.size w w' := by
  have hb0 := below_box w (.cells #[.int .i64 s, .int .i64 g, .int .i64 i] 66)
  have hbox := box3_new w (.int .i64 s) (.int .i64 g) (.int .i64 i) 66
  have HB : Hid (bnd 20 2 10) := by show bnd _ _ _; unfold bnd; omega
  have HS : Hid (sectorsI 20 2 10 = 369) := by show _ = _; decide
  have HG := Lib.hid (mayB_yes hM).1
  have HM := Lib.hid hM
  have hsg := segs_bd HG.out
  have hbd := HG.out
  unfold bnd at hbd
  obtain ⟨S, hS, hS1, hS2⟩ : ∃ S : Nat, sectorsI s g i = S ∧ 1 ≤ S ∧ S ≤ 65536 := by
    have := sectors_bd HG.out
    exact ⟨(sectorsI s g i).toNat, by omega, by omega, by omega⟩
  have HSS := Lib.hid hS
  have HP := Lib.hid (pinv_start hS1 (superL s g i) (fun n => whereP s g i n))
  have hz := zero_sector
  have hsl := superL_length s g i
  have hsb := Lib.hid (superL_bytes s g i)
  clear hM hS
  go_enter Try.func8, Try.ntmps8
  go_wp2_with fail
  refine (gsectors _ HB.out).mono ?_
  rintro e w1 ⟨rfl, b1⟩
  rw [HS.out]
  have hb1 := below_next hb0 b1
  have hx1 := hbox.below b1
  clear hb0 hbox b1
  obtain ⟨hgx, c0, c1, c2⟩ := hx1
  go_wp2_with fail
  refine (rmay_is true _ HM.out).mono ?_
  rintro e w2 ⟨rfl, b2⟩
  have hb2 := below_next hb1 b2
  have hx2 := Box3.below ⟨hgx, c0, c1, c2⟩ b2
  clear hb1 b2 c0 c1 c2 hgx
  obtain ⟨hgx, c0, c1, c2⟩ := hx2
  go_wp2_with fail
  refine (own_any s g i _).mono ?_
  rintro e w3 ⟨rfl, b3⟩
  have hb3 := below_next hb2 b3
  have hx3 := Box3.below ⟨hgx, c0, c1, c2⟩ b3
  clear hb2 b3 c0 c1 c2 hgx
  go_wp2_with fail
  have hm3 := Box3.below hx3 (below_box w3 (.cells #[.int .i64 s, .int .i64 g, .int .i64 i] 67))
  have hy3 := box3_new w3 (.int .i64 s) (.int .i64 g) (.int .i64 i) 67
  have hb4 := below_next hb3 (below_box w3 (.cells #[.int .i64 s, .int .i64 g, .int .i64 i] 67))
  obtain ⟨m, hm⟩ : ∃ m, w3.heap.size = m := ⟨_, rfl⟩
  rw [hm] at hy3 ⊢
  generalize w3.alloc (.cells #[.int .i64 s, .int .i64 g, .int .i64 i] 67) = w4 at *
  clear hm hb3 hx3
  refine (gsectors w4 HG.out).mono ?_
  rintro e w5 ⟨rfl, b5⟩
  rw [HSS.out]
  have hb5 := below_next hb4 b5
  have hm5 := hm3.below b5
  have hy5 := hy3.below b5
  clear hb4 b5 hm3 hy3
  go_wp2_with fail
  refine (dnew_is S w5 hS1 hS2).mono ?_
  rintro e w6 ⟨gd, gsd, rfl, d6, b6⟩
  obtain ⟨B, hB⟩ : ∃ B, w5.heap.size = B := ⟨_, rfl⟩
  rw [hB] at d6 b6
  have hB0 : w.heap.size ≤ B := hB ▸ hb5.size
  have hmB : m < B := hB ▸ hy5.1
  have hwB : w.heap.size < B := hB ▸ hm5.1
  have hb6 := hb5.trans (b6.mono hB0)
  have hm6 := hm5.kept b6 hwB
  have hy6 := hy5.kept b6 hmB
  have D6 := Lib.hid d6
  have hB6 : B ≤ w6.heap.size := hB ▸ b6.size
  clear hb5 b6 hm5 hy5 d6 hB
  obtain ⟨hgx, c0, c1, c2⟩ := hm6
  obtain ⟨hgy, e0, e1, e2⟩ := hy6
  go_wp2_with fail
  refine (gsuper_nat w6 HG.out).mono ?_
  rintro e w7 ⟨rfl, b7⟩
  have hb7 := below_next hb6 b7
  have hm7 := Box3.below ⟨hgx, c0, c1, c2⟩ b7
  have hy7 := Box3.below ⟨hgy, e0, e1, e2⟩ b7
  have D7 := Lib.hid (D6.out.more b7)
  have hB7 := Nat.le_trans hB6 b7.size
  clear hb6 b7 c0 c1 c2 e0 e1 e2 D6 hgx hgy hB6
  go_wp2_with fail
  refine (dwrite_is D7.out (show 0 < 1000000 by decide) (show 0 < 1000000 by decide) 0 (superL s g i) hsl hsb.out).mono ?_
  rintro e w8 ⟨rfl, ⟨cv8, d8⟩, k8⟩
  rw [HP.out.1]
  have b8 := k8.below D7.out hB7
  have hb8 := hb7.trans (b8.mono hB0)
  have hm8 := hm7.kept b8 hwB
  have hy8 := hy7.kept b8 hmB
  have D8 := Lib.hid d8
  have hB8 := Nat.le_trans hB7 k8.size
  clear hb7 b8 hm7 hy7 D7 d8 k8 hB7
  go_wp2_with fail
  refine (dflush_is D8.out HP.out.2.2.1).mono ?_
  rintro e w9 ⟨rfl, ⟨cv9, d9, _⟩, k9⟩
  rw [HP.out.2.1]
  have b9 := k9.below D8.out hB8
  have hb9 := hb8.trans (b9.mono hB0)
  have hm9 := hm8.kept b9 hwB
  have hy9 := hy8.kept b9 hmB
  have D9 := Lib.hid d9
  have hB9 := Nat.le_trans hB8 k9.size
  clear hb8 b9 hm8 hy8 D8 d9 k9 hB8
  have HB9 := Lib.hid (And.intro hb9 (And.intro hm9 hy9))
  clear hb9 hm9 hy9
  have HRR := Lib.hid hr
  have HKK := Lib.hid hk
  clear hr hk
  go_wp2_with fail
  go_loopw [10, 11, 12, 13, 14, 15, 16] (fun x _ _ _ _ _ _ wr => ∃ (k : Nat) (D : DiskD) (cv : Value), k ≤ len ∧ k ≤ 40 ∧ x = .int .i64 k ∧ PInv S (superL s g i) (fun n => whereP s g i n) k D ∧ IsDisk B wr gd gsd cv D ∧ Below w.heap.size w wr ∧ Box3 wr w.heap.size (.int .i64 s) (.int .i64 g) (.int .i64 i) ∧ Box3 wr m (.int .i64 s) (.int .i64 g) (.int .i64 i)) (fun x _ _ _ _ _ _ _ => 40 - (intOf x).toNat)
  case atStart =>
    exact ⟨0, _, _, Nat.zero_le _, by decide, rfl, HP.out.2.2.2, D9.out, HB9.out⟩
  case round =>
    obtain ⟨k, D, cv, hk1, hk2, rfl, hP, hD, hB, hX, hY⟩ := hrel
    have HPK := Lib.hid hP
    have HDK := Lib.hid hD
    have HBK := Lib.hid hB
    have hszB : B ≤ wr.heap.size := by
      have := hD.2.2.2.2.1; have := (Array.getElem?_eq_some_iff.1 hD.1).1
      omega
    have hdd : D.deeds < 1000000 := by have := hP.deeds; omega
    have hcc : D.cache.length < 1000000 := by have := hP.few; omega
    clear hP hD hB
    obtain ⟨hgx, c0, c1, c2⟩ := hX
    obtain ⟨hgy, e0, e1, e2⟩ := hY
    by_cases hlt : k < len
    · by_cases h40 : k < 40
      · obtain ⟨ab, off, rfl, habl, hcell⟩ : ∃ b off, a = some ⟨b, off, none⟩ ∧ b < w.heap.size ∧ ∀ i, i < len → w.cell? ⟨b, off + i, none⟩ = some (.int .i64 (l[i]?.getD 0)) := by
          obtain ⟨h1, h2 | h2⟩ := HRR.out
          · subst h2; simp at h1; omega
          · exact h2
        obtain ⟨x, hx⟩ : ∃ x, l[k]?.getD 0 = x := ⟨_, rfl⟩
        have ca : wr.cell? ⟨ab, off + k, none⟩ = some (.int .i64 x) := by rw [← hx]; exact (HBK.out.cell (p := ⟨ab, off + k, none⟩) habl).trans (hcell k hlt)
        have hkl : (0 : Int) ≤ (k : Int) ∧ (k : Int) < (len : Int) := by omega
        have hk40 : (k : Int) < 40 := by omega
        clear hcell hx
        go_wp2_with fail
        go_quiet (fail)
        rename_i nq
        obtain ⟨q, hq, hqM⟩ : ∃ q : Nat, (wrap64 (x.tmod ((s : Int) * g * 8) + (s : Int) * g * 8)).tmod ((s : Int) * g * 8) = q ∧ (q : Int) < (s : Int) * g * 8 := by
          generalize (s : Int) * g = sg at *
          have h1 := Int.tmod_lt_of_pos x (show 0 < sg * 8 by omega)
          have h2 : -(sg * 8) < x.tmod (sg * 8) := Int.lt_tmod_of_pos x (by omega)
          have h3 : wrap64 (x.tmod (sg * 8) + sg * 8) = x.tmod (sg * 8) + sg * 8 := IntWalk.wrap64_in _ (by omega)
          rw [h3]
          have h4 := Int.tmod_nonneg (sg * 8) (show 0 ≤ x.tmod (sg * 8) + sg * 8 by omega)
          have h5 := Int.tmod_lt_of_pos (x.tmod (sg * 8) + sg * 8) (show 0 < sg * 8 by omega)
          exact ⟨((x.tmod (sg * 8) + sg * 8).tmod (sg * 8)).toNat, by omega, by omega⟩
        rw [hq]
        clear hq ca
        go_wp2_with fail
        have hW : Below wr.heap.size wr (wr.drewN nq) := ⟨rfl, rfl, rfl, Nat.le_refl _, fun _ _ => rfl⟩
        have hsz : (wr.drewN nq).heap.size = wr.heap.size := rfl
        have HDW := Lib.hid (HDK.out.more hW)
        have HBW : Hid (Below w.heap.size w (wr.drewN nq)) := HBK.out.trans (hW.mono HBK.out.size)
        obtain ⟨hgx', d0, d1, d2⟩ := Box3.below ⟨hgx, c0, c1, c2⟩ hW
        obtain ⟨hgy', f0, f1, f2⟩ := Box3.below ⟨hgy, e0, e1, e2⟩ hW
        have hszW : B ≤ (wr.drewN nq).heap.size := hszB
        generalize wr.drewN nq = W at *
        clear c0 c1 c2 e0 e1 e2 hgx hgy hW hsz HDK HBK
        have k0 := cell_regrown d0
        have k1 := cell_regrown d1
        have k2 := cell_regrown d2
        have l0 := cell_regrown f0
        have l1 := cell_regrown f1
        have l2 := cell_regrown f2
        have hgp : (0 : Int) < g := by omega
        have hin : inI s g ((q : Int) / 8 / g) ((q : Int) / 8 % g) := by
          refine ⟨Int.ediv_nonneg (by omega) (by omega), ?_, Int.emod_nonneg _ (by omega), Int.emod_lt_of_pos _ hgp⟩
          refine Int.ediv_lt_of_lt_mul hgp ?_
          omega
        have HIN := Lib.hid hin
        clear hin
        refine wp_region_quiet_below (by kernel_rfl) (by kernel_rfl) ?_
        repeat (go_big_quiet_step (first
          | (go_at_call 36; exact Calls.regrown_of (gblock ((q : Int) / 8 / g) ((q : Int) / 8 % g) ((q : Int) % 8) _ HG.out HIN.out (by omega)))))
        refine wpQuiet_nil (regrown_name fun w10 b10 => ?_)
        obtain ⟨AT, hAT⟩ : ∃ AT : Nat, groupI s g i ((q : Int) / 8 / g) ((q : Int) / 8 % g) + 1 + (q : Int) % 8 = AT := by
          have := group_bd HG.out HIN.out
          exact ⟨(groupI s g i ((q : Int) / 8 / g) ((q : Int) / 8 % g) + 1 + (q : Int) % 8).toNat, by omega⟩
        have hpl := place_of (i := i) HG.out hqM
        rw [hAT] at hpl ⊢
        have hATS : AT < S := by
          have := hpl.1.2.1
          rw [HSS.out] at this
          omega
        have hPW := HPK.out.write hATS hpl.1 (1 :: (q % 256) :: List.replicate 126 0)
        have hq32 : (q : Int) < 3200 := by omega
        have HPL := Lib.hid hpl
        have HPW := Lib.hid hPW
        have HDW2 := Lib.hid (HDW.out.more b10)
        have HBW2 : Hid (Below w.heap.size w w10) := HBW.out.trans (b10.mono HBW.out.size)
        have hszW2 := Nat.le_trans hszW b10.size
        obtain ⟨hgx, c0, c1, c2⟩ := Box3.below ⟨hgx', d0, d1, d2⟩ b10
        obtain ⟨hgy, e0, e1, e2⟩ := Box3.below ⟨hgy', f0, f1, f2⟩ b10
        clear hAT hpl hPW k0 k1 k2 l0 l1 l2 d0 d1 d2 f0 f1 f2 hgx' hgy' b10 HDW HBW hszW HIN hqM
        go_wp2_with fail
        refine (gwhere_yes AT w10 HG.out HPL.out.1).mono ?_
        rintro e w11 ⟨rfl, b11⟩
        rw [HPL.out.2.1, HPL.out.2.2.1, HPL.out.2.2.2]
        have HDW := Lib.hid (HDW2.out.more b11)
        have HBW : Hid (Below w.heap.size w w11) := HBW2.out.trans (b11.mono HBW2.out.size)
        have hszW := Nat.le_trans hszW2 b11.size
        obtain ⟨hgx', d0, d1, d2⟩ := Box3.below ⟨hgx, c0, c1, c2⟩ b11
        obtain ⟨hgy', f0, f1, f2⟩ := Box3.below ⟨hgy, e0, e1, e2⟩ b11
        clear c0 c1 c2 e0 e1 e2 hgx hgy b11 HDW2 HBW2 hszW2
        go_wp2_with fail
        refine (dwrite_is HDW.out hdd hcc (AT : Int) (1 :: (q % 256) :: List.replicate 126 0) rfl ?_).mono ?_
        · intro y hy
          simp only [List.mem_cons, List.mem_replicate] at hy
          omega
        rintro e w12 ⟨rfl, ⟨cv12, d12⟩, k12⟩
        rw [HPW.out.1]
        have b12 := k12.below HDW.out hszW
        have D12 := Lib.hid d12
        have B12 : Hid (Below w.heap.size w w12) := HBW.out.trans (b12.mono hB0)
        have X12 := Box3.kept ⟨hgx', d0, d1, d2⟩ b12 hwB
        have Y12 := Box3.kept ⟨hgy', f0, f1, f2⟩ b12 hmB
        have Z12 := Lib.hid (And.intro X12 Y12)
        clear d12 k12 b12 X12 Y12 HDW HBW d0 d1 d2 f0 f1 f2 hszW
        go_wp2
        go_roundw
        case rel => exact ⟨k + 1, _, _, by omega, by omega, by simp, HPW.out.2, D12.out, B12.out, Z12.out⟩
        case measure => simp [intOf]; omega
      · have hge : ¬ ((k : Int) < 40) := by omega
        have hltI : (k : Int) < (len : Int) := by omega
        have HKw := Lib.hid (HKK.out.below (n := 0) HBK.out)
        have HCR := Lib.hid (fun x (hx : x < S) => HPK.out.crash ks hx)
        go_wp2_with fail
        refine (dcrash_is b blen bcap ks HDK.out HKw.out hbl (fun hks => readsB_far HKK.out hB0 HDK.out hks)).mono ?_
        rintro e w10 ⟨rfl, d10, k10⟩
        have b10 := k10.below HDK.out hszB
        have D10 := Lib.hid d10
        have B10 : Hid (Below w.heap.size w w10) := HBK.out.trans (b10.mono hB0)
        have Y10 := Box3.kept ⟨hgy, e0, e1, e2⟩ b10 hmB
        have hL := fun x => readS_length d10.2.2.2.1 x
        clear d10 k10 b10 HDK HBK hgx c0 c1 c2 hgy e0 e1 e2
        obtain ⟨hgy, e0, e1, e2⟩ := Y10
        go_wp2_with fail
        refine (dread_is D10.out 0).mono ?_
        rintro e w11 ⟨rfl, b11⟩
        have hsup : readS (crashD D ks) 0 = superL s g i := by
          have := (HCR.out 0 (by omega)).2 (by intro h; have := h.1; have := log_bd HG.out; omega)
          exact this
        have hrf : refI (crashD D ks) 0 = 0 := (HCR.out 0 (by omega)).1
        rw [hsup, hrf]
        have Y11 := Box3.below ⟨hgy, e0, e1, e2⟩ b11
        have D11 := Lib.hid (D10.out.more b11)
        have B11 : Hid (Below w.heap.size w w11) := B10.out.trans (b11.mono B10.out.size)
        clear hsup hrf b11 D10 B10 hgy e0 e1 e2
        have n11 := heap_alloc_new w11 (.cells (cells noughts) 46)
        have b12 := below_box w11 (.cells (cells (superL s g i)) 46)
        have n12 := heap_alloc_new w11 (.cells (cells (superL s g i)) 46)
        have e12 := World.setRow_alloc_new w11 (cells noughts) (cells (superL s g i)) 46
        obtain ⟨w12, hw12⟩ : ∃ w12, w11.alloc (.cells (cells (superL s g i)) 46) = w12 := ⟨_, rfl⟩
        rw [hw12] at b12 n12 e12
        have HC12 := Lib.hid (block_cells hsl n12)
        have Y12 := Y11.below b12
        have D12 := Lib.hid (D11.out.more b12)
        have B12 : Hid (Below w.heap.size w w12) := B11.out.trans (b12.mono B11.out.size)
        clear b12 hw12 D11 B11 Y11
        go_wp2_with (first | (refine wpList_store_sector rfl _ _ rfl w11.heap.size (superL s g i) (by go_simp) (by go_simp) hsl _ _ n11 rfl ?_; rw [e12]) | (refine wpList_load_sector rfl _ rfl w11.heap.size 0 (superL s g i) (by go_simp) hsl HC12.out ?_))
        refine (gread_any (superL s g i) hsl hsb.out w12).mono ?_
        rintro e w13 ⟨b13, h13⟩
        have he : e = .returned (.tuple #[.agg #[.int .i64 s, .int .i64 g, .int .i64 i], .int .i64 0]) := by
          obtain ⟨q1, q2, q3, q4⟩ := super_is HM.out
          rcases h13 with ⟨_, he⟩ | ⟨hn, _⟩
          · rw [q2, q3, q4] at he; exact he
          · rw [q1] at hn; cases hn
        subst he
        have Y13 := Y12.below b13
        have D13 := Lib.hid (D12.out.more b13)
        have B13 : Hid (Below w.heap.size w w13) := B12.out.trans (b13.mono B12.out.size)
        clear h13 b13 D12 B12 Y12 HC12 n11 n12 e12
        have b14 := below_box w13 (.cells #[.int .i64 s, .int .i64 g, .int .i64 i] 67)
        have X14 := box3_new w13 (.int .i64 s) (.int .i64 g) (.int .i64 i) 67
        have Y14 := Y13.below b14
        have D14 := Lib.hid (D13.out.more b14)
        have B14 : Hid (Below w.heap.size w (w13.alloc (.cells #[.int .i64 s, .int .i64 g, .int .i64 i] 67))) := B13.out.trans (b14.mono B13.out.size)
        clear b14 D13 B13 Y13
        have hneq := run_neq_geom s g i
        obtain ⟨hgx, c0, c1, c2⟩ := X14
        obtain ⟨hgy, e0, e1, e2⟩ := Y14
        go_wp2_with fail
        generalize w13.alloc (.cells #[.int .i64 s, .int .i64 g, .int .i64 i] 67) = w14 at *
        go_loopw [19, 20, 21, 22, 23, 24, 25] (fun x _ _ _ _ _ _ wv => ∃ j : Nat, 1 ≤ j ∧ j ≤ S ∧ x = .int .i64 j ∧ IsDisk B wv gd gsd (.slice none 0 0) (crashD D ks) ∧ Below w.heap.size w wv ∧ Box3 wv m (.int .i64 s) (.int .i64 g) (.int .i64 i)) (fun x _ _ _ _ _ _ _ => S - (intOf x).toNat)
        case atStart =>
          exact ⟨1, Nat.le_refl _, hS1, rfl, D14.out, B14.out, hgy, e0, e1, e2⟩
        case round =>
          clear hgx c0 c1 c2 hgy e0 e1 e2
          obtain ⟨j, hj1, hj2, rfl, hDj, hBj, hgy, e0, e1, e2⟩ := hrel
          have DJ := Lib.hid hDj
          have BJ := Lib.hid hBj
          clear hDj hBj
          go_wp2_with fail
          refine (gsectors wr HG.out).mono ?_
          rintro e v1 ⟨rfl, b1⟩
          rw [HSS.out]
          have Y1 := Box3.below ⟨hgy, e0, e1, e2⟩ b1
          have D1 := Lib.hid (DJ.out.more b1)
          have B1 : Hid (Below w.heap.size w v1) := BJ.out.trans (b1.mono BJ.out.size)
          clear b1 DJ BJ hgy e0 e1 e2
          obtain ⟨hgy, e0, e1, e2⟩ := Y1
          by_cases hjS : j < S
          · have hjI : (j : Int) < (S : Int) := by omega
            go_wp2_with fail
            refine (dread_is D1.out (j : Int)).mono ?_
            rintro e v2 ⟨rfl, b2⟩
            rw [(HCR.out j hjS).1]
            have hx8 := hL (j : Int)
            have hxe := (HCR.out j hjS).2
            rw [if_neg (by omega)] at hxe
            generalize readS (crashD D ks) (j : Int) = xs at *
            have HXE := Lib.hid hxe
            have Y2 := Box3.below ⟨hgy, e0, e1, e2⟩ b2
            have D2 := Lib.hid (D1.out.more b2)
            have B2 : Hid (Below w.heap.size w v2) := B1.out.trans (b2.mono B1.out.size)
            clear b2 D1 B1 hgy e0 e1 e2 hxe
            have n2 := heap_alloc_new v2 (.cells (cells noughts) 46)
            have b3 := below_box v2 (.cells (cells xs) 46)
            have n3 := heap_alloc_new v2 (.cells (cells xs) 46)
            have e3 := World.setRow_alloc_new v2 (cells noughts) (cells xs) 46
            obtain ⟨v3, hv3⟩ : ∃ v3, v2.alloc (.cells (cells xs) 46) = v3 := ⟨_, rfl⟩
            rw [hv3] at b3 n3 e3
            have Y3 := Y2.below b3
            have D3 := Lib.hid (D2.out.more b3)
            have B3 : Hid (Below w.heap.size w v3) := B2.out.trans (b3.mono B2.out.size)
            obtain ⟨hgy, e0, e1, e2⟩ := Y3
            clear b3 D2 B2 hv3 Y2
            go_wp2_with (refine wpList_store_sector rfl _ _ rfl v2.heap.size xs (by go_simp) (by go_simp) hx8 _ _ n2 rfl ?_; rw [e3])
            by_cases hwh : whereP s g i j
            · refine (gwhere_yes (j : Int) v3 HG.out hwh).mono ?_
              rintro e v4 ⟨rfl, b4⟩
              have Y4 := Lib.hid (Box3.below ⟨hgy, e0, e1, e2⟩ b4)
              have D4 := Lib.hid (D3.out.more b4)
              have B4 : Hid (Below w.heap.size w v4) := B3.out.trans (b4.mono B3.out.size)
              clear b4 D3 B3 hgy e0 e1 e2 n2 n3 e3
              go_wp2
              go_roundw
              case rel => exact ⟨j + 1, by omega, by omega, by simp, D4.out, B4.out, Y4.out⟩
              case measure => simp [intOf]; omega
            · refine (gwhere_no (j : Int) v3 (by omega) HG.out hwh).mono ?_
              rintro e v4 ⟨rfl, b4⟩
              have n4 := (b4.block v2.heap.size (Array.getElem?_eq_some_iff.1 n3).1).trans n3
              have HC4 := Lib.hid (block_cells hx8 n4)
              have Y4 := Lib.hid (Box3.below ⟨hgy, e0, e1, e2⟩ b4)
              have D4 := Lib.hid (D3.out.more b4)
              have B4 : Hid (Below w.heap.size w v4) := B3.out.trans (b4.mono B3.out.size)
              have hneq := run_neq_sector xs noughts hx8 rfl
              rw [decide_eq_true (HXE.out hwh), Bool.not_true] at hneq
              have hbld := build_sector
              clear b4 D3 B3 hgy e0 e1 e2 n2 n3 e3 n4
              go_wp2_with (refine wpList_load_sector_want (by rfl) _ rfl v2.heap.size 0 xs (by go_simp) hx8 HC4.out ?_)
              go_roundw
              case rel => exact ⟨j + 1, by omega, by omega, by simp, D4.out, B4.out, Y4.out⟩
              case measure => simp [intOf]; omega
          · have hjI : ¬ ((j : Int) < (S : Int)) := by omega
            go_wp2
            go_ret
            exact ⟨rfl, B1.out⟩
    · have hge : ¬ ((k : Int) < (len : Int)) := by omega
      have HKw := Lib.hid (HKK.out.below (n := 0) HBK.out)
      have HCR := Lib.hid (fun x (hx : x < S) => HPK.out.crash ks hx)
      go_wp2_with fail
      refine (dcrash_is b blen bcap ks HDK.out HKw.out hbl (fun hks => readsB_far HKK.out hB0 HDK.out hks)).mono ?_
      rintro e w10 ⟨rfl, d10, k10⟩
      have b10 := k10.below HDK.out hszB
      have D10 := Lib.hid d10
      have B10 : Hid (Below w.heap.size w w10) := HBK.out.trans (b10.mono hB0)
      have Y10 := Box3.kept ⟨hgy, e0, e1, e2⟩ b10 hmB
      have hL := fun x => readS_length d10.2.2.2.1 x
      clear d10 k10 b10 HDK HBK hgx c0 c1 c2 hgy e0 e1 e2
      obtain ⟨hgy, e0, e1, e2⟩ := Y10
      go_wp2_with fail
      refine (dread_is D10.out 0).mono ?_
      rintro e w11 ⟨rfl, b11⟩
      have hsup : readS (crashD D ks) 0 = superL s g i := by
        have := (HCR.out 0 (by omega)).2 (by intro h; have := h.1; have := log_bd HG.out; omega)
        exact this
      have hrf : refI (crashD D ks) 0 = 0 := (HCR.out 0 (by omega)).1
      rw [hsup, hrf]
      have Y11 := Box3.below ⟨hgy, e0, e1, e2⟩ b11
      have D11 := Lib.hid (D10.out.more b11)
      have B11 : Hid (Below w.heap.size w w11) := B10.out.trans (b11.mono B10.out.size)
      clear hsup hrf b11 D10 B10 hgy e0 e1 e2
      have n11 := heap_alloc_new w11 (.cells (cells noughts) 46)
      have b12 := below_box w11 (.cells (cells (superL s g i)) 46)
      have n12 := heap_alloc_new w11 (.cells (cells (superL s g i)) 46)
      have e12 := World.setRow_alloc_new w11 (cells noughts) (cells (superL s g i)) 46
      obtain ⟨w12, hw12⟩ : ∃ w12, w11.alloc (.cells (cells (superL s g i)) 46) = w12 := ⟨_, rfl⟩
      rw [hw12] at b12 n12 e12
      have HC12 := Lib.hid (block_cells hsl n12)
      have Y12 := Y11.below b12
      have D12 := Lib.hid (D11.out.more b12)
      have B12 : Hid (Below w.heap.size w w12) := B11.out.trans (b12.mono B11.out.size)
      clear b12 hw12 D11 B11 Y11
      go_wp2_with (first | (refine wpList_store_sector rfl _ _ rfl w11.heap.size (superL s g i) (by go_simp) (by go_simp) hsl _ _ n11 rfl ?_; rw [e12]) | (refine wpList_load_sector rfl _ rfl w11.heap.size 0 (superL s g i) (by go_simp) hsl HC12.out ?_))
      refine (gread_any (superL s g i) hsl hsb.out w12).mono ?_
      rintro e w13 ⟨b13, h13⟩
      have he : e = .returned (.tuple #[.agg #[.int .i64 s, .int .i64 g, .int .i64 i], .int .i64 0]) := by
        obtain ⟨q1, q2, q3, q4⟩ := super_is HM.out
        rcases h13 with ⟨_, he⟩ | ⟨hn, _⟩
        · rw [q2, q3, q4] at he; exact he
        · rw [q1] at hn; cases hn
      subst he
      have Y13 := Y12.below b13
      have D13 := Lib.hid (D12.out.more b13)
      have B13 : Hid (Below w.heap.size w w13) := B12.out.trans (b13.mono B12.out.size)
      clear h13 b13 D12 B12 Y12 HC12 n11 n12 e12
      have b14 := below_box w13 (.cells #[.int .i64 s, .int .i64 g, .int .i64 i] 67)
      have X14 := box3_new w13 (.int .i64 s) (.int .i64 g) (.int .i64 i) 67
      have Y14 := Y13.below b14
      have D14 := Lib.hid (D13.out.more b14)
      have B14 : Hid (Below w.heap.size w (w13.alloc (.cells #[.int .i64 s, .int .i64 g, .int .i64 i] 67))) := B13.out.trans (b14.mono B13.out.size)
      clear b14 D13 B13 Y13
      have hneq := run_neq_geom s g i
      obtain ⟨hgx, c0, c1, c2⟩ := X14
      obtain ⟨hgy, e0, e1, e2⟩ := Y14
      go_wp2_with fail
      generalize w13.alloc (.cells #[.int .i64 s, .int .i64 g, .int .i64 i] 67) = w14 at *
      go_loopw [19, 20, 21, 22, 23, 24, 25] (fun x _ _ _ _ _ _ wv => ∃ j : Nat, 1 ≤ j ∧ j ≤ S ∧ x = .int .i64 j ∧ IsDisk B wv gd gsd (.slice none 0 0) (crashD D ks) ∧ Below w.heap.size w wv ∧ Box3 wv m (.int .i64 s) (.int .i64 g) (.int .i64 i)) (fun x _ _ _ _ _ _ _ => S - (intOf x).toNat)
      case atStart =>
        exact ⟨1, Nat.le_refl _, hS1, rfl, D14.out, B14.out, hgy, e0, e1, e2⟩
      case round =>
        clear hgx c0 c1 c2 hgy e0 e1 e2
        obtain ⟨j, hj1, hj2, rfl, hDj, hBj, hgy, e0, e1, e2⟩ := hrel
        have DJ := Lib.hid hDj
        have BJ := Lib.hid hBj
        clear hDj hBj
        go_wp2_with fail
        refine (gsectors wr HG.out).mono ?_
        rintro e v1 ⟨rfl, b1⟩
        rw [HSS.out]
        have Y1 := Box3.below ⟨hgy, e0, e1, e2⟩ b1
        have D1 := Lib.hid (DJ.out.more b1)
        have B1 : Hid (Below w.heap.size w v1) := BJ.out.trans (b1.mono BJ.out.size)
        clear b1 DJ BJ hgy e0 e1 e2
        obtain ⟨hgy, e0, e1, e2⟩ := Y1
        by_cases hjS : j < S
        · have hjI : (j : Int) < (S : Int) := by omega
          go_wp2_with fail
          refine (dread_is D1.out (j : Int)).mono ?_
          rintro e v2 ⟨rfl, b2⟩
          rw [(HCR.out j hjS).1]
          have hx8 := hL (j : Int)
          have hxe := (HCR.out j hjS).2
          rw [if_neg (by omega)] at hxe
          generalize readS (crashD D ks) (j : Int) = xs at *
          have HXE := Lib.hid hxe
          have Y2 := Box3.below ⟨hgy, e0, e1, e2⟩ b2
          have D2 := Lib.hid (D1.out.more b2)
          have B2 : Hid (Below w.heap.size w v2) := B1.out.trans (b2.mono B1.out.size)
          clear b2 D1 B1 hgy e0 e1 e2 hxe
          have n2 := heap_alloc_new v2 (.cells (cells noughts) 46)
          have b3 := below_box v2 (.cells (cells xs) 46)
          have n3 := heap_alloc_new v2 (.cells (cells xs) 46)
          have e3 := World.setRow_alloc_new v2 (cells noughts) (cells xs) 46
          obtain ⟨v3, hv3⟩ : ∃ v3, v2.alloc (.cells (cells xs) 46) = v3 := ⟨_, rfl⟩
          rw [hv3] at b3 n3 e3
          have Y3 := Y2.below b3
          have D3 := Lib.hid (D2.out.more b3)
          have B3 : Hid (Below w.heap.size w v3) := B2.out.trans (b3.mono B2.out.size)
          obtain ⟨hgy, e0, e1, e2⟩ := Y3
          clear b3 D2 B2 hv3 Y2
          go_wp2_with (refine wpList_store_sector rfl _ _ rfl v2.heap.size xs (by go_simp) (by go_simp) hx8 _ _ n2 rfl ?_; rw [e3])
          by_cases hwh : whereP s g i j
          · refine (gwhere_yes (j : Int) v3 HG.out hwh).mono ?_
            rintro e v4 ⟨rfl, b4⟩
            have Y4 := Lib.hid (Box3.below ⟨hgy, e0, e1, e2⟩ b4)
            have D4 := Lib.hid (D3.out.more b4)
            have B4 : Hid (Below w.heap.size w v4) := B3.out.trans (b4.mono B3.out.size)
            clear b4 D3 B3 hgy e0 e1 e2 n2 n3 e3
            go_wp2
            go_roundw
            case rel => exact ⟨j + 1, by omega, by omega, by simp, D4.out, B4.out, Y4.out⟩
            case measure => simp [intOf]; omega
          · refine (gwhere_no (j : Int) v3 (by omega) HG.out hwh).mono ?_
            rintro e v4 ⟨rfl, b4⟩
            have n4 := (b4.block v2.heap.size (Array.getElem?_eq_some_iff.1 n3).1).trans n3
            have HC4 := Lib.hid (block_cells hx8 n4)
            have Y4 := Lib.hid (Box3.below ⟨hgy, e0, e1, e2⟩ b4)
            have D4 := Lib.hid (D3.out.more b4)
            have B4 : Hid (Below w.heap.size w v4) := B3.out.trans (b4.mono B3.out.size)
            have hneq := run_neq_sector xs noughts hx8 rfl
            rw [decide_eq_true (HXE.out hwh), Bool.not_true] at hneq
            have hbld := build_sector
            clear b4 D3 B3 hgy e0 e1 e2 n2 n3 e3 n4
            go_wp2_with (refine wpList_load_sector_want (by rfl) _ rfl v2.heap.size 0 xs (by go_simp) hx8 HC4.out ?_)
            go_roundw
            case rel => exact ⟨j + 1, by omega, by omega, by simp, D4.out, B4.out, Y4.out⟩
            case measure => simp [intOf]; omega
        · have hjI : ¬ ((j : Int) < (S : Int)) := by omega
          go_wp2
          go_ret
          exact ⟨rfl, B1.out⟩
theorem places_walk (s g i : Int) (a : Option Addr) (len cap : Nat) (l : List Int) (b : Option Addr) (blen bcap : Nat) (ks : List Bool) (w : World)
    (hr : ReadsI w a len l) (hlen : len ≤ 9223372036854775807) (hlc : len ≤ cap) (hcm : cap ≤ 9223372036854775807) (hk : ReadsB w b blen ks) (hbl : blen ≤ 9223372036854775807) :
    Calls Try.prog 8 #[.agg #[.int .i64 s, .int .i64 g, .int .i64 i], .slice a len cap, .slice b blen bcap] w fun e w' => e = .returned (.bool true) ∧ Below w.heap.size w w' := by
  by_cases hM : mayB s g i = true
  · by_cases h4 : s * g ≤ 400
    · have hb := (mayB_yes hM).1
      unfold bnd at hb
      obtain ⟨sn, rfl⟩ := Int.eq_ofNat_of_zero_le (show 0 ≤ s by omega)
      obtain ⟨gn, rfl⟩ := Int.eq_ofNat_of_zero_le (show 0 ≤ g by omega)
      obtain ⟨jn, rfl⟩ := Int.eq_ofNat_of_zero_le (show 0 ≤ i by omega)
      exact places_yes sn gn jn a len cap l b blen bcap ks w hM h4 hr hlen hlc hcm hk hbl
    · exact places_no s g i a len cap l b blen bcap ks w (.inr (by omega))
  · exact places_no s g i a len cap l b blen bcap ks w (.inl (by simpa using hM))

set_option maxRecDepth 100000 in
theorem drumlinPlaces_lifted (os : Os) (started : os.Started) (H : Type) (enc : TypeId × Value → H) :
    ReturnsInHanded {} Try.checked os 8 .any (Rows.drumlinPlacesSpec.pre6 enc Try.prog Try.f8 Rows.drumlinPlacesRow.domain false) (Rows.drumlinPlacesSpec.post enc Try.prog Try.f8 false true false false) :=
  law_lifted (s := Rows.drumlinPlacesSpec) started Try.func8 (by kernel_rfl) rfl (fun ds hd => by
        match ds, hd with
        | [_, _, _], _ => rfl) rfl
      (of_decide_eq_true (by kernel_rfl))
      (ChangeSpec.witness6 (enc := enc) (C := Try.checked) false ⟨#[], #[.agg #[.int .i64 0, .int .i64 0, .int .i64 0], .slice none 0 0, .slice none 0 0], []⟩ 8 (by kernel_rfl) (by kernel_rfl) (by kernel_rfl) (by kernel_rfl))
      (fun W base args ds ps hval hA hsz => by
        rw [Try.params8] at hA hval hsz
        obtain ⟨v0, vs0, d0, ds0, p0, q0, hargs, rfl, rfl, h0, r0⟩ := trodAll_cons hA
        obtain ⟨v1, vs1, d1, ds1, p1, q1, rfl, rfl, rfl, h1, r1⟩ := trodAll_cons r0
        obtain ⟨v2, vs2, d2, ds2, p2, q2, rfl, rfl, rfl, h2, r2⟩ := trodAll_cons r1
        obtain ⟨rfl, rfl, rfl⟩ := trodAll_nil r2
        obtain rfl : args = #[v0, v1, v2] := by cases args; simp_all
        simp only [DataW.weightsEach, List.all_append, Bool.and_eq_true] at hsz
        obtain ⟨z0, z1, z2, _⟩ := hsz
        obtain ⟨s, g, i, rfl, _, _, _⟩ := open_geom (hval 0 66 v0 rfl rfl) h0
        obtain ⟨a, len, cap, l, rfl, hr, hl, hc, _⟩ := open_nums (hval 1 43 v1 rfl rfl) h1 z1
        obtain ⟨b, blen, bcap, ks, rfl, hk, hbl, hbc⟩ := open_truths (hval 2 34 v2 rfl rfl) h2
        unfold maxLen at hbc
        exact places_walk s g i a len cap l b blen bcap ks W hr (by omega) hl (by omega) hk (by omega))

theorem drumlinPlaces_holds : Rows.DrumlinPlacesSaid :=
  OpenClaim.holds_of_wide 8 Try.f8 rfl rfl rfl rfl rfl rfl rfl ⟨rfl, rfl, rfl, rfl, rfl⟩ rfl rfl rfl rfl rfl (by kernel_rfl) Try.func8 (by kernel_rfl)
    (of_decide_eq_true (by kernel_rfl)) (by unfold Func.isWrapper; first | (rw [if_pos (by decide +kernel)]; kernel_rfl) | (rw [if_neg (by decide +kernel)]; exact ⟨rfl, rfl⟩))
    (fun os started H enc _ => drumlinPlaces_lifted os started H enc)
#print axioms drumlinPlaces_holds
end Go.Proofs.Ytedhfgadphjobaa
