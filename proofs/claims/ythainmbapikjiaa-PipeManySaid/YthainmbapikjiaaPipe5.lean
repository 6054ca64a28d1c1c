/- Pipes: Write and Read, by their walks. -/
import Derived.Test.YthainmbapikjiaaPipe4
namespace Go.Proofs.Ythainmbapikjiaa
open Go.RowKit Go.Sort
set_option linter.unusedVariables false
set_option linter.unusedSimpArgs false
set_option maxRecDepth 100000

/-- How many bytes go in, and the error. -/
def wrK (s : PipeD) (n : Nat) : Nat × Int := if n = 0 then (0, 0) else if s.readers = 0 then (0, 16) else if s.count = 64 then (0, 15) else (min n (64 - s.count), 0)
def WritePost (B : Nat) (w : World) (g gs : Nat) (fl : List PipeD) (i : Nat) (s : PipeD) (l : List Nat) (e : Ending) (w' : World) : Prop :=
  ∃ s', e = .returned (.tuple #[.int .i64 ((wrK s l.length).1 : Nat), .int .i64 (wrK s l.length).2]) ∧ IsPipes B w' g gs (fl.set i s') ∧ w.grownBy w' (some gs) ∧ content s' = content s ++ l.take (wrK s l.length).1 ∧ s'.readers = s.readers ∧ s'.writers = s.writers
set_option maxHeartbeats 1600000 in
theorem pwrite_is {B : Nat} {w : World} {g gs : Nat} {fl : List PipeD} (h : IsPipes B w g gs fl) (n : Int) (i : Nat) (hn : n = (i : Int) + 1) (s : PipeD) (hu : fl[i]? = some s) (hk : thereB s = true)
    (ba : Option Addr) (bn bc : Nat) (l : List Nat) (hb : Reads w ba bn l) (hbn : bn ≤ 1000000) (hbc : bn ≤ bc) (hne : l ≠ [] → ∀ x, ba = some x → x.block ≠ gs) :
    Calls Try.prog 19 #[.pointer (some ⟨g, 0, none⟩), .int .i64 n, .slice ba bn bc] w (WritePost B w g gs fl i s l) := by
  have HF := Lib.hid (pfind_yes h n i hn s hu hk)
  have hok := pipes_lts h hu
  obtain ⟨k1, k2, k3, k4, k5, k6⟩ := hok
  have H := Lib.hid h
  have HU := Lib.hid hu
  have hl := hb.1
  have HSELF := Lib.hid (pipes_setself hu)
  unfold WritePost
  rw [hl]
  by_cases h0 : bn = 0
  · have hK : wrK s bn = (0, 0) := by unfold wrK; rw [if_pos h0]
    rw [hK]
    have HL := Lib.hid hl
    subst h0
    clear h hu hk hn hb hne hl hK
    go_enter Try.func19, Try.ntmps19
    go_wp2_with fail
    refine HF.out.mono ?_
    rintro e w1 ⟨rfl, b1⟩
    have HB := Lib.hid b1
    clear b1
    go_wp2
    go_ret2
    exact ⟨s, rfl, by rw [HSELF.out]; exact H.out.below HB.out, grown_ofBelowP HB.out, by rw [List.take_zero, List.append_nil], rfl, rfl⟩
  have h0' : ¬ (bn : Int) = 0 := by omega
  by_cases hr0 : s.readers = 0
  · have hK : wrK s bn = (0, 16) := by unfold wrK; rw [if_neg h0, if_pos hr0]
    rw [hK]
    have hr0' : (s.readers : Int) = 0 := by omega
    clear h hu hk hn hb hne hl hK h0
    go_enter Try.func19, Try.ntmps19
    go_wp2_with fail
    refine HF.out.mono ?_
    rintro e w1 ⟨rfl, b1⟩
    obtain ⟨r0, r1, r2, r3⟩ := pipes_row (H.out.below b1) HU.out
    have HB := Lib.hid b1
    clear b1
    go_wp2
    go_ret2
    exact ⟨s, rfl, by rw [HSELF.out]; exact H.out.below HB.out, grown_ofBelowP HB.out, by rw [List.take_zero, List.append_nil], rfl, rfl⟩
  have hr0' : ¬ (s.readers : Int) = 0 := by omega
  by_cases hc0 : s.count = 64
  · have hK : wrK s bn = (0, 15) := by unfold wrK; rw [if_neg h0, if_neg hr0, if_pos hc0]
    rw [hK]
    have hc0' : (64 : Int) - (s.count : Int) = 0 := by omega
    have HRM := Lib.hid (fun (W : World) (hW : Below w.heap.size w W) => room_is (H.out.below hW) HU.out)
    rw [hc0'] at HRM
    clear h hu hk hn hb hne hl hK h0 hr0
    go_enter Try.func19, Try.ntmps19
    go_wp2_with fail
    refine HF.out.mono ?_
    rintro e w1 ⟨rfl, b1⟩
    obtain ⟨r0, r1, r2, r3⟩ := pipes_row (H.out.below b1) HU.out
    have HB := Lib.hid b1
    clear b1
    go_wp2_with fail
    refine (HRM.out w1 HB.out).mono ?_
    rintro e w2 ⟨rfl, rfl⟩
    go_wp2
    go_ret2
    exact ⟨s, rfl, by rw [HSELF.out]; exact H.out.below HB.out, grown_ofBelowP HB.out, by rw [List.take_zero, List.append_nil], rfl, rfl⟩
  obtain ⟨k, hkk⟩ : ∃ k, min bn (64 - s.count) = k := ⟨_, rfl⟩
  have hK : wrK s bn = (k, 0) := by unfold wrK; rw [if_neg h0, if_neg hr0, if_neg hc0, hkk]
  rw [hK]
  obtain ⟨b, off, rfl, hbl, hcell⟩ := hb.cellP (j := 0) (by omega)
  have hbgs : b ≠ gs := hne (by intro e; rw [e] at hl; simp at hl; omega) _ rfl
  have hmin : min (bn : Int) (64 - (s.count : Int)) = (k : Int) := by omega
  have hk0 : (0 : Int) ≤ (k : Int) := by omega
  have hkn : k ≤ bn := by omega
  have hkn' : (k : Int) ≤ (bn : Int) := by omega
  have hkc' : (k : Int) ≤ (bc : Int) := by omega
  have hk64 : s.count + k ≤ 64 := by omega
  have hrm : ¬ (64 : Int) - (s.count : Int) = 0 := by omega
  have HRM := Lib.hid (fun (W : World) (hW : Below w.heap.size w W) => room_is (H.out.below hW) HU.out)
  have HBY := Lib.hid hb.2.1
  have HL := Lib.hid hl
  have HC := Lib.hid (And.intro hbl (And.intro hcell hbgs))
  have HI := Lib.hid (List.getElem?_eq_some_iff.1 hu).1
  clear h hu hk hn hb hne hl hK h0 hr0 hc0 hkk hcell hbl hbgs k1 k2 k3 k4 k5 k6
  go_enter Try.func19, Try.ntmps19
  go_wp2_with fail
  refine HF.out.mono ?_
  rintro e w1 ⟨rfl, b1⟩
  obtain ⟨r0, r1, r2, r3⟩ := pipes_row (H.out.below b1) HU.out
  have HB := Lib.hid b1
  clear b1 r0 r1 r3
  go_wp2_with fail
  refine (HRM.out w1 HB.out).mono ?_
  rintro e w2 ⟨rfl, rfl⟩
  go_wp2_with fail
  refine (HRM.out w1 HB.out).mono ?_
  rintro e w2 ⟨rfl, rfl⟩
  clear r2 hrm
  go_wp2_with fail
  try rw [hmin]
  go_wp2_with fail
  go_loopw [12, 48] (fun _ v wr => ∃ (j : Nat) (sj : PipeD), v = .int .i64 (j : Int) ∧ j ≤ k ∧ Hid (IsPipes B wr g gs (fl.set i sj)) ∧ Hid (w.grownBy wr (some gs)) ∧ Hid (content sj = content s ++ l.take j ∧ sj.readers = s.readers ∧ sj.writers = s.writers)) (fun _ v _ => k - (intOf v).toNat)
  case atStart => exact ⟨0, s, rfl, Nat.zero_le _, Lib.hid (by rw [HSELF.out]; exact H.out.below HB.out), Lib.hid (grown_ofBelowP HB.out), Lib.hid ⟨by rw [List.take_zero, List.append_nil], rfl, rfl⟩⟩
  case round =>
    obtain ⟨j, sj, rfl, hj, HP, HG, HT⟩ := hrel
    by_cases hlt : j < k
    · have hsj : sj.count = s.count + j := by
        have := congrArg List.length HT.out.1
        rw [content_length, List.length_append, content_length, List.length_take, HL.out] at this
        omega
      have hcl : wr.cell? ⟨b, off + j, none⟩ = some (.int .u8 ((l.getD j 0 : Nat) : Int)) := (World.cell?_of_block (w := w) (a := ⟨b, off + j, none⟩) (HG.out.block b HC.out.1 (fun e => HC.out.2.2 (Option.some.inj e)))).trans (HC.out.2.1 j (by omega))
      obtain ⟨c, hc⟩ : ∃ c, l.getD j 0 = c := ⟨_, rfl⟩
      have hljs : l[j]? = some c := by
        rw [← hc, List.getD_eq_getElem?_getD, List.getElem?_eq_getElem (by rw [HL.out]; omega)]; rfl
      have hc256 : c < 256 := HBY.out c (List.mem_of_getElem? hljs)
      rw [hc] at hcl
      have huj : (fl.set i sj)[i]? = some sj := List.getElem?_set_self HI.out
      have hokj := pipes_lts HP.out huj
      have HPUT := Lib.hid (ringput_is HP.out huj (by omega) c hc256)
      have HNEXT : Hid (content (putP sj c) = content s ++ l.take (j + 1) ∧ (putP sj c).readers = s.readers ∧ (putP sj c).writers = s.writers) := Lib.hid ⟨by rw [content_put hokj (by omega), HT.out.1, List.take_add_one, hljs, List.append_assoc]; rfl, HT.out.2.1, HT.out.2.2⟩
      have hj0 : (0 : Int) ≤ (j : Int) := by omega
      have hj1 : (j : Int) < (k : Int) := by omega
      have HLT := Lib.hid hlt
      clear hsj hc hljs hc256 huj hokj hlt
      go_wp2_with fail
      refine HPUT.out.mono ?_
      rintro e w3 ⟨rfl, hp3, hg3⟩
      rw [List.set_set] at hp3
      have HP3 := Lib.hid hp3
      have HG3 := Lib.hid (grown_transP HG.out hg3)
      clear hp3 hg3 hcl
      go_wp2
      have h1 := HLT.out
      go_roundw
      case rel => exact ⟨j + 1, putP sj c, by go_num, HLT.out, HP3, HG3, HNEXT⟩
      case measure => simp [intOf]; omega
    · have hjk : j = k := by omega
      subst hjk
      have hj1 : ¬ (j : Int) < (j : Int) := by omega
      clear hlt
      go_wp2
      go_ret2
      first | exact ⟨sj, rfl, HP.out, HG.out, HT.out.1, HT.out.2.1, HT.out.2.2⟩ | exact ⟨rfl, sj, HP.out, HG.out, HT.out.1, HT.out.2.1, HT.out.2.2⟩
/-- How many bytes come out, and the error. -/
def rdK (s : PipeD) (n : Int) : Nat × Int := if n < 0 then (0, 1) else if 0 < n ∧ s.count = 0 ∧ 0 < s.writers then (0, 15) else ((min n (s.count : Int)).toNat, 0)
def ReadPost (B : Nat) (w : World) (g gs : Nat) (fl : List PipeD) (i : Nat) (s : PipeD) (n : Int) (e : Ending) (w' : World) : Prop :=
  ∃ s' v, e = .returned (.tuple #[v, .int .i64 (rdK s n).2]) ∧ Owns w.heap.size w' v ((content s).take (rdK s n).1) ∧ IsPipes B w' g gs (fl.set i s') ∧ w.grownBy w' (some gs) ∧ content s' = (content s).drop (rdK s n).1 ∧ s'.readers = s.readers ∧ s'.writers = s.writers
theorem IsPipes.keptP {B : Nat} {w w' : World} {g gs : Nat} {fl : List PipeD} {row : Option Nat} (h : IsPipes B w g gs fl) (hg : w.grownBy w' row) (h1 : row ≠ some g) (h2 : row ≠ some gs) : IsPipes B w' g gs fl :=
  ⟨(hg.block g (pipes_lt h).1 (fun e => h1 e.symm)).trans h.1, h.2.1.kept hg (.inr (fun e => h2 e.symm)), h.2.2⟩
theorem grown_newP {w w2 w3 : World} {row r2 : Option Nat} (h : w.grownBy w2 row) (k : w2.grownBy w3 r2) (hb : ∀ b, r2 = some b → w.heap.size ≤ b) : w.grownBy w3 row :=
  ⟨k.os.trans h.os, k.tape.trans h.tape, k.output.trans h.output, Nat.le_trans h.size k.size, fun j hj hne => (k.block j (Nat.lt_of_lt_of_le hj h.size) (fun e => by have := hb j e.symm; omega)).trans (h.block j hj hne)⟩
theorem Owns.keptP {B : Nat} {w w' : World} {v : Value} {l : List Nat} {row : Option Nat} (h : Owns B w v l) (hg : w.grownBy w' row) (hne : v.ownBlock = none ∨ v.ownBlock ≠ row) : Owns B w' v l := ⟨h.1, h.2.kept hg hne⟩
set_option maxHeartbeats 1600000 in
theorem pread_is {B : Nat} {w : World} {g gs : Nat} {fl : List PipeD} (h : IsPipes B w g gs fl) (n : Int) (i : Nat) (hn : n = (i : Int) + 1) (s : PipeD) (hu : fl[i]? = some s) (hk : thereB s = true) (m : Int) (hm0 : 0 ≤ m) :
    Calls Try.prog 20 #[.pointer (some ⟨g, 0, none⟩), .int .i64 n, .int .i64 m] w (ReadPost B w g gs fl i s m) := by
  have HF := Lib.hid (pfind_yes h n i hn s hu hk)
  have hok := pipes_lts h hu
  obtain ⟨k1, k2, k3, k4, k5, k6⟩ := hok
  have H := Lib.hid h
  have HU := Lib.hid hu
  have HSELF := Lib.hid (pipes_setself hu)
  have hgsl := (pipes_lt h).2.1
  unfold ReadPost
  have hm1 : ¬ m < 0 := by omega
  by_cases h0 : 0 < m ∧ s.count = 0 ∧ 0 < s.writers
  · have hK : rdK s m = (0, 15) := by unfold rdK; rw [if_neg hm1, if_pos h0]
    rw [hK]
    obtain ⟨h1, h2, h3⟩ := h0
    have h2' : (s.count : Int) = 0 := by omega
    have h3' : (0 : Int) < (s.writers : Int) := by omega
    clear h hu hk hn hK h2 h3
    go_enter Try.func20, Try.ntmps20
    go_wp2_with fail
    refine HF.out.mono ?_
    rintro e w1 ⟨rfl, b1⟩
    obtain ⟨r0, r1, r2, r3⟩ := pipes_row (H.out.below b1) HU.out
    have HB := Lib.hid b1
    clear b1
    go_wp2
    go_ret2
    exact ⟨s, _, rfl, owns_nil _ _, by rw [HSELF.out]; exact H.out.below HB.out, grown_ofBelowP HB.out, rfl, rfl, rfl⟩
  obtain ⟨k, hkk⟩ := Int.eq_ofNat_of_zero_le (show 0 ≤ min m (s.count : Int) by omega)
  have hK : rdK s m = (k, 0) := by unfold rdK; rw [if_neg hm1, if_neg h0, hkk]; rfl
  rw [hK]
  have hks : k ≤ s.count := by omega
  have hk64 : k ≤ 64 := by omega
  have HI := Lib.hid (List.getElem?_eq_some_iff.1 hu).1
  have H0 := Lib.hid h0
  have HKS := Lib.hid hks
  have HW := Lib.hid hgsl
  have HGL := Lib.hid (pipes_lt H.out).1
  have HBY := Lib.hid (content_bytes (pipes_lts h hu))
  obtain ⟨cn, hcn⟩ : ∃ cn : Int, (s.count : Int) = cn := ⟨_, rfl⟩
  obtain ⟨wn, hwn⟩ : ∃ wn : Int, (s.writers : Int) = wn := ⟨_, rfl⟩
  have hgrd : ¬ 0 < m ∨ ¬ cn = 0 ∨ ¬ 0 < wn := by
    by_cases a1 : 0 < m
    · by_cases a2 : s.count = 0
      · exact .inr (.inr (by intro a3; exact h0 ⟨a1, a2, by omega⟩))
      · exact .inr (.inl (by omega))
    · exact .inl a1
  rw [hcn] at hkk
  have HR := Lib.hid (fun (W : World) (hW : Below w.heap.size w W) => pipes_row (H.out.below hW) HU.out)
  rw [hcn, hwn] at HR
  clear h hu hk hn hK h0 hks hgsl k1 k2 k3 k4 k5 k6 hcn hwn
  have main : Calls Try.prog 20 #[.pointer (some ⟨g, 0, none⟩), .int .i64 n, .int .i64 m] w (fun e w' => ∃ s' v, e = .returned (.tuple #[v, .int .i64 0]) ∧ Owns w.heap.size w' v ((content s).take k) ∧ IsPipes B w' g gs (fl.set i s') ∧ w.grownBy w' (some gs) ∧ content s' = (content s).drop k ∧ s'.readers = s.readers ∧ s'.writers = s.writers) := by
    go_enter Try.func20, Try.ntmps20
    go_wp2_with fail
    refine HF.out.mono ?_
    rintro e w1 ⟨rfl, b1⟩
    obtain ⟨r0, r1, r2, r3⟩ := HR.out w1 b1
    have HB := Lib.hid b1
    clear b1 r0 r2
    go_upto_region 6 with fail
    go_cut [38] (fun v wc => v = .bool false ∧ Hid (wc = w1))
    case first =>
      by_cases a1 : 0 < m <;> by_cases a2 : cn = 0 <;> by_cases a3 : 0 < wn
      all_goals first | (exfalso; omega) | skip
      all_goals clear hgrd
      all_goals go_wp2_with fail
      all_goals go_meet
      all_goals exact ⟨rfl, Lib.hid rfl⟩
    case rest =>
      obtain ⟨rfl, hw⟩ := hcut
      obtain rfl := hw.out
      clear hgrd hw
      go_wp2_with fail
      try rw [hkk]
      go_wp2_with fail
      go_loopw [10, 46] (fun v x wr => ∃ (j : Nat) (sj : PipeD), x = .int .i64 (j : Int) ∧ j ≤ k ∧ Hid (Owns w.heap.size wr v ((content s).take j)) ∧ Hid (IsPipes B wr g gs (fl.set i sj)) ∧ Hid (w.grownBy wr (some gs)) ∧ Hid (content sj = (content s).drop j ∧ sj.readers = s.readers ∧ sj.writers = s.writers)) (fun _ v _ => k - (intOf v).toNat)
      case atStart => exact ⟨0, s, rfl, Nat.zero_le _, Lib.hid (owns_nil _ _), Lib.hid (by rw [HSELF.out]; exact H.out.below HB.out), Lib.hid (grown_ofBelowP HB.out), Lib.hid ⟨rfl, rfl, rfl⟩⟩
      case round =>
        obtain ⟨j, sj, rfl, hj, HO, HP, HG, HT⟩ := hrel
        by_cases hlt : j < k
        · have hsj : sj.count = s.count - j := by
            have := congrArg List.length HT.out.1
            rw [content_length, List.length_drop, content_length] at this
            exact this
          have hks := HKS.out
          have hsj0 : 0 < sj.count := by omega
          have huj : (fl.set i sj)[i]? = some sj := List.getElem?_set_self HI.out
          have hokj := pipes_lts HP.out huj
          have hct := content_take hokj hsj0
          have HTK := Lib.hid (ringtake_is HP.out huj hsj0)
          obtain ⟨c, hc⟩ : ∃ c, sj.bs.getD sj.first 0 = c := ⟨_, rfl⟩
          rw [hc] at hct HTK
          rw [HT.out.1] at hct
          have hlj : (content s)[j]? = some c := by
            have := congrArg List.head? hct
            rwa [List.head?_drop] at this
          have HNEXT : Hid (content (takeP sj) = (content s).drop (j + 1) ∧ (takeP sj).readers = s.readers ∧ (takeP sj).writers = s.writers) := Lib.hid ⟨by
            have := congrArg List.tail hct
            rw [List.tail_drop] at this
            exact this.symm, HT.out.2.1, HT.out.2.2⟩
          have HTA : Hid ((content s).take (j + 1) = (content s).take j ++ [c]) := Lib.hid (by rw [List.take_add_one, hlj]; rfl)
          have HC256 := Lib.hid (HBY.out c (List.mem_of_getElem? hlj))
          have HLEN : Hid (((content s).take j).length ≤ 64) := Lib.hid (by rw [List.length_take]; omega)
          have hj1 : (j : Int) < (k : Int) := by omega
          have HLT := Lib.hid hlt
          have hwsz := HG.out.size
          have HNGS : Hid (u10.ownBlock = none ∨ u10.ownBlock ≠ some gs) := Lib.hid (by
            right
            intro e
            have := HO.out.lt gs e
            have := HW.out
            omega)
          clear hsj hks hsj0 huj hokj hct hc hlj hlt
          go_wp2_with fail
          refine HTK.out.mono ?_
          rintro e w3 ⟨rfl, hp3, hg3⟩
          rw [List.set_set] at hp3
          have HP3 := Lib.hid hp3
          have HG3 := Lib.hid (grown_transP HG.out hg3)
          have HO3 := Lib.hid (HO.out.keptP hg3 HNGS.out)
          have hsz3 := HG3.out.size
          clear hp3 hg3
          go_wp2_with (at_builtin; refine wpList_append_bytes rfl _ _ rfl w.heap.size _ _ rfl (HO3.out.alloc _) _ _ _ rfl [c] (reads_one _ c HC256.out) (by have := HLEN.out; omega) (by simp; omega) ?_; intro v' w4 ho4 hg4)
          have h1 := HLT.out
          have HB4 := Lib.hid (below_box w3 (.cells #[byteV c] 5))
          have HP4 : Hid (IsPipes B w4 g gs (fl.set i (takeP sj))) := Lib.hid ((HP3.out.below HB4.out).keptP hg4 (fun e => by have := HO.out.lt g e; have := HGL.out; omega) (fun e => by have := HO.out.lt gs e; have := HW.out; omega))
          go_roundw
          case rel => exact ⟨j + 1, takeP sj, by go_num, HLT.out, Lib.hid (by rw [HTA.out]; exact ho4), HP4, Lib.hid (grown_newP (grown_transP HG3.out (grown_ofBelowP HB4.out)) hg4 (fun b e => HO.out.lt b e)), HNEXT⟩
          case measure => simp [intOf]; omega
        · have hjk : j = k := by omega
          subst hjk
          have hj1 : ¬ (j : Int) < (j : Int) := by omega
          clear hlt
          go_wp2
          go_ret2
          first | exact ⟨sj, _, rfl, HO.out, HP.out, HG.out, HT.out.1, HT.out.2.1, HT.out.2.2⟩ | (trace_state; fail)
  exact main
end Go.Proofs.Ythainmbapikjiaa
