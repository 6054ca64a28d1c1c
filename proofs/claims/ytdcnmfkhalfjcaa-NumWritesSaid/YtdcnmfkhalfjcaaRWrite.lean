/- The document's own answer on parts, by its walk. -/
import Derived.Test.YtdcnmfkhalfjcaaRun
namespace Go.Proofs.Ytdcnmfkhalfjcaa
open Go.RowKit
set_option linter.unusedVariables false

theorem stepP_failed (st : List Nat × Bool) (p : PartD) (h : st.2 = true) : (stepP st p).2 = true := by
  unfold stepP
  split
  · exact wBytes_failed _ _ _ h
  · exact wNum_failed _ _ _ h
theorem foldP_failed (ps : List PartD) : ∀ st : List Nat × Bool, st.2 = true → (ps.foldl stepP st).2 = true := by
  induction ps with
  | nil => intro st h; exact h
  | cons p ps ih => intro st h; exact ih _ (stepP_failed st p h)
theorem runL_failed {ps : List PartD} (k : Nat) (h : (runL (ps.take k)).2 = true) : (runL ps).2 = true := by
  have e : runL ps = (ps.drop k).foldl stepP (runL (ps.take k)) := by
    unfold runL
    rw [← List.foldl_append, List.take_append_drop]
  rw [e]
  exact foldP_failed _ _ h
theorem runL_ok {ps : List PartD} (k : Nat) (h : (runL ps).2 = false) : (runL (ps.take k)).2 = false := by
  cases h' : (runL (ps.take k)).2 with
  | false => rfl
  | true => rw [runL_failed k h'] at h; cases h

/-- The bytes of a part that has room. -/
def piece (p : PartD) : List Nat := if p.raw then p.b ++ List.replicate (p.q.toNat - p.b.length) 0 else low p.n p.q.toNat
/-- Has it room behind so many? -/
def fitsP (at_ : Nat) (p : PartD) : Prop := p.q ≤ 128 - (at_ : Int) ∧ (if p.raw then (p.b.length : Int) ≤ p.q else hasB p.q p.n = true)
theorem stepP_yes {L : List Nat} {p : PartD} (h : fitsP L.length p) : stepP (L, false) p = (L ++ piece p, false) := by
  obtain ⟨h1, h2⟩ := h
  unfold stepP piece
  split
  · rename_i hr
    rw [if_pos hr] at h2
    unfold wBytes
    rw [if_neg (by simp), if_pos ⟨h2, h1⟩, List.append_assoc]
  · rename_i hr
    rw [if_neg hr] at h2
    have h3 := of_decide_eq_true h2
    unfold wNum
    rw [if_neg (by simp), if_pos (by simp only [h2, Bool.and_true]; exact roomB_mk ⟨h3.1, h3.2.1, by omega, by show (L.length : Int) + p.q ≤ (128 : Nat); omega⟩)]
theorem stepP_no {L : List Nat} {p : PartD} (h : ¬ fitsP L.length p) : stepP (L, false) p = (L, true) := by
  unfold fitsP at h
  unfold stepP
  split
  · rename_i hr
    rw [if_pos hr] at h
    unfold wBytes
    rw [if_neg (by simp), if_neg (fun h' => h ⟨h'.2, h'.1⟩)]
  · rename_i hr
    rw [if_neg hr] at h
    unfold wNum
    rw [if_neg (by simp), if_neg]
    intro h'
    simp only [Bool.and_eq_true] at h'
    have h3 := roomB_yes h'.1
    exact h ⟨by have := h3.2.2.2; simp at this; omega, h'.2⟩
theorem piece_length {at_ : Nat} {p : PartD} (h : fitsP at_ p) : ((piece p).length : Int) = p.q := by
  obtain ⟨h1, h2⟩ := h
  unfold piece
  split
  · rename_i hr
    rw [if_pos hr] at h2
    simp
    omega
  · rename_i hr
    rw [if_neg hr] at h2
    have h3 := of_decide_eq_true h2
    rw [low_length]
    omega

theorem stepP_prefix (st : List Nat × Bool) (p : PartD) : ∃ R, (stepP st p).1 = st.1 ++ R := by
  unfold stepP wBytes wNum
  split
  · split
    · exact ⟨[], by simp⟩
    · split
      · exact ⟨_, List.append_assoc _ _ _⟩
      · exact ⟨[], by simp⟩
  · split
    · exact ⟨[], by simp⟩
    · split
      · exact ⟨_, rfl⟩
      · exact ⟨[], by simp⟩
theorem foldP_prefix (ps : List PartD) : ∀ st : List Nat × Bool, ∃ R, (ps.foldl stepP st).1 = st.1 ++ R := by
  induction ps with
  | nil => intro st; exact ⟨[], by simp⟩
  | cons p ps ih =>
    intro st
    obtain ⟨R, h⟩ := ih (stepP st p)
    obtain ⟨R', h'⟩ := stepP_prefix st p
    exact ⟨R' ++ R, by rw [List.foldl_cons, h, h', List.append_assoc]⟩
theorem runL_prefix (ps : List PartD) (k : Nat) : ∃ R, (runL ps).1 = (runL (ps.take k)).1 ++ R := by
  have e : runL ps = (ps.drop k).foldl stepP (runL (ps.take k)) := by
    unfold runL
    rw [← List.foldl_append, List.take_append_drop]
  rw [e]
  exact foldP_prefix _ _
theorem stepP_len (st : List Nat × Bool) (p : PartD) (h : st.1.length ≤ 128) : (stepP st p).1.length ≤ 128 := by
  obtain ⟨L, f⟩ := st
  cases f with
  | true =>
    unfold stepP wBytes wNum
    split <;> simpa using h
  | false =>
    by_cases hf : fitsP L.length p
    · rw [stepP_yes hf, List.length_append]
      have := piece_length hf
      have := hf.1
      omega
    · rw [stepP_no hf]; exact h
theorem foldP_len (ps : List PartD) : ∀ st : List Nat × Bool, st.1.length ≤ 128 → (ps.foldl stepP st).1.length ≤ 128 := by
  induction ps with
  | nil => intro st h; exact h
  | cons p ps ih => intro st h; exact ih _ (stepP_len st p h)
theorem runL_len (ps : List PartD) : (runL ps).1.length ≤ 128 := foldP_len ps _ (by simp)

/-- What the reader finds of one part of a sector of parts. -/
theorem part_read {ps : List PartD} {L : List Nat} (h : runL ps = (L, false)) {k : Nat} {p : PartD} (hp : ps[k]? = some p) :
    fitsP (runL (ps.take k)).1.length p ∧ (runL (ps.take (k + 1))).1.length = (runL (ps.take k)).1.length + (piece p).length ∧ ((pad L).drop (runL (ps.take k)).1.length).take (piece p).length = piece p := by
  have h0 : (runL ps).2 = false := by rw [h]
  have h1 := runL_ok k h0
  have h2 := runL_ok (k + 1) h0
  obtain ⟨⟨Lk, f⟩, hk⟩ : ∃ st, runL (ps.take k) = st := ⟨_, rfl⟩
  rw [hk] at h1
  obtain rfl : f = false := h1
  have hs := runL_step hp
  rw [hk] at hs
  have hfit : fitsP Lk.length p := by
    by_cases hf : fitsP Lk.length p
    · exact hf
    · rw [← hs, stepP_no hf] at h2
      cases h2
  rw [stepP_yes hfit] at hs
  obtain ⟨R, hR⟩ := runL_prefix ps (k + 1)
  rw [h, ← hs] at hR
  rw [hk]
  refine ⟨hfit, by rw [← hs]; simp, ?_⟩
  rw [show L = Lk ++ piece p ++ R from hR]
  unfold pad
  simp

theorem own_apart {B : Nat} {w : World} {v : Value} {l : List Nat} {g : Nat} {C : Array Value} {fr : Nat × Nat} (h : Owns B w v l) (hg : w.heap[g]? = some (.cells C 50 fr)) : v.ownBlock ≠ some g := by
  obtain ⟨_, _, h⟩ := h
  rcases h with ⟨rfl, _⟩ | ⟨g', cap, cur, rfl, _, hg', _⟩
  · intro h; cases h
  · intro h
    obtain rfl : g' = g := by simpa [Value.ownBlock] using h
    rw [hg] at hg'
    simp at hg'

def WritePost (ps : List PartD) (w : World) (e : Ending) (w' : World) : Prop :=
  Below w.heap.size w w' ∧ (((runL ps).2 = false ∧ ∃ a cap, e = .returned (.tuple #[.slice a (runL ps).1.length cap, .bool true]) ∧ Reads w' a (runL ps).1.length (runL ps).1) ∨ ((runL ps).2 = true ∧ e = .returned (.tuple #[.slice none 0 0, .bool false])))

theorem box_facts {w : World} {g : Nat} {v0 v1 v2 v3 : Value} {t : TypeId} (h : w.heap[g]? = some (.cells #[v0, v1, v2, v3] t (0, 0))) : w.cell? ⟨g, 0, none⟩ = some v0 ∧ w.cell? ⟨g, 1, none⟩ = some v1 ∧ w.cell? ⟨g, 2, none⟩ = some v2 ∧ w.cell? ⟨g, 3, none⟩ = some v3 := by
  refine ⟨?_, ?_, ?_, ?_⟩ <;> (rw [cell_of_row _ _ _ _ _ _ h]; rfl)

theorem runL_no {ps : List PartD} {k : Nat} {p : PartD} {L : List Nat} (h : Hid (stepP (L, false) p = runL (ps.take (k + 1)))) (hn : ¬ fitsP L.length p) : (runL ps).2 = true :=
  runL_failed (k + 1) (by rw [← h.out, stepP_no hn])

set_option maxHeartbeats 1600000 in
set_option maxRecDepth 100000 in
theorem rwrite_any (a : Option Addr) (len cap : Nat) (ps : List PartD) (w : World) (hr : Parts w a len ps) (hl : len ≤ cap) (hc : cap ≤ maxLen) (hps : ∀ p ∈ ps, p.len ≤ 200) :
    Calls Try.prog 22 #[.slice a len cap] w fun e w' => WritePost ps w e w' := by
  unfold maxLen at hc
  have hlen := Lib.hid hr.1
  go_enter Try.func22, Try.ntmps22
  go_wp2
  go_loopw [4, 5, 6, 7] (fun v i _ _ wr => ∃ k : Nat, k ≤ len ∧ i = .int .i64 k ∧ ∃ L, L.length ≤ 128 ∧ Hid (runL (ps.take k) = (L, false)) ∧ Owns w.heap.size wr v L ∧ Below w.heap.size w wr) (fun _ i _ _ _ => len - (intOf i).toNat)
  case atStart => exact ⟨0, by omega, rfl, [], by simp, rfl, owns_nil _ _, Below.refl _ _⟩
  case round =>
    obtain ⟨k, hk, rfl, L, hL, HR, ho, hb⟩ := hrel
    have hbs := hb.size
    by_cases hlt : k < len
    · obtain ⟨p, b, off, hpk, rfl, hbl, hpa⟩ := hr.at hlt
      obtain ⟨hpo, c0, c1, c2, c3⟩ := hpa.below hbl hb
      have hp200 := hps p (List.mem_of_getElem? hpk)
      have HS : Hid (stepP (L, false) p = runL (ps.take (k + 1))) := by show _ = _; rw [← HR.out]; exact runL_step hpk
      clear hpa hpk HR
      obtain ⟨q, n, r, pa, pl, pc, pb⟩ := p
      obtain ⟨hq, hn, hrd, hplc, hpc⟩ := hpo
      obtain ⟨q1, q2⟩ := hq
      replace hpc : pc ≤ 2 ^ 63 - 1 := hpc
      replace hplc : pl ≤ pc := hplc
      replace hp200 : pl ≤ 200 := hp200
      replace q1 : -9223372036854775808 ≤ q := q1
      replace q2 : q ≤ 9223372036854775807 := q2
      replace hrd : Reads wr pa pl pb := hrd
      have hpbl := Lib.hid hrd.1
      have hoa := ho.alloc (.cells #[.int .i64 q, .int .u64 n, .bool r, .slice pa pl pc] 50)
      have hba := hb.alloc hbs (.cells #[.int .i64 q, .int .u64 n, .bool r, .slice pa pl pc] 50)
      have hrda := hrd.alloc (.cells #[.int .i64 q, .int .u64 n, .bool r, .slice pa pl pc] 50)
      have hga := heap_alloc_new wr (.cells #[.int .i64 q, .int .u64 n, .bool r, .slice pa pl pc] 50)
      have hsa := hba.size
      have hgl : wr.heap.size < (wr.alloc (.cells #[.int .i64 q, .int .u64 n, .bool r, .slice pa pl pc] 50)).heap.size := by simp
      obtain ⟨ao, co, rfl, _, hlc, hcm⟩ := hoa.reads
      unfold maxLen at hcm
      clear ho hb hrd
      by_cases h1 : q ≤ 128 - (L.length : Int)
      · cases r with
        | true =>
          by_cases h2 : (pl : Int) ≤ q
          · obtain ⟨q, rfl⟩ := Int.eq_ofNat_of_zero_le (show 0 ≤ q by omega)
            have hpi : piece ⟨(q : Int), n, true, pa, pl, pc, pb⟩ = pb ++ List.replicate (q - pl) 0 := by
              unfold piece
              simp only [if_true, Int.toNat_natCast]
              rw [hpbl.out]
            have HT : Hid (runL (ps.take (k + 1)) = (L ++ pb ++ List.replicate (q - pl) 0, false)) := by
              show _ = _
              rw [← HS.out, stepP_yes (p := ⟨(q : Int), n, true, pa, pl, pc, pb⟩) ⟨h1, by simp only [if_true]; rw [hpbl.out]; exact h2⟩, hpi, List.append_assoc]
            clear HS hpi
            go_wp2_with (at_builtin; refine wpList_append_bytes rfl _ _ rfl w.heap.size (.slice ao L.length co) L rfl hoa _ _ _ rfl pb hrda (by omega) (by omega) ?_; intro v1 w1 o1 g1; have hg1 := (g1.block _ hgl (Ne.symm (own_apart hoa hga))).trans hga; have hb1 := hba.grown g1 (by omega) (fun j hj => hoa.lt j hj); obtain ⟨d0, d1, d2, d3⟩ := box_facts hg1; clear hoa hrda hga g1 hba)
            go_loopw [4, 7] (fun v j wx => ∃ m : Nat, pl + m ≤ q ∧ j = .int .i64 ((pl + m : Nat) : Int) ∧ Owns w.heap.size wx v (L ++ pb ++ List.replicate m 0) ∧ Below w.heap.size w wx ∧ wx.heap[wr.heap.size]? = some (.cells #[.int .i64 q, .int .u64 n, .bool true, .slice pa pl pc] 50 (0, 0))) (fun _ j _ => q - (intOf j).toNat)
            case atStart => exact ⟨0, by omega, rfl, by simpa using o1, hb1, hg1⟩
            case round =>
              obtain ⟨m, hm, rfl, ho, hb, hg⟩ := hrel
              clear d0 d1 d2 d3 hg1 hb1 o1
              obtain ⟨d0, d1, d2, d3⟩ := box_facts hg
              have hbs2 := hb.size
              have hglx := (Array.getElem?_eq_some_iff.1 hg).1
              have hML : Hid ((L ++ pb ++ List.replicate m 0).length = L.length + pl + m) := by show _ = _; rw [List.length_append, List.length_append, hpbl.out, List.length_replicate]
              have HN : Hid (L ++ pb ++ List.replicate m 0 ++ [0] = L ++ pb ++ List.replicate (m + 1) 0) := by show _ = _; rw [List.replicate_succ', List.append_assoc (L ++ pb)]
              by_cases hlt2 : pl + m < q
              · generalize L ++ pb ++ List.replicate m 0 = M at *
                have ho' := ho.alloc (.cells #[byteV 0] 5)
                have hr1 := reads_one wr 0 (by decide)
                have hg' : (wr.alloc (.cells #[byteV 0] 5)).heap[_]? = _ := (Below.heap_alloc wr _ _ hglx).trans hg
                have hbx := hb.alloc hbs2 (.cells #[byteV 0] 5)
                obtain ⟨a1, c1, rfl, _, hlc1, hcm1⟩ := ho.reads
                have hM128 : M.length ≤ 400 := by rw [hML.out]; omega
                clear ho hb hg
                go_wp2_with (at_builtin; refine wpList_append_bytes rfl _ _ rfl w.heap.size (.slice a1 M.length c1) M rfl ho' _ _ _ rfl _ hr1 (by omega) (by simp; omega) ?_; intro v' w' o2 g2)
                have hg2 := (g2.block _ (by simp; omega) (Ne.symm (own_apart ho' hg'))).trans hg'
                have hb2 := hbx.grown g2 (by simp; omega) (fun j hj => ho'.lt j hj)
                rw [HN.out] at o2
                clear g2 ho' hr1 hg' hbx
                go_roundw
                case rel => exact ⟨m + 1, by omega, by go_num, o2, hb2, hg2⟩
                case measure => simp [intOf]; omega
              · have em : m = q - pl := by omega
                have HL2 : (L ++ pb ++ List.replicate m 0).length ≤ 128 := by rw [hML.out]; omega
                rw [← em] at HT
                have HT2 := HT
                clear em HN hML hg hglx HT
                go_wp2
                go_roundw
                case rel => exact ⟨k + 1, by omega, by go_num, _, HL2, HT2, ho, hb⟩
                case measure => simp [intOf]; omega
          · have hfail := runL_no HS (fun h => h2 (by have := h.2; simp only [if_true] at this; rw [hpbl.out] at this; exact this))
            clear hoa hrda hga HS
            go_wp2
            go_ret2
            exact ⟨hba, .inr ⟨hfail, rfl⟩⟩
        | false =>
          cases hB : hasB q n with
          | false =>
            have hfail := runL_no HS (fun h => by
              have := h.2
              simp only [Bool.false_eq_true, if_false] at this
              rw [hB] at this
              cases this)
            have HB := Lib.hid hB
            clear hoa hrda hga HS hB
            go_wp2_with fail
            refine (has_any q n _ ⟨q1, q2⟩ hn).mono ?_
            rintro e w' ⟨rfl, rfl⟩
            rw [HB.out]
            go_wp2
            go_ret2
            exact ⟨hba, .inr ⟨hfail, rfl⟩⟩
          | true =>
            have h3 := of_decide_eq_true hB
            obtain ⟨h31, h32, h33⟩ := h3
            obtain ⟨q, rfl⟩ := Int.eq_ofNat_of_zero_le (show 0 ≤ q by omega)
            have HT : Hid (runL (ps.take (k + 1)) = (L ++ low n q, false)) := by
              show _ = _
              rw [← HS.out, stepP_yes (p := ⟨(q : Int), n, false, pa, pl, pc, pb⟩) ⟨h1, by simp only [Bool.false_eq_true, if_false]; exact hB⟩]
              rfl
            have HB := Lib.hid hB
            clear HS hB h33 hrda hga
            go_wp2_with fail
            refine (has_any q n _ ⟨q1, q2⟩ hn).mono ?_
            rintro e w' ⟨rfl, rfl⟩
            rw [HB.out]
            go_wp2_with fail
            refine (low_any n q _ (by omega) hn).mono ?_
            rintro e w3 ⟨v3, rfl, ho3, hb3⟩
            obtain ⟨a3, c3', rfl, hrd3, _, _⟩ := ho3.reads
            have ho4 := hoa.below (hb3.mono (Nat.le_refl _))
            have hb4 := hba.trans (hb3.mono hsa)
            have hs4 := hb4.size
            have HL2 : (L ++ low n q).length ≤ 128 := by rw [List.length_append, low_length]; omega
            rw [low_length] at hrd3 ⊢
            clear ho3 hb3 hoa hba
            go_wp2_with (at_builtin; refine wpList_append_bytes rfl _ _ rfl w.heap.size (.slice ao L.length co) L rfl ho4 _ _ _ rfl (low n q) hrd3 (by omega) (by omega) ?_; intro v5 w5 o5 g5)
            have hb5 := hb4.grown g5 (by omega) (fun j hj => ho4.lt j hj)
            clear ho4 hrd3 g5
            go_roundw
            case rel => exact ⟨k + 1, by omega, by go_num, _, HL2, HT, o5, hb5⟩
            case measure => simp [intOf]; omega
      · have hfail := runL_no HS (fun h => h1 h.1)
        clear hoa hrda hga HS
        go_wp2
        go_ret2
        exact ⟨hba, .inr ⟨hfail, rfl⟩⟩
    · have e : ps.take k = ps := List.take_of_length_le (by rw [hlen.out]; omega)
      rw [e] at HR
      clear e
      obtain ⟨ao, co, rfl, hrd, hlc, hcm⟩ := ho.reads
      go_wp2
      go_ret2
      exact ⟨hb, .inl ⟨by rw [HR.out], ao, co, by rw [HR.out]; rfl, by rw [HR.out]; exact hrd⟩⟩
end Go.Proofs.Ytdcnmfkhalfjcaa
