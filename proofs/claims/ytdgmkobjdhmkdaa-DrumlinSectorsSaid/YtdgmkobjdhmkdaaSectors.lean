/- The law DrumlinSectors is true for every input: numbers and bytes that were sealed in a sector come out of it again, part by part. No condition. -/
import Derived.Test.YtdgmkobjdhmkdaaParts2
import Derived.Test.YtdgmkobjdhmkdaaZeros
import Derived.Deep.RegionHeld3
import Derived.Deep.DeepCutAuto
import Derived.Deep.CutBlock
namespace Go.Proofs.Ytdgmkobjdhmkdaa
open Go.ChangeShapes Go.WideShapes Go.ChangeAt Go.RowKit
set_option linter.unusedVariables false
set_option maxRecDepth 100000

theorem OwnsP.only {B g : Nat} {w w' : World} {v : Value} {ps : List PartD} (h : OwnsP B w v ps) (o : Only g w w') (hg : g < B) : OwnsP B w' v ps := by
  obtain ⟨h1, h2⟩ := h
  refine ⟨h1, ?_⟩
  rcases h2 with h2 | ⟨g', cap, cur, rfl, hb, hgg, rest⟩
  · exact .inl h2
  · exact .inr ⟨g', cap, cur, rfl, hb, by rw [o.block g' (by omega)]; exact hgg, rest⟩
theorem IsWriter.grown {g : Nat} {w w' : World} {l : List Nat} {f : Bool} {row : Option Nat} (h : IsWriter w g l f) (hg : w.grownBy w' row) (hne : some g ≠ row) : IsWriter w' g l f :=
  ⟨h.1, h.2.1, by rw [hg.block g (Array.getElem?_eq_some_iff.1 h.2.2).1 hne]; exact h.2.2⟩
theorem OwnsP.far {B : Nat} {w : World} {v : Value} {ps : List PartD} (h : OwnsP B w v ps) {g : Nat} (hg : g < B ∨ w.heap.size ≤ g) : some g ≠ v.ownBlock := fun e => by
  have := World.ownsRow.lt h g e.symm
  omega
theorem runL_snoc {out : List PartD} {L : List Nat} (h : runL out = (L, false)) {p : PartD} (hf : fitsP L.length p) : runL (out ++ [p]) = (L ++ piece p, false) := by
  unfold runL at h ⊢
  rw [List.foldl_append, h]
  exact stepP_yes hf

theorem laid_noughts (L : List Nat) : laid (cells noughts) 0 L = cells (pad L) := by
  have e : noughts.map byteV = List.replicate 128 (byteV 0) := by unfold noughts; rw [List.map_replicate]
  unfold laid cells pad
  rw [e]
  simp only [List.take_zero, List.nil_append, Nat.zero_add, List.drop_replicate, List.map_append, List.map_replicate]

/-- 'append(own, bytes...)' at a step of a region that draws its order. -/
theorem step_append_bytes {w : World} {ops : Array Oper} {o : Oper} {a : Act} {K : Act → World → Prop} {Q : Exit → Act → World → Prop} {E : Prop} (hgd : Region.wanted o (yielded ops a.tmps) = true) (s x : Operand)
    (ho : o.op = .call { callee := .builtin .append, args := #[s, x], argTypes := #[33, 33] })
    (B : Nat) (v : Value) (l : List Nat) (hs : a.eval s = v) (hown : Owns B w v l) (g off m c : Nat) (hx : a.eval x = .slice (some ⟨g, off, none⟩) m c) (news : List Nat) (hr : Reads w (some ⟨g, off, none⟩) m news) (hm0 : 0 < m)
    (hb : l.length + m ≤ 100000) (hB : B ≤ w.heap.size)
    (h : ∀ v' w', Owns B w' v' (l ++ news) → w.grownBy w' v.ownBlock → K (a.put o.dst v') w') :
    if Region.wanted o (yielded ops a.tmps) = true then Oper.wp Try.prog o a w K Q else E := by
  rw [if_pos hgd]
  obtain ⟨hl, hown⟩ := hown
  obtain ⟨hlen, hbs, hr⟩ := hr
  obtain ⟨i0, hi, hz0, hz1, hz2⟩ := info_parts info_u8
  refine wp_append_own w s x 33 ho B 5 i0 (.int .u8 0) 1 1 Try.underlying33 hi hz0 hz1 hz2 rfl (by decide) v l.length (l.map byteV) hs hown ⟨g, off, none⟩ m c (news.map byteV) hx (by simp [hlen])
      ?_ (byteV_oneCell _) (by unfold maxLen; omega) (by omega) hB (fun v' w' h1 h2 _ => h v' w' ⟨hl.append hbs, by rw [List.length_append, hlen, List.map_append]; exact h1⟩ h2)
  intro j u hu
  rcases hr with rfl | ⟨b', off', he, _, hc⟩
  · simp at hu
  · cases he
    simp only [List.getElem?_map, Option.map_eq_some_iff] at hu
    obtain ⟨y, hy, rfl⟩ := hu
    have hj : j < m := by rw [← hlen]; exact (List.getElem?_eq_some_iff.1 hy).1
    rw [add_none, hc j hj]
    simp [List.getD, hy, byteV]

/-- What the first loop keeps. -/
def Kept (w : World) (out : List PartD) (L : List Nat) : Prop := runL out = (L, false) ∧ L.length ≤ 120 ∧ (∀ p ∈ out, PartOk w p)
theorem Kept.nil (w : World) : Kept w [] [] := ⟨rfl, by decide, by intro p hp; simp at hp⟩
theorem Kept.snoc {w : World} {out : List PartD} {L : List Nat} (h : Kept w out L) {p : PartD} (hp : PartOk w p) (h1 : p.q ≤ 120 - (L.length : Int)) (h2 : if p.raw then (p.b.length : Int) ≤ p.q else hasB p.q p.n = true) :
    Kept w (out ++ [p]) (L ++ piece p) ∧ ((L ++ piece p).length : Int) = L.length + p.q ∧ stepP (L, false) p = (L ++ piece p, false) := by
  obtain ⟨k1, k2, k3⟩ := h
  have hf : fitsP L.length p := ⟨by omega, h2⟩
  have hpl := piece_length hf
  refine ⟨⟨runL_snoc k1 hf, by rw [List.length_append]; omega, fun x hx => ?_⟩, by rw [List.length_append]; omega, stepP_yes hf⟩
  rcases List.mem_append.1 hx with hx | hx
  · exact k3 x hx
  · obtain rfl : x = p := by simpa using hx
    exact hp

set_option maxHeartbeats 16000000 in
set_option maxRecDepth 100000 in
theorem sectors_walk (a : Option Addr) (len cap : Nat) (ps : List PartD) (kd : Nat) (hkd : kd < 256) (w : World) (hr : Parts w a len ps) (hl : len ≤ cap) (hc : cap ≤ maxLen) :
    Calls Try.prog 12 #[.slice a len cap, .int .u8 kd] w fun e w' => e = .returned (.bool true) ∧ Below w.heap.size w w' := by
  unfold maxLen at hc
  have hz := zero_sector
  have hzw := zero_writer
  have hw0 := new_writer w
  have hb0 : Below w.heap.size w (w.alloc (.cells (wCells (pad []) 0 false) 95)) := (Below.refl _ _).alloc (Nat.le_refl _) _
  go_enter Try.func12, Try.ntmps12
  go_upto_block 0 with fail
  go_cut [6, 7] (fun v z wr => ∃ out L, Kept w out L ∧ out.length ≤ 30 ∧ z = .int .i64 (L.length : Nat) ∧ OwnsP (w.heap.size + 1) wr v out ∧ IsWriter wr w.heap.size L false ∧ Below w.heap.size w wr)
  case first =>
    go_wp2
    go_loopw [6, 7, 8, 9] (fun v z i _ wr => ∃ k : Nat, k ≤ len ∧ k ≤ 30 ∧ i = .int .i64 k ∧ ∃ out L, Kept w out L ∧ out.length ≤ k ∧ z = .int .i64 (L.length : Nat) ∧ OwnsP (w.heap.size + 1) wr v out ∧ IsWriter wr w.heap.size L false ∧ Below w.heap.size w wr) (fun _ _ i _ _ => 30 - (intOf i).toNat)
    case atStart => exact ⟨0, by omega, by omega, rfl, [], [], Kept.nil w, Nat.le_refl _, rfl, ownsP_nil _ _, hw0, hb0⟩
    case round =>
      obtain ⟨k, hk, hk3, rfl, out, L, hkp, hol, rfl, ho, hw, hb⟩ := hrel
      have hgw := (Array.getElem?_eq_some_iff.1 hw.2.2).1
      have hbs := hb.size
      by_cases hlt : k < len ∧ k < 30
      · obtain ⟨hlt, h30⟩ := hlt
        obtain ⟨p, b, off, hpk, rfl, hbl, hpa⟩ := hr.at hlt
        obtain ⟨hpo, c0, c1, c2, c3⟩ := hpa.below hbl hb
        have hpw := hpa.1
        have hL120 := hkp.2.1
        clear hpa hpk hpo
        obtain ⟨q, n, r, pa, pl, pc, pb⟩ := p
        have hq := hpw.1
        obtain ⟨q1, q2⟩ := hq
        have hn : n < 18446744073709551616 := hpw.2.1
        have hrdw : Reads w pa pl pb := hpw.2.2.1
        have hpc : pc ≤ 2 ^ 63 - 1 := hpw.2.2.2.2
        have hplc : pl ≤ pc := hpw.2.2.2.1
        replace q1 : -9223372036854775808 ≤ q := q1
        replace q2 : q ≤ 9223372036854775807 := q2
        have hpbl := Lib.hid hrdw.1
        have hoa := ho.alloc (.cells #[.int .i64 q, .int .u64 n, .bool r, .slice pa pl pc] 98)
        have hwa := hw.alloc (.cells #[.int .i64 q, .int .u64 n, .bool r, .slice pa pl pc] 98)
        have hba := hb.alloc hbs (.cells #[.int .i64 q, .int .u64 n, .bool r, .slice pa pl pc] 98)
        -- what is the same wherever the part is left out
        cases r with
        | false =>
          cases hB : hasB q n with
          | false =>
            have HB := Lib.hid hB
            clear hB
            go_wp2_with fail
            refine (has_any q n _ ⟨q1, q2⟩ hn).mono ?_
            rintro e w' ⟨rfl, rfl⟩
            rw [HB.out]
            clear c0 c1 c2 c3
            go_wp2
            go_roundw
            case rel => exact ⟨k + 1, by omega, by omega, by go_num, out, L, hkp, by omega, rfl, hoa, hwa, hba⟩
            case measure => simp [intOf]; omega
          | true =>
            have HB := Lib.hid hB
            clear hB
            by_cases h1 : q ≤ 120 - (L.length : Int)
            · have hq0 : 0 ≤ q := by have := of_decide_eq_true HB.out; omega
              have HKEEP := Lib.hid (hkp.snoc (p := ⟨q, n, false, pa, pl, pc, pb⟩) hpw h1 (by simp only [Bool.false_eq_true, if_false]; exact HB.out))
              go_wp2_with fail
              refine (has_any q n _ ⟨q1, q2⟩ hn).mono ?_
              rintro e w' ⟨rfl, rfl⟩
              rw [HB.out]
              have hga := heap_alloc_new wr (.cells #[.int .i64 q, .int .u64 n, .bool false, .slice pa pl pc] 98)
              have ho2 := hoa.alloc (.cells #[.int .i64 q, .int .u64 n, .bool false, .slice pa pl pc] 98)
              have hw2 := hwa.alloc (.cells #[.int .i64 q, .int .u64 n, .bool false, .slice pa pl pc] 98)
              have hb2 := hba.alloc hba.size (.cells #[.int .i64 q, .int .u64 n, .bool false, .slice pa pl pc] 98)
              have hgl : wr.heap.size < (wr.alloc (.cells #[.int .i64 q, .int .u64 n, .bool false, .slice pa pl pc] 98)).heap.size := by simp
              have hg2 := (Below.heap_alloc (wr.alloc (.cells #[.int .i64 q, .int .u64 n, .bool false, .slice pa pl pc] 98)) (.cells #[.int .i64 q, .int .u64 n, .bool false, .slice pa pl pc] 98) _ hgl).trans hga
              have hnew := new_part (wr.alloc (.cells #[.int .i64 q, .int .u64 n, .bool false, .slice pa pl pc] 98)) ⟨q, n, false, pa, pl, pc, pb⟩
              rw [show (wr.alloc (.cells #[.int .i64 q, .int .u64 n, .bool false, .slice pa pl pc] 98)).heap.size = wr.heap.size + 1 by simp] at hnew
              have HN := Lib.hid hnew
              have hs2 := hb2.size
              have hgl2 : wr.heap.size < ((wr.alloc (.cells #[.int .i64 q, .int .u64 n, .bool false, .slice pa pl pc] 98)).alloc (.cells #[.int .i64 q, .int .u64 n, .bool false, .slice pa pl pc] 98)).heap.size := by simp; omega
              have hfar1 := OwnsP.far ho (g := wr.heap.size) (.inr (Nat.le_refl _))
              have hfar2 := OwnsP.far ho (g := w.heap.size) (.inl (Nat.lt_succ_self _))
              have hsB : w.heap.size + 1 ≤ ((wr.alloc (.cells #[.int .i64 q, .int .u64 n, .bool false, .slice pa pl pc] 98)).alloc (.cells #[.int .i64 q, .int .u64 n, .bool false, .slice pa pl pc] 98)).heap.size := by simp; omega
              obtain ⟨M, hM, hkm, hklen, hkst⟩ : ∃ M, L ++ piece ⟨q, n, false, pa, pl, pc, pb⟩ = M ∧ Kept w (out ++ [⟨q, n, false, pa, pl, pc, pb⟩]) M ∧ (M.length : Int) = L.length + q ∧ wNum (L, false) q n = (M, false) := ⟨_, rfl, HKEEP.out.1, HKEEP.out.2.1, HKEEP.out.2.2⟩
              have HKL := Lib.hid hklen
              have HKS := Lib.hid hkst
              clear hM hklen hkst hnew
              clear c0 c1 c2 c3 hoa hwa hba hw hga
              go_wp2_with (at_builtin; refine wpList_append_part rfl _ _ rfl (w.heap.size + 1) u6 out rfl ho2 (wr.heap.size + 1) 1 rfl ⟨q, n, false, pa, pl, pc, pb⟩ HN.out (by omega) hsB ?_; intro v1 w1 o1 g1; have hg1 := (g1.block _ hgl2 hfar1).trans hg2; have hw1 := hw2.grown g1 hfar2; have hb1 := hb2.grown g1 (by omega) (fun j hj => Nat.le_trans (Nat.le_succ _) (OwnsP.lt ho j hj)); obtain ⟨d0, d1, d2, d3⟩ := box_facts hg1; clear ho ho2 hw2 hb2 g1 hg2 hg1 hfar1 hfar2 hgl hgl2 hsB hs2)
              refine (writer_num w.heap.size (L, false) q n w1 hw1 ⟨q1, q2⟩ hn).mono ?_
              rintro e w3 ⟨rfl, hw3, on⟩
              rw [HKS.out] at hw3
              have o3 := o1.only on (Nat.lt_succ_self _)
              have hb3 := hb1.trans (on.below (Nat.le_refl _))
              clear o1 hw1 hb1 on d0 d1 d2 d3
              go_wp2
              go_roundw
              case rel => exact ⟨k + 1, by omega, by omega, by go_num, _, M, hkm, by simp; omega, by rw [HKL.out], o3, hw3, hb3⟩
              case measure => simp [intOf]; omega
            · go_wp2_with fail
              refine (has_any q n _ ⟨q1, q2⟩ hn).mono ?_
              rintro e w' ⟨rfl, rfl⟩
              rw [HB.out]
              clear c0 c1 c2 c3
              go_wp2
              go_roundw
              case rel => exact ⟨k + 1, by omega, by omega, by go_num, out, L, hkp, by omega, rfl, hoa, hwa, hba⟩
              case measure => simp [intOf]; omega
        | true =>
          by_cases h2 : (pl : Int) ≤ q
          · by_cases h3 : q ≤ 100
            · by_cases h1 : q ≤ 120 - (L.length : Int)
              · have hq0 : 0 ≤ q := by omega
                have HKEEP := Lib.hid (hkp.snoc (p := ⟨q, n, true, pa, pl, pc, pb⟩) hpw h1 (by simp only [if_true]; rw [hpbl.out]; exact h2))
                have hga := heap_alloc_new wr (.cells #[.int .i64 q, .int .u64 n, .bool true, .slice pa pl pc] 98)
                have ho2 := hoa.alloc (.cells #[.int .i64 q, .int .u64 n, .bool true, .slice pa pl pc] 98)
                have hw2 := hwa.alloc (.cells #[.int .i64 q, .int .u64 n, .bool true, .slice pa pl pc] 98)
                have hb2 := hba.alloc hba.size (.cells #[.int .i64 q, .int .u64 n, .bool true, .slice pa pl pc] 98)
                have hgl : wr.heap.size < (wr.alloc (.cells #[.int .i64 q, .int .u64 n, .bool true, .slice pa pl pc] 98)).heap.size := by simp
                have hg2 := (Below.heap_alloc (wr.alloc (.cells #[.int .i64 q, .int .u64 n, .bool true, .slice pa pl pc] 98)) (.cells #[.int .i64 q, .int .u64 n, .bool true, .slice pa pl pc] 98) _ hgl).trans hga
                have hnew := new_part (wr.alloc (.cells #[.int .i64 q, .int .u64 n, .bool true, .slice pa pl pc] 98)) ⟨q, n, true, pa, pl, pc, pb⟩
                rw [show (wr.alloc (.cells #[.int .i64 q, .int .u64 n, .bool true, .slice pa pl pc] 98)).heap.size = wr.heap.size + 1 by simp] at hnew
                have HN := Lib.hid hnew
                have hs2 := hb2.size
                have hgl2 : wr.heap.size < ((wr.alloc (.cells #[.int .i64 q, .int .u64 n, .bool true, .slice pa pl pc] 98)).alloc (.cells #[.int .i64 q, .int .u64 n, .bool true, .slice pa pl pc] 98)).heap.size := by simp; omega
                have hfar1 := OwnsP.far ho (g := wr.heap.size) (.inr (Nat.le_refl _))
                have hfar2 := OwnsP.far ho (g := w.heap.size) (.inl (Nat.lt_succ_self _))
                have hsB : w.heap.size + 1 ≤ ((wr.alloc (.cells #[.int .i64 q, .int .u64 n, .bool true, .slice pa pl pc] 98)).alloc (.cells #[.int .i64 q, .int .u64 n, .bool true, .slice pa pl pc] 98)).heap.size := by simp; omega
                obtain ⟨M, hM, hkm, hklen, hkst⟩ : ∃ M, L ++ piece ⟨q, n, true, pa, pl, pc, pb⟩ = M ∧ Kept w (out ++ [⟨q, n, true, pa, pl, pc, pb⟩]) M ∧ (M.length : Int) = L.length + q ∧ wBytes (L, false) q pb = (M, false) := ⟨_, rfl, HKEEP.out.1, HKEEP.out.2.1, HKEEP.out.2.2⟩
                have HKL := Lib.hid hklen
                have HKS := Lib.hid hkst
                clear hM hklen hkst hnew
                clear hoa hwa hba hw hga
                go_wp2_with (at_builtin; refine wpList_append_part rfl _ _ rfl (w.heap.size + 1) u6 out rfl ho2 (wr.heap.size + 1) 1 rfl ⟨q, n, true, pa, pl, pc, pb⟩ HN.out (by omega) hsB ?_; intro v1 w1 o1 g1; have hg1 := (g1.block _ hgl2 hfar1).trans hg2; have hw1 := hw2.grown g1 hfar2; have hb1 := hb2.grown g1 (by omega) (fun j hj => Nat.le_trans (Nat.le_succ _) (OwnsP.lt ho j hj)); obtain ⟨d0, d1, d2, d3⟩ := box_facts hg1; clear c0 c1 c2 c3 ho ho2 hw2 hb2 g1 hg2 hg1 hfar1 hfar2 hgl hgl2 hsB hs2)
                refine (writer_bytes w.heap.size (L, false) pb q pa pl pc w1 hw1 (hrdw.below hb1) ⟨q1, q2⟩ (by unfold maxLen; omega)).mono ?_
                rintro e w3 ⟨rfl, hw3, on⟩
                rw [HKS.out] at hw3
                have o3 := o1.only on (Nat.lt_succ_self _)
                have hb3 := hb1.trans (on.below (Nat.le_refl _))
                clear o1 hw1 hb1 on d0 d1 d2 d3
                go_wp2
                go_roundw
                case rel => exact ⟨k + 1, by omega, by omega, by go_num, _, M, hkm, by simp; omega, by rw [HKL.out], o3, hw3, hb3⟩
                case measure => simp [intOf]; omega
              · go_wp2
                clear c0 c1 c2 c3
                go_roundw
                case rel => exact ⟨k + 1, by omega, by omega, by go_num, out, L, hkp, by omega, rfl, hoa, hwa, hba⟩
                case measure => simp [intOf]; omega
            · go_wp2
              clear c0 c1 c2 c3
              go_roundw
              case rel => exact ⟨k + 1, by omega, by omega, by go_num, out, L, hkp, by omega, rfl, hoa, hwa, hba⟩
              case measure => simp [intOf]; omega
          · go_wp2
            clear c0 c1 c2 c3
            go_roundw
            case rel => exact ⟨k + 1, by omega, by omega, by go_num, out, L, hkp, by omega, rfl, hoa, hwa, hba⟩
            case measure => simp [intOf]; omega
      · by_cases h1 : k < len
        · have h2 : ¬ k < 30 := fun h => hlt ⟨h1, h⟩
          clear hlt
          go_wp2
          go_meet
          exact ⟨out, L, hkp, by omega, rfl, ho, hw, hb⟩
        · clear hlt
          go_wp2
          go_meet
          exact ⟨out, L, hkp, by omega, rfl, ho, hw, hb⟩
  case rest =>
    obtain ⟨out, L, hkp, hol, rfl, ho, hw, hb⟩ := hcut
    obtain ⟨wr, hwr⟩ : ∃ wr, wr = wc := ⟨_, rfl⟩
    subst hwr
    have hbs := hb.size
    have hok6 : ∀ p ∈ out, PartOk wr p := fun p hp => (hkp.2.2 p hp).below hb
    obtain ⟨a6, c6, rfl, hp6, hlc6, hcm6⟩ := ho.parts hok6
    have HKP := Lib.hid hkp
    have hL120 := hkp.2.1
    have hSl := pad_length hw.1
    have hSb := pad_bytes hw.2.1
    have hLb := hw.2.1
    have HTK : Hid ((pad L).take L.length = L) := by show _ = _; unfold pad; simp
    have HLA : Hid (laid (cells noughts) 0 L = cells (pad L)) := laid_noughts L
    have HD : Hid (pad L = L ++ List.replicate (128 - L.length) 0) := rfl
    obtain ⟨kk, hkk, hkl, hkn⟩ := or_one kd hkd
    have hkne : ((kk : Int) != kk) = false := by simp
    obtain ⟨n, hn⟩ : ∃ n, out.length = n := ⟨_, rfl⟩
    rw [hn] at hp6 hlc6 ⊢
    have HN := Lib.hid hn
    have hn30 : n ≤ 30 := by omega
    clear hn ho hok6 hol hkp
    go_wp2_with fail
    refine (writer_sector w.heap.size L false wr hw).mono ?_
    rintro e w2 ⟨rfl, b2⟩
    simp only [Bool.false_eq_true, if_false]
    have hp2 := hp6.below b2
    have bw2 := hb.trans (b2.mono hbs)
    clear hw hb b2 hp6
    obtain ⟨S, hS⟩ : ∃ S, pad L = S := ⟨_, rfl⟩
    rw [hS] at hSl hSb HTK HLA HD ⊢
    have HSL := Lib.hid hSl
    have HSB := Lib.hid hSb
    have HPR : Hid (∀ (k : Nat) (p : PartD), out[k]? = some p → fitsP (runL (out.take k)).1.length p ∧ (runL (out.take (k + 1))).1.length = (runL (out.take k)).1.length + (piece p).length ∧ (S.drop (runL (out.take k)).1.length).take (piece p).length = piece p) := fun k p hp => by
      rw [← hS]
      exact part_read HKP.out.1 hp
    clear hS hSl hSb
    have hs2 := bw2.size
    have hg3 := heap_alloc_new w2 (.cells (cells S) 46)
    have hp3 := hp2.below ((Below.refl _ _).alloc (Nat.le_refl _) (.cells (cells S) 46))
    have bw3 := bw2.alloc hs2 (.cells (cells S) 46)
    have hrd3 := reads_block HSL.out HSB.out hg3 L.length (by omega)
    rw [HTK.out] at hrd3
    have hLne : ¬ ((128 : Int) = (L.length : Int)) := by omega
    have hLbd : (0 : Int) ≤ (L.length : Int) ∧ (L.length : Int) ≤ 128 := by omega
    clear hp2 bw2 hs2 hg3
    go_wp2_with (refine wpList_store_sector rfl (.tmp 10) (.tmp 91) rfl w2.heap.size S rfl rfl HSL.out _ _ (heap_alloc_new w2 _) rfl ?_; rw [World.setRow_alloc_new]; generalize w2.alloc (.cells (cells S) 46) = w3 at *)
    refine (make_ok kk L (some ⟨w2.heap.size, 0, none⟩) L.length 128 w3 hrd3 hL120 hkl hkn).mono ?_
    rintro e w4 ⟨rfl, b4⟩
    have HQL := Lib.hid (sealL_length (kind := kk) hL120)
    have HQB := Lib.hid (sealL_bytes hkl hLb hL120)
    have HOQ := Lib.hid (openB_sealL (b := L) hkn hL120)
    have HKQ := Lib.hid (sealL_kind kk L)
    have HBQ := Lib.hid (sealL_body kk L hL120)
    generalize sealL kk L = Q at *
    have hp4 := hp3.below b4
    have bw4 := bw3.trans (b4.mono bw3.size)
    have hs4 := bw4.size
    have hg5 := heap_alloc_new w4 (.cells (cells Q) 46)
    have hp5 := hp4.below ((Below.refl _ _).alloc (Nat.le_refl _) (.cells (cells Q) 46))
    have bw5 := bw4.alloc hs4 (.cells (cells Q) 46)
    clear hp3 hp4 bw3 bw4 b4 hrd3 hs4
    have HI : Hid (isB Q kk = true) := by show _ = _; unfold isB; rw [HOQ.out, HKQ.out]; simp
    go_wp2_with (first | (refine wpList_store_sector rfl (.tmp 12) (.tmp 100) rfl w4.heap.size Q rfl rfl HQL.out _ _ (heap_alloc_new w4 _) rfl ?_; rw [World.setRow_alloc_new]; generalize w4.alloc (.cells (cells Q) 46) = w5 at *) | (refine wpList_load_sector_want rfl (.tmp 12) rfl w4.heap.size 0 _ rfl HQL.out (block_cells HQL.out hg5) ?_))
    refine (is_any Q kk HQL.out HQB.out w5).mono ?_
    rintro e w6 ⟨rfl, b6⟩
    rw [HI.out]
    have hg6 : w6.heap[w4.heap.size]? = some (.cells (cells Q) 46 (0, 0)) := by rw [b6.block _ (Array.getElem?_eq_some_iff.1 hg5).1]; exact hg5
    have hp6 := hp5.below b6
    have bw6 := bw5.trans (b6.mono bw5.size)
    clear b6 hp5 bw5 hg5
    go_wp2_with (refine wpList_load_sector rfl (.tmp 12) rfl w4.heap.size 0 _ rfl HQL.out (block_cells HQL.out hg6) ?_)
    refine (open_any Q HQL.out HQB.out w6).mono ?_
    rintro e w7 ⟨b7, h7⟩
    have h7' : ∃ a cap, e = .returned (.tuple #[.int .u8 (kk : Nat), .slice a L.length cap, .int .i64 0]) ∧ Reads w7 a L.length L := by
      rcases h7 with ⟨_, a, cap, he, hrd⟩ | ⟨ho, _⟩
      · rw [HKQ.out, HBQ.out] at he
        rw [HBQ.out] at hrd
        exact ⟨a, cap, he, hrd⟩
      · rw [HOQ.out] at ho; cases ho
    clear h7
    obtain ⟨a7, c7, rfl, hrd7⟩ := h7'
    have hg7 : w7.heap[w4.heap.size]? = some (.cells (cells Q) 46 (0, 0)) := by rw [b7.block _ (Array.getElem?_eq_some_iff.1 hg6).1]; exact hg6
    have hp7 := hp6.below b7
    have bw7 := bw6.trans (b7.mono bw6.size)
    have hs7 := bw7.size
    have hgl7 := (Array.getElem?_eq_some_iff.1 hg7).1
    have hg8 := heap_alloc_new w7 (.cells (cells noughts) 46)
    have hrd8 := hrd7.alloc (.cells (cells noughts) 46)
    have hg9 := heap_alloc_new w7 (.cells (cells S) 46)
    have hg9q := (Below.heap_alloc w7 (.cells (cells S) 46) _ hgl7).trans hg7
    have hp9 := hp7.below ((Below.refl _ _).alloc (Nat.le_refl _) (.cells (cells S) 46))
    have bw9 := bw7.alloc hs7 (.cells (cells S) 46)
    clear b7 hg6 hp6 bw6 hrd7 hp7 hg7
    have hmin : L.length = Nat.min L.length 128 := by show L.length = min L.length 128; omega
    have HMIN := Lib.hid hmin
    clear hmin
    have HFT : Hid (0 + L.length ≤ (cells noughts).size) := by show _ ≤ _; rw [cells_size]; show 0 + L.length ≤ 128; omega
    go_wp2_with (first | (refine wpList_copy_bytes rfl (.tmp 133) (.tmp 134) rfl _ _ _ rfl _ _ _ rfl L hrd8 w7.heap.size 0 _ _ hg8 L.length HMIN.out (fun _ => rfl) HFT.out ?_; rw [List.take_of_length_le (Nat.le_refl _), HLA.out, World.setRow_alloc_new]; clear hg8 hrd8; generalize w7.alloc (.cells (cells S) 46) = w9 at *) | (refine wpList_load_sector rfl (.tmp 16) rfl w7.heap.size 0 _ rfl HSL.out (block_cells HSL.out hg9) ?_))
    refine (read_any S HSL.out HSB.out w9).mono ?_
    rintro e w10 ⟨rfl, hir10, b10⟩
    have hs9 := bw9.size
    clear hg9 HLA HMIN
    go_wp2
    go_loopw [19, 140] (fun _ i wr => ∃ k : Nat, k ≤ n ∧ i = .int .i64 k ∧ IsReader wr (w9.heap.size + 1) S (runL (out.take k)).1.length false ∧ Below w9.heap.size w9 wr) (fun _ i _ => n - (intOf i).toNat)
    case atStart => exact ⟨0, by omega, rfl, hir10, b10⟩
    case round =>
      clear hir10 b10
      obtain ⟨k, hk, rfl, hir, hb⟩ := hrel
      by_cases hlt : k < n
      · obtain ⟨p, b, off, hpk, rfl, hbl, hpa⟩ := hp9.at hlt
        obtain ⟨hpo, c0, c1, c2, c3⟩ := hpa.below hbl hb
        obtain ⟨hfit, hnext, hpiece⟩ := HPR.out k p hpk
        have hplen := piece_length hfit
        have hrd9 := hpa.1.2.2.1
        obtain ⟨m, hm⟩ : ∃ m, (runL (out.take k)).1.length = m := ⟨_, rfl⟩
        rw [hm] at hir hfit hnext hpiece
        have HNX := Lib.hid hnext
        have hgr := (Array.getElem?_eq_some_iff.1 hir.2.2.2).1
        have hbs := hb.size
        clear hnext hm hpa hpk
        obtain ⟨q, nn, r, pa, pl, pc, pb⟩ := p
        obtain ⟨hq, hn, hrd, hplc, hpc⟩ := hpo
        obtain ⟨f1, f2⟩ := hfit
        replace hpc : pc ≤ 2 ^ 63 - 1 := hpc
        replace hplc : pl ≤ pc := hplc
        replace hn : nn < 18446744073709551616 := hn
        replace f1 : q ≤ 128 - (m : Int) := f1
        replace hrd9 : Reads w9 pa pl pb := hrd9
        replace c0 : wr.cell? ⟨b, off + k * 4, none⟩ = some (.int .i64 q) := c0
        replace c1 : wr.cell? ⟨b, off + k * 4 + 1, none⟩ = some (.int .u64 (nn : Int)) := c1
        replace c2 : wr.cell? ⟨b, off + k * 4 + 2, none⟩ = some (.bool r) := c2
        replace c3 : wr.cell? ⟨b, off + k * 4 + 3, none⟩ = some (.slice pa pl pc) := c3
        have hpbl := Lib.hid hrd9.1
        obtain ⟨q, rfl⟩ := Int.eq_ofNat_of_zero_le (show 0 ≤ q by replace hplen : _ = q := hplen; omega)
        have hplenN : (piece ⟨(q : Int), nn, r, pa, pl, pc, pb⟩).length = q := by replace hplen : _ = (q : Int) := hplen; omega
        rw [hplenN] at hpiece
        have HNX2 : Hid ((runL (out.take (k + 1))).1.length = m + q) := by show _ = _; rw [HNX.out, hplenN]
        have HPL := Lib.hid hplenN
        have hmq : m + q ≤ 128 := by omega
        have hira := hir.below ((Below.refl wr.heap.size wr).alloc (Nat.le_refl _) (.cells #[.int .i64 (q : Int), .int .u64 nn, .bool r, .slice pa pl pc] 98)) hgr
        have hba := hb.alloc hbs (.cells #[.int .i64 (q : Int), .int .u64 nn, .bool r, .slice pa pl pc] 98)
        have hga := heap_alloc_new wr (.cells #[.int .i64 (q : Int), .int .u64 nn, .bool r, .slice pa pl pc] 98)
        have hgla : wr.heap.size < (wr.alloc (.cells #[.int .i64 (q : Int), .int .u64 nn, .bool r, .slice pa pl pc] 98)).heap.size := by simp
        have hne : wr.heap.size ≠ w9.heap.size + 1 := by omega
        have hiraD : IsReader (wr.alloc (.cells #[.int .i64 (q : Int), .int .u64 nn, .bool r, .slice pa pl pc] 98)).drew (w9.heap.size + 1) S m false := hira
        have hgaD : (wr.alloc (.cells #[.int .i64 (q : Int), .int .u64 nn, .bool r, .slice pa pl pc] 98)).drew.heap[wr.heap.size]? = some (.cells #[.int .i64 (q : Int), .int .u64 nn, .bool r, .slice pa pl pc] 98 (0, 0)) := hga
        obtain ⟨d0, d1, d2, d3⟩ := box_facts hgaD
        clear hir hb HNX hplen hplenN hrd
        cases r with
        | true =>
          replace f2 : (pb.length : Int) ≤ (q : Int) := f2
          rw [hpbl.out] at f2
          have hpi : piece ⟨(q : Int), nn, true, pa, pl, pc, pb⟩ = pb ++ List.replicate (q - pl) 0 := by
            unfold piece
            simp only [if_true, Int.toNat_natCast]
            rw [hpbl.out]
          rw [hpi] at hpiece HPL
          have HPI := Lib.hid hpiece
          have HTKP : Hid ((pb ++ List.replicate (q - pl) 0).take pl = pb) := List.take_left' hpbl.out
          have hplq : pl ≤ q := by omega
          have hplm : pl ≤ maxLen := by unfold maxLen; omega
          have hi1 : (0 : Int) ≤ (pl : Int) := by omega
          clear hpiece hpi
          go_wp2_with fail
          clear c0 c1 c2 c3
          go_region_held3 (fun w' => w'.cell? ⟨wr.heap.size, 0, none⟩ = some (.int .i64 (q : Int)) ∧ w'.cell? ⟨wr.heap.size, 3, none⟩ = some (.slice pa pl pc))
            (first | exact ⟨d0, d3⟩ | exact ⟨e0, e3⟩)
            ((first
              | (go_at_call 67; refine (reader_bytes_ok (w9.heap.size + 1) S m q _ hiraD hmq).mono ?_; rintro e w8 ⟨v8, rfl, o8, hir8, b8⟩; rw [HPI.out] at o8; obtain ⟨a8, c8, rfl, hrd8, hqc8, _⟩ := o8.reads; rw [HPL.out] at hrd8 hqc8 ⊢; have hi2 : (pl : Int) ≤ (c8 : Int) := (by omega); have hg8 := (b8.block _ (by simp)).trans ((Below.heap_setCell _ _ _ _ hne).trans hgaD); have hb8 := (hba.drew.setCell (p := ⟨w9.heap.size + 1, 128, none⟩) (Nat.le_succ _) _).trans (b8.mono (by have := hba.size; simpa using this)); obtain ⟨e0, e1, e2, e3⟩ := box_facts hg8; have hrd8t := hrd8.take pl hplq; rw [HTKP.out] at hrd8t)
              | (go_at_call 66; refine (equal_any a8 pa pl pl c8 pc pb pb _ hrd8t (hrd9.below hb8) hplm).mono ?_; rintro e w11 ⟨rfl, nq, hw11⟩; rw [same_self]; have hir11 : IsReader w11 (w9.heap.size + 1) S (m + q) false := (by rw [← hw11]; exact hir8); have hb11 : Below w9.heap.size w9 w11 := (by rw [← hw11]; exact below_drawn hb8 nq); obtain ⟨e0, e1, e2, e3⟩ := box_facts (show w11.heap[wr.heap.size]? = some (.cells #[.int .i64 (q : Int), .int .u64 nn, .bool true, .slice pa pl pc] 98 (0, 0)) from (by rw [← hw11]; exact hg8)))))
          go_wp2
          go_roundw
          case rel => exact ⟨k + 1, by omega, by go_num, by rw [HNX2.out]; exact hir11, hb11⟩
          case measure => simp [intOf]; omega
        | false =>
          replace f2 : hasB (q : Int) nn = true := f2
          have h3 := of_decide_eq_true f2
          obtain ⟨h31, h32, h33⟩ := h3
          rw [Int.toNat_natCast] at h33
          have hpi : piece ⟨(q : Int), nn, false, pa, pl, pc, pb⟩ = low nn q := rfl
          rw [hpi] at hpiece
          have HV : Hid (le ((S.drop m).take q) = nn) := by show _ = _; rw [hpiece, le_low _ _ h33]
          have hnn : ((nn : Int) != nn) = false := by simp
          have h1q : 1 ≤ q := by omega
          have h8q : q ≤ 8 := by omega
          clear h33 hpi hpiece f2 h31 h32
          go_wp2_with fail
          clear c0 c1 c2 c3
          go_region_held3 (fun w' => w'.cell? ⟨wr.heap.size, 0, none⟩ = some (.int .i64 (q : Int)) ∧ w'.cell? ⟨wr.heap.size, 1, none⟩ = some (.int .u64 (nn : Int)))
            (first | exact ⟨d0, d1⟩ | exact ⟨(o8.cell hne).trans d0, (o8.cell hne).trans d1⟩)
            ((go_at_call 68; refine (reader_num_ok (w9.heap.size + 1) S m q _ hiraD h1q h8q hmq).mono ?_; rintro e w8 ⟨rfl, hir8, o8⟩; rw [HV.out]))
          have hb9 := hba.drew.trans (o8.below (B := w9.heap.size) (Nat.le_succ _))
          go_wp2
          go_roundw
          case rel => exact ⟨k + 1, by omega, by go_num, by rw [HNX2.out]; exact hir8, hb9⟩
          case measure => simp [intOf]; omega
      · have ek : out.take k = out := List.take_of_length_le (by rw [HN.out]; omega)
        rw [ek, HKP.out.1] at hir
        have hir' : IsReader wr (w9.heap.size + 1) S L.length false := hir
        have HCL : Hid (closeOf S L.length = 0) := by
          show _ = _
          rw [HD.out]
          unfold closeOf
          simp
        have bwf := bw9.trans (hb.mono bw9.size)
        have hgq : wr.heap[w4.heap.size]? = some (.cells (cells Q) 46 (0, 0)) := by rw [hb.block _ (Array.getElem?_eq_some_iff.1 hg9q).1]; exact hg9q
        clear hir ek hb
        have hrdA := reads_block HQL.out HQB.out hgq 124 (by decide)
        have hrd4 := reads_block HQL.out HQB.out hgq 4 (by decide)
        have hrdB := (Reads.rest (p := 4) (reads_block HQL.out HQB.out hgq 124 (by decide)) (by decide) (some ⟨w4.heap.size, 4, none⟩) (fun _ => rfl))
        have HCC : Hid (Q.take 4 ++ (Q.take 124).drop 4 = Q.take 124) := by
          show _ = _
          rw [show Q.take 4 = (Q.take 124).take 4 by rw [List.take_take]; rfl, List.take_append_drop]
        have H0 := (Below.refl wr.heap.size wr).drew
        have hirD : IsReader wr.drew (w9.heap.size + 1) S L.length false := hir'
        obtain ⟨cc, hcc⟩ : ∃ cc, crc (Q.take 124) = cc := ⟨_, rfl⟩
        have HCR := Lib.hid hcc
        clear hcc
        go_wp2_with fail
        have HTL : Hid ((Q.take 124).length = 124) := by show _ = _; rw [List.length_take, HQL.out]; rfl
        have HCC2 : Hid ([] ++ Q.take 4 ++ (Q.take 124).drop 4 = Q.take 124) := HCC.out
        have h4l : ([] ++ Q.take 4 : List Nat).length + 120 ≤ 100000 := by simp; omega
        have hceq : ((cc : Int) == cc) = true := by simp
        replace hrdB : Reads wr (some ⟨w4.heap.size, 4, none⟩) 120 ((Q.take 124).drop 4) := hrdB
        go_region_held3 (fun w' => Below wr.heap.size wr w') (first | assumption | exact H0 | exact Below.alloc (by assumption) (Below.size (by assumption)) _)
          ((first
            | (go_at_call 69; refine (reader_close (w9.heap.size + 1) S L.length _ hirD).mono ?_; rintro e w11 ⟨rfl, nq, hw11⟩; rw [HCL.out]; have hS : Below wr.heap.size wr w11 := (by rw [← hw11]; exact below_drawn H0 nq))
            | (go_at_call 70; refine (crc_any _ 124 _ (Q.take 124) _ (by first | exact hrd13 | exact hrdA.below (by assumption)) (by decide)).mono ?_; rintro e w14 ⟨rfl, rfl⟩; rw [HCR.out])
            | (refine step_append_bytes (by rfl) _ _ (by rfl) w11.heap.size v12 ([] ++ Q.take 4) (by rfl) o12 w4.heap.size 4 120 124 (by rfl) ((Q.take 124).drop 4) (hrdB.below (by assumption)) (by decide) h4l hs12 ?_; intro v13 w13 o13 g13; have hS13 : Below wr.heap.size wr w13 := hS12.grown g13 (Below.size hS12) (fun j hj => Nat.le_trans (Below.size hS) (o12.lt j hj)); rw [HCC2.out] at o13; obtain ⟨a13, c13, rfl, hrd13, _, _⟩ := o13.reads; rw [HTL.out] at hrd13 ⊢)
            | (refine step_append_bytes (by rfl) _ _ (by rfl) w11.heap.size (.slice (some ⟨w11.heap.size, 0, none⟩) 0 0) [] (by rfl) (owns_new w11) w4.heap.size 0 4 128 (by rfl) (Q.take 4) (hrd4.below (by assumption)) (by decide) (by decide) (by simp) ?_; intro v12 w12 o12 g12; have hS12 : Below wr.heap.size wr w12 := (hS.alloc (Below.size hS) _).grown g12 (by have := Below.size hS; simp; omega) (fun j hj => Nat.le_trans (Below.size hS) ((owns_new w11).lt j hj)); have hs12 : w11.heap.size ≤ w12.heap.size := Nat.le_trans (by simp) g12.size)))
        all_goals go_wp2
        all_goals go_ret
        all_goals exact ⟨rfl, bwf.trans (Below.mono (by assumption) bwf.size)⟩
set_option maxRecDepth 100000 in
theorem drumlinSectors_lifted (os : Os) (started : os.Started) (H : Type) (enc : TypeId × Value → H) :
    ReturnsInHanded {} Try.checked os 12 .any (Rows.drumlinSectorsSpec.pre6 enc Try.prog Try.f12 Rows.drumlinSectorsRow.domain false) (Rows.drumlinSectorsSpec.post enc Try.prog Try.f12 false true false false) :=
  law_lifted (s := Rows.drumlinSectorsSpec) started Try.func12 (by kernel_rfl) rfl (fun ds hd => by
        match ds, hd with
        | [_, _], _ => rfl) rfl
      (of_decide_eq_true (by kernel_rfl))
      (ChangeSpec.witness6 (enc := enc) (C := Try.checked) false ⟨#[], #[.slice none 0 0, .int .u8 0], []⟩ 8 (by kernel_rfl) (by kernel_rfl) (by kernel_rfl) (by kernel_rfl))
      (fun W base args ds ps hval hA hsz => by
        rw [Try.params12] at hA hval hsz
        obtain ⟨v0, vs0, d0, ds0, p0, q0, hargs, rfl, rfl, h0, r0⟩ := trodAll_cons hA
        obtain ⟨v1, vs1, d1, ds1, p1, q1, rfl, rfl, rfl, h1, r1⟩ := trodAll_cons r0
        obtain ⟨rfl, rfl, rfl⟩ := trodAll_nil r1
        obtain rfl : args = #[v0, v1] := by cases args; simp_all
        simp only [DataW.weightsEach, List.all_append, Bool.and_eq_true] at hsz
        obtain ⟨z0, z1, _⟩ := hsz
        obtain ⟨a, len, cap, ps, rfl, hp, hl, hc⟩ := open_parts (hval 0 93 v0 rfl rfl) h0
        obtain ⟨kd, rfl, rfl, rfl, wk⟩ := open_int Try.underlying5 (hval 1 5 v1 rfl rfl) h1
        obtain ⟨k0, k1⟩ := u8_of_wf wk
        obtain ⟨kd, rfl⟩ := Int.eq_ofNat_of_zero_le k0
        exact sectors_walk a len cap ps kd (by omega) W hp hl hc)

theorem drumlinSectors_holds : Rows.DrumlinSectorsSaid :=
  OpenClaim.holds_of_wide 12 Try.f12 rfl rfl rfl rfl rfl rfl rfl ⟨rfl, rfl, rfl, rfl, rfl⟩ rfl rfl rfl rfl rfl (by kernel_rfl) Try.func12 (by kernel_rfl)
    (of_decide_eq_true (by kernel_rfl)) (by unfold Func.isWrapper; first | (rw [if_pos (by decide +kernel)]; kernel_rfl) | (rw [if_neg (by decide +kernel)]; exact ⟨rfl, rfl⟩))
    (fun os started H enc _ => drumlinSectors_lifted os started H enc)
#print axioms drumlinSectors_holds
end Go.Proofs.Ytdgmkobjdhmkdaa
