/- The law NumWrites is true for every input: a sector has the bytes of its parts, one behind the other, and they are read back. No condition. -/
import Derived.Test.YtdcnmfkhalfjcaaRWrite
import Derived.Test.YtdcnmfkhalfjcaaZeros
import Derived.Test.YtdcnmfkhalfjcaaFull
import Derived.Test.YtdcnmfkhalfjcaaNumD
import Derived.Deep.RegionHeld3
namespace Go.Proofs.Ytdcnmfkhalfjcaa
open Go.ChangeShapes Go.WideShapes Go.ChangeAt Go.RowKit
set_option linter.unusedVariables false

theorem Only.cell {g k o : Nat} {a b : World} (h : Only g a b) (hk : k ≠ g) : b.cell? ⟨k, o, none⟩ = a.cell? ⟨k, o, none⟩ := by
  unfold World.cell?
  rw [h.block k hk]
theorem range_sector {w : World} {g : Nat} {s : List Nat} {t : TypeId} (hs : s.length = 128) (h : w.heap[g]? = some (.cells (cells s) t (0, 0))) : w.rangeAt g 0 (s.map byteV) := full_parts hs (block_cells hs h)
theorem range_below {B : Nat} {a b : World} (h : Below B a b) {g o : Nat} {cs : List Value} (hg : g < B) (hr : a.rangeAt g o cs) : b.rangeAt g o cs := fun j v hv => (h.cell (p := ⟨g, o + j, none⟩) hg).trans (hr j v hv)

set_option maxHeartbeats 3200000 in
set_option maxRecDepth 100000 in
theorem numWrites_walk (a : Option Addr) (len cap : Nat) (ps0 : List PartD) (w : World) (hr0 : Parts w a len ps0) (hl : len ≤ cap) (hc : cap ≤ maxLen) :
    Calls Try.prog 5 #[.slice a len cap] w fun e w' => e = .returned (.bool true) ∧ Below w.heap.size w w' := by
  have hz := zero_sector
  go_enter Try.func5, Try.ntmps5
  go_wp2_with fail
  refine (awake_true _).mono ?_
  rintro e w1 ⟨rfl, hb1⟩
  have hr1 := hr0.below hb1
  clear hr0
  go_wp2_with fail
  refine (few_any a len cap ps0 w1 hr1 hl hc).mono ?_
  rintro e w2 ⟨v2, rfl, ho2, b2⟩
  have hok2 : ∀ p ∈ fewL ps0, PartOk w2 p := fun p hp => by
    unfold fewL at hp
    obtain ⟨p0, hp0, rfl⟩ := List.mem_map.1 hp
    refine cutP_ok ?_
    obtain ⟨i, hi, e⟩ := List.mem_iff_getElem.1 (List.mem_of_mem_take hp0)
    obtain ⟨p', b, off, hpk, _, _, hat⟩ := hr1.at (k := i) (by have := hr1.1; omega)
    rw [List.getElem?_eq_getElem hi, e] at hpk
    obtain rfl := Option.some.inj hpk
    exact hat.1.below b2
  have hlen2 : ∀ p ∈ fewL ps0, p.len ≤ 200 := fun p hp => by
    unfold fewL at hp
    obtain ⟨p0, _, rfl⟩ := List.mem_map.1 hp
    exact cutP_len p0
  have h40 : (fewL ps0).length ≤ 40 := by simp [fewL]; omega
  obtain ⟨a2, c2, rfl, hp2, hlc2, hcm2⟩ := ho2.parts hok2
  have bw2 := hb1.trans (b2.mono hb1.size)
  clear hb1 b2 ho2 hok2 hr1 hl hc
  generalize fewL ps0 = ps at *
  obtain ⟨n, hn⟩ : ∃ n, ps.length = n := ⟨_, rfl⟩
  rw [hn] at hp2 hlc2 h40 ⊢
  have HN := Lib.hid hn
  have HL := Lib.hid hlen2
  have HCM := Lib.hid hcm2
  clear hn hlen2 hcm2
  go_wp2_with fail
  refine (run_any a2 n c2 ps w2 hp2 hlc2 HCM.out).mono ?_
  rintro e w3 ⟨rfl, b3⟩
  obtain ⟨⟨L, f⟩, hst⟩ : ∃ st, runL ps = st := ⟨_, rfl⟩
  rw [hst]
  have HST := Lib.hid hst
  have hp3 := hp2.below b3
  have bw3 := bw2.trans (b3.mono bw2.size)
  have hs3 := bw3.size
  clear b3 bw2 hp2 hst
  cases f with
  | true =>
    have e : runV (L, true) = .tuple #[.agg (cells noughts), .int .i64 1] := rfl
    rw [e]
    clear e
    have hg4 := heap_alloc_new w3 (.cells (cells noughts) 41)
    have hp4 := hp3.below ((Below.refl _ _).alloc (Nat.le_refl _) (.cells (cells noughts) 41))
    have bw4 := bw3.alloc hs3 (.cells (cells noughts) 41)
    clear hp3
    go_wp2_with (refine wpList_store_sector rfl (.tmp 3) (.tmp 18) rfl w3.heap.size noughts rfl rfl rfl _ _ (heap_alloc_new w3 _) rfl ?_; rw [World.setRow_alloc_new]; generalize w3.alloc (.cells (cells noughts) 41) = w4 at *)
    refine (rwrite_any a2 n c2 ps w4 hp4 hlc2 HCM.out HL.out).mono ?_
    rintro e w5 ⟨b5, h5⟩
    rw [HST.out] at h5
    rcases h5 with ⟨h, _⟩ | ⟨_, rfl⟩
    · cases h
    have hg5 : w5.heap[w3.heap.size]? = some (.cells (cells noughts) 41 (0, 0)) := by rw [b5.block _ (Array.getElem?_eq_some_iff.1 hg4).1]; exact hg4
    have bw5 := bw4.trans (b5.mono bw4.size)
    have hgl := (Array.getElem?_eq_some_iff.1 hg5).1
    have HR := Lib.hid (range_sector rfl hg5)
    have hu := row_sector
    have hsz : (Try.prog.info? 41).map (·.size) = some (noughts.map byteV).length := by rw [size_sector]; rfl
    have hl8 : (noughts.map byteV).length = 128 := rfl
    have hone := byteV_oneCell noughts
    have hneq := run_neq_sector noughts noughts rfl rfl
    simp only [decide_true, Bool.not_true] at hneq
    have hfn : fullL [] = noughts := rfl
    clear b5 bw4 hg4 hp4 hg5
    have hneq' : ∀ w, (binOp .neq 41 (.agg (noughts.map byteV).toArray) (.agg (cells noughts))).run Try.prog w = .ok (.bool false) w := hneq
    have H5 := (Below.refl w5.heap.size w5).drew
    go_wp2_with fail
    go_region_held3 (fun w' => w'.rangeAt w3.heap.size 0 (noughts.map byteV) ∧ Below w5.heap.size w5 w') (first | exact ⟨range_below H5 hgl HR.out, H5⟩ | exact ⟨range_below hS hgl HR.out, hS⟩)
      ((go_at_call 23; refine (full_any none 0 0 [] _ ⟨rfl, by intro x hx; simp at hx, .inl rfl⟩ (by decide)).mono ?_; rintro e w' ⟨rfl, hf⟩; rw [hfn]; have hS := H5.trans hf))
    go_wp2
    go_ret
    exact ⟨rfl, bw5.trans (hS.mono bw5.size)⟩
  | false =>
    have e : runV (L, false) = .tuple #[.agg (cells (pad L)), .int .i64 0] := rfl
    rw [e]
    clear e
    have hL128 : L.length ≤ 128 := by have := runL_len ps; rw [HST.out] at this; exact this
    have hSl := pad_length hL128
    have hfl : fullL L = pad L := by unfold fullL; rw [List.take_of_length_le hL128]
    have HD : Hid (pad L = L ++ List.replicate (128 - L.length) 0) := rfl
    obtain ⟨S, hS⟩ : ∃ S, pad L = S := ⟨_, rfl⟩
    have HPR : Hid (∀ (k : Nat) (p : PartD), ps[k]? = some p → fitsP (runL (ps.take k)).1.length p ∧ (runL (ps.take (k + 1))).1.length = (runL (ps.take k)).1.length + (piece p).length ∧ (S.drop (runL (ps.take k)).1.length).take (piece p).length = piece p) := fun k p hp => by
      rw [← hS]
      exact part_read HST.out hp
    rw [hS] at hSl hfl HD ⊢
    have HSL := Lib.hid hSl
    have HFL := Lib.hid hfl
    have HSB0 := Lib.hid (fun h => hS ▸ pad_bytes (l := L) h)
    have HL128 := Lib.hid hL128
    clear hS hSl hfl hL128
    have hg4 := heap_alloc_new w3 (.cells (cells S) 41)
    have hp4 := hp3.below ((Below.refl _ _).alloc (Nat.le_refl _) (.cells (cells S) 41))
    have bw4 := bw3.alloc hs3 (.cells (cells S) 41)
    clear hp3
    go_wp2_with (refine wpList_store_sector rfl (.tmp 3) (.tmp 18) rfl w3.heap.size S rfl rfl HSL.out _ _ (heap_alloc_new w3 _) rfl ?_; rw [World.setRow_alloc_new]; generalize w3.alloc (.cells (cells S) 41) = w4 at *)
    refine (rwrite_any a2 n c2 ps w4 hp4 hlc2 HCM.out HL.out).mono ?_
    rintro e w5 ⟨b5, h5⟩
    rw [HST.out] at h5
    have h5' : ∃ a cap, e = .returned (.tuple #[.slice a L.length cap, .bool true]) ∧ Reads w5 a L.length L := by
      rcases h5 with ⟨_, h⟩ | ⟨h, _⟩
      · exact h
      · cases h
    clear h5
    obtain ⟨a5, c5, rfl, hrd5⟩ := h5'
    have HSB := Lib.hid (HSB0.out hrd5.2.1)
    have hg5 : w5.heap[w3.heap.size]? = some (.cells (cells S) 41 (0, 0)) := by rw [b5.block _ (Array.getElem?_eq_some_iff.1 hg4).1]; exact hg4
    have bw5 := bw4.trans (b5.mono bw4.size)
    have hp5 := hp4.below b5
    have hgl := (Array.getElem?_eq_some_iff.1 hg5).1
    have HR := Lib.hid (range_sector HSL.out hg5)
    have hu := row_sector
    have hsz : (Try.prog.info? 41).map (·.size) = some (S.map byteV).length := by rw [size_sector, List.length_map, HSL.out]
    have hl8 : (S.map byteV).length = 128 := by rw [List.length_map, HSL.out]
    have hone := byteV_oneCell S
    have hneq := run_neq_sector S S HSL.out HSL.out
    simp only [decide_true, Bool.not_true] at hneq
    have hneq' : ∀ w, (binOp .neq 41 (.agg (S.map byteV).toArray) (.agg (cells S))).run Try.prog w = .ok (.bool false) w := hneq
    have H5 := (Below.refl w5.heap.size w5).drew
    have HG5 := Lib.hid hg5
    have hml : L.length ≤ maxLen := by have := HL128.out; unfold maxLen; omega
    clear b5 bw4 hg4 hp4 hg5 HSB0
    go_wp2_with fail
    go_region_held3 (fun w' => w'.rangeAt w3.heap.size 0 (S.map byteV) ∧ Below w5.heap.size w5 w') (first | exact ⟨range_below H5 hgl HR.out, H5⟩ | exact ⟨range_below hS hgl HR.out, hS⟩)
      ((go_at_call 23; refine (full_any a5 L.length c5 L _ (hrd5.below H5) hml).mono ?_; rintro e w' ⟨rfl, hf⟩; rw [HFL.out]; have hS := H5.trans hf))
    have hg6 : w'.heap[w3.heap.size]? = some (.cells (cells S) 41 (0, 0)) := by rw [hS.block _ hgl]; exact HG5.out
    have bw6 := bw5.trans (hS.mono bw5.size)
    have hp6 := hp5.below hS
    clear hf hneq hneq' hu hsz hl8 hone hrd5 hp5 H5 HR HG5 bw5 hgl hS
    generalize w' = w6 at *
    go_wp2_with (refine wpList_load_sector rfl (.tmp 3) rfl w3.heap.size 0 _ rfl HSL.out (block_cells HSL.out hg6) ?_)
    refine (read_any S HSL.out HSB.out w6).mono ?_
    rintro e w7 ⟨rfl, hir7, b7⟩
    have hs6 := bw6.size
    have HML := Lib.hid hml
    clear hg6 hml
    go_wp2
    go_loopw [9, 10, 43] (fun _ _ i wr => ∃ k : Nat, k ≤ n ∧ i = .int .i64 k ∧ IsReader wr (w6.heap.size + 1) S (runL (ps.take k)).1.length false ∧ Below w6.heap.size w6 wr) (fun _ _ i _ => n - (intOf i).toNat)
    case atStart => exact ⟨0, by omega, rfl, hir7, b7⟩
    case round =>
      obtain ⟨k, hk, rfl, hir, hb⟩ := hrel
      by_cases hlt : k < n
      · obtain ⟨p, b, off, hpk, rfl, hbl, hpa⟩ := hp6.at hlt
        obtain ⟨hpo, c0, c1, c2, c3⟩ := hpa.below hbl hb
        obtain ⟨hfit, hnext, hpiece⟩ := HPR.out k p hpk
        have hplen := piece_length hfit
        have hp200 : p.len ≤ 200 := HL.out p (List.mem_of_getElem? hpk)
        have hrd6 := hpa.1.2.2.1
        obtain ⟨m, hm⟩ : ∃ m, (runL (ps.take k)).1.length = m := ⟨_, rfl⟩
        rw [hm] at hir hfit hnext hpiece
        have HNX := Lib.hid hnext
        have hgr := (Array.getElem?_eq_some_iff.1 hir.2.2.2).1
        have hbs := hb.size
        clear hnext hm hpa hpk
        obtain ⟨q, nn, r, pa, pl, pc, pb⟩ := p
        obtain ⟨hq, hn, hrd, hplc, hpc⟩ := hpo
        obtain ⟨f1, f2⟩ := hfit
        replace hpc : pc ≤ 2 ^ 63 - 1 := hpc
        replace hplc : pl ≤ pc := hplc
        replace hp200 : pl ≤ 200 := hp200
        replace hn : nn < 18446744073709551616 := hn
        replace f1 : q ≤ 128 - (m : Int) := f1
        replace hrd6 : Reads w6 pa pl pb := hrd6
        replace c0 : wr.cell? ⟨b, off + k * 4, none⟩ = some (.int .i64 q) := c0
        replace c1 : wr.cell? ⟨b, off + k * 4 + 1, none⟩ = some (.int .u64 (nn : Int)) := c1
        replace c2 : wr.cell? ⟨b, off + k * 4 + 2, none⟩ = some (.bool r) := c2
        replace c3 : wr.cell? ⟨b, off + k * 4 + 3, none⟩ = some (.slice pa pl pc) := c3
        have hpbl := Lib.hid hrd6.1
        obtain ⟨q, rfl⟩ := Int.eq_ofNat_of_zero_le (show 0 ≤ q by replace hplen : _ = q := hplen; omega)
        have hplenN : (piece ⟨(q : Int), nn, r, pa, pl, pc, pb⟩).length = q := by replace hplen : _ = (q : Int) := hplen; omega
        rw [hplenN] at hpiece
        have HNX2 : Hid ((runL (ps.take (k + 1))).1.length = m + q) := by show _ = _; rw [HNX.out, hplenN]
        have HPL := Lib.hid hplenN
        have hmq : m + q ≤ 128 := by omega
        have hira := hir.below ((Below.refl wr.heap.size wr).alloc (Nat.le_refl _) (.cells #[.int .i64 (q : Int), .int .u64 nn, .bool r, .slice pa pl pc] 50)) hgr
        have hba := hb.alloc hbs (.cells #[.int .i64 (q : Int), .int .u64 nn, .bool r, .slice pa pl pc] 50)
        have hga := heap_alloc_new wr (.cells #[.int .i64 (q : Int), .int .u64 nn, .bool r, .slice pa pl pc] 50)
        have hgla : wr.heap.size < (wr.alloc (.cells #[.int .i64 (q : Int), .int .u64 nn, .bool r, .slice pa pl pc] 50)).heap.size := by simp
        have hne : wr.heap.size ≠ w6.heap.size + 1 := by omega
        clear hir hb HNX hplen hplenN hrd
        cases r with
        | true =>
          replace f2 : (pb.length : Int) ≤ (q : Int) := f2
          rw [hpbl.out] at f2
          have hpi : piece ⟨(q : Int), nn, true, pa, pl, pc, pb⟩ = pb ++ List.replicate (q - pl) 0 := by
            unfold piece
            simp only [if_true, Int.toNat_natCast]
            rw [hpbl.out]
          rw [hpi] at hpiece HPL
          have hnonneg : (0 : Int) ≤ (q : Int) - (pl : Int) := by omega
          go_wp2_with fail
          refine (reader_bytes_ok (w6.heap.size + 1) S m q _ hira hmq).mono ?_
          rintro e w8 ⟨v8, rfl, o8, hir8, b8⟩
          rw [hpiece] at o8
          obtain ⟨a8, c8, rfl, hrd8, _, _⟩ := o8.reads
          rw [HPL.out] at hrd8 ⊢
          have hg8 : w8.heap[wr.heap.size]? = some (.cells #[.int .i64 (q : Int), .int .u64 nn, .bool true, .slice pa pl pc] 50 (0, 0)) := by
            rw [b8.block _ (by simp), Below.heap_setCell _ _ _ _ hne]
            exact hga
          have hb8 : Below w6.heap.size w6 w8 := (hba.setCell (p := ⟨w6.heap.size + 1, 128, none⟩) (Nat.le_succ _) _).trans (b8.mono (by have := hba.size; simpa using this))
          have hrd8p := hrd6.below hb8
          obtain ⟨d0, d1, d2, d3⟩ := box_facts hg8
          have hgl8 := (Array.getElem?_eq_some_iff.1 hg8).1
          have hgr8 := (Array.getElem?_eq_some_iff.1 hir8.2.2.2).1
          have H8 := (Below.refl w8.heap.size w8).drew
          have HSM : Hid (sameB (pb ++ List.replicate (q - pl) 0) (pb ++ List.replicate (q - pl) 0) = true) := same_self _
          have hqm : q ≤ maxLen := by unfold maxLen; omega
          have hpl47 : pl ≤ 140737488355328 := by omega
          have hz16 : pb.length + (q - pl) ≤ 100000 := by rw [hpbl.out]; omega
          have hzz : (q : Int) - (pl : Int) = ((q - pl : Nat) : Int) := by omega
          have HZZ := Lib.hid hzz
          have HW : Hid (IntKind.i64.wrap ((q : Int) - (pl : Int)) = ((q - pl : Nat) : Int)) := by show _ = _; rw [hzz]; exact wrap_small _ (by omega)
          have HZ16 := Lib.hid hz16
          clear hira hba hga hgla o8 b8 hg8 hpi hpiece c0 c1 c2 c3 hzz hz16
          go_wp2_with fail
          go_region_held3 (fun w' => w'.cell? ⟨wr.heap.size, 0, none⟩ = some (.int .i64 (q : Int)) ∧ w'.cell? ⟨wr.heap.size, 3, none⟩ = some (.slice pa pl pc) ∧ Below w8.heap.size w8 w')
            (first | exact ⟨(H8.cell (p := ⟨wr.heap.size, 0, none⟩) hgl8).trans d0, (H8.cell (p := ⟨wr.heap.size, 3, none⟩) hgl8).trans d3, H8⟩ | exact ⟨(hS.cell (p := ⟨wr.heap.size, 0, none⟩) hgl8).trans d0, (hS.cell (p := ⟨wr.heap.size, 3, none⟩) hgl8).trans d3, hS⟩)
            ((first
              | (go_at_call 14; refine (copy_any pa pl pc pb _ (hrd8p.below H8) hpl47).mono ?_; rintro e w9 ⟨v9, rfl, o9, f9⟩; have hS := H8.trans f9)
              | (go_at_call 17; refine (equal_any a8 a10 q q c8 c10 (pb ++ List.replicate (q - pl) 0) (pb ++ List.replicate (q - pl) 0) _ (hrd8.below hS) hrd10 hqm).mono ?_; rintro e w11 ⟨rfl, nq, hw11⟩; rw [HSM.out]; have hS : Below w8.heap.size w8 w11 := (by rw [← hw11]; exact below_drawn hS nq))
              | (refine step_append_zeros (by rfl) _ _ (by rfl) w8.heap.size v9 pb (by rfl) o9 _ (by rfl) (q - pl) (by first | exact HZZ.out | exact HW.out) HZ16.out (Below.size hS) ?_; intro v10 w10 o10 g10; have hS := hS.grown g10 (Below.size hS) (fun j hj => o9.lt j hj); obtain ⟨a10, c10, rfl, hrd10, _, _⟩ := o10.reads; rw [HPL.out] at hrd10 ⊢)))
          go_wp2
          go_roundw
          case rel => exact ⟨k + 1, by omega, by go_num, by rw [HNX2.out]; exact hir8.below hS hgr8, hb8.trans (hS.mono hb8.size)⟩
          case measure => simp [intOf]; omega
        | false =>
          replace f2 : hasB (q : Int) nn = true := f2
          have h3 := of_decide_eq_true f2
          obtain ⟨h31, h32, h33⟩ := h3
          rw [Int.toNat_natCast] at h33
          have hpi : piece ⟨(q : Int), nn, false, pa, pl, pc, pb⟩ = low nn q := rfl
          rw [hpi] at hpiece
          have HV : Hid (le ((S.drop m).take q) = nn) := by show _ = _; rw [hpiece, le_low _ _ h33]
          have hnn : ((nn : Int) != nn) = false := by simp
          obtain ⟨d0, d1, d2, d3⟩ := box_facts hga
          have hiraD : IsReader (wr.alloc (.cells #[.int .i64 (q : Int), .int .u64 nn, .bool false, .slice pa pl pc] 50)).drew (w6.heap.size + 1) S m false := hira
          have h1q : 1 ≤ q := by omega
          have h8q : q ≤ 8 := by omega
          clear h33 hpi hpiece f2 h31 h32
          go_wp2_with fail
          clear c0 c1 c2 c3
          go_region_held3 (fun w' => w'.cell? ⟨wr.heap.size, 0, none⟩ = some (.int .i64 (q : Int)) ∧ w'.cell? ⟨wr.heap.size, 1, none⟩ = some (.int .u64 (nn : Int)))
            (first | exact ⟨d0, d1⟩ | exact ⟨(o8.cell hne).trans d0, (o8.cell hne).trans d1⟩)
            ((go_at_call 26; refine (reader_num_ok (w6.heap.size + 1) S m q _ hiraD h1q h8q hmq).mono ?_; rintro e w8 ⟨rfl, hir8, o8⟩; rw [HV.out]))
          have hb9 := hba.drew.trans (o8.below (B := w6.heap.size) (Nat.le_succ _))
          go_wp2
          go_roundw
          case rel => exact ⟨k + 1, by omega, by go_num, by rw [HNX2.out]; exact hir8, hb9⟩
          case measure => simp [intOf]; omega
      · have ek : ps.take k = ps := List.take_of_length_le (by rw [HN.out]; omega)
        rw [ek, HST.out] at hir
        have hir' : IsReader wr (w6.heap.size + 1) S L.length false := hir
        have HCL : Hid (closeOf S L.length = 0) := by
          show _ = _
          rw [HD.out]
          unfold closeOf
          simp
        have HCT : Hid (((128 - L.length : Nat) : Int) = 128 - (L.length : Int)) := by
          show _ = _
          have := HL128.out
          omega
        have hqq : ((128 : Int) - (L.length : Int) == 128 - (L.length : Int)) = true := by simp
        have hlb : (L.length : Int) ≤ 128 := by have := HL128.out; omega
        have bwf := bw6.trans (hb.mono bw6.size)
        clear hir ek hb
        go_wp2_with fail
        refine (reader_left (w6.heap.size + 1) S L.length false wr hir').mono ?_
        rintro e w8 ⟨rfl, rfl⟩
        rw [HCT.out]
        go_wp2_with fail
        refine (reader_close (w6.heap.size + 1) S L.length wr hir').mono ?_
        rintro e w9 ⟨rfl, nq, hw9⟩
        rw [HCL.out]
        have bwf' : Below w.heap.size w w9 := by rw [← hw9]; exact below_drawn bwf nq
        go_wp2
        go_ret
        exact ⟨rfl, bwf'⟩
set_option maxRecDepth 100000 in
theorem numWrites_lifted (os : Os) (started : os.Started) (H : Type) (enc : TypeId × Value → H) :
    ReturnsInHanded {} Try.checked os 5 .any (Rows.numWritesSpec.pre6 enc Try.prog Try.f5 Rows.numWritesRow.domain false) (Rows.numWritesSpec.post enc Try.prog Try.f5 false true false false) :=
  law_lifted (s := Rows.numWritesSpec) started Try.func5 (by kernel_rfl) rfl (fun ds hd => by
        match ds, hd with
        | [_], _ => rfl) rfl
      (of_decide_eq_true (by kernel_rfl))
      (ChangeSpec.witness6 (enc := enc) (C := Try.checked) false ⟨#[], #[.slice none 0 0], []⟩ 8 (by kernel_rfl) (by kernel_rfl) (by kernel_rfl) (by kernel_rfl))
      (fun W base args ds ps hval hA hsz => by
        rw [Try.params5] at hA hval hsz
        obtain ⟨v0, vs0, d0, ds0, p0, q0, hargs, rfl, rfl, h0, r0⟩ := trodAll_cons hA
        obtain ⟨rfl, rfl, rfl⟩ := trodAll_nil r0
        obtain rfl : args = #[v0] := by cases args; simp_all
        simp only [DataW.weightsEach, List.all_append, Bool.and_eq_true] at hsz
        obtain ⟨z0, _⟩ := hsz
        obtain ⟨a, len, cap, ps, rfl, hp, hl, hc⟩ := open_parts (hval 0 38 v0 rfl rfl) h0
        exact numWrites_walk a len cap ps W hp hl hc)

theorem numWrites_holds : Rows.NumWritesSaid :=
  OpenClaim.holds_of_wide 5 Try.f5 rfl rfl rfl rfl rfl rfl rfl ⟨rfl, rfl, rfl, rfl, rfl⟩ rfl rfl rfl rfl rfl (by kernel_rfl) Try.func5 (by kernel_rfl)
    (of_decide_eq_true (by kernel_rfl)) (by unfold Func.isWrapper; first | (rw [if_pos (by decide +kernel)]; kernel_rfl) | (rw [if_neg (by decide +kernel)]; exact ⟨rfl, rfl⟩))
    (fun os started H enc _ => numWrites_lifted os started H enc)
#print axioms numWrites_holds
end Go.Proofs.Ytdcnmfkhalfjcaa
