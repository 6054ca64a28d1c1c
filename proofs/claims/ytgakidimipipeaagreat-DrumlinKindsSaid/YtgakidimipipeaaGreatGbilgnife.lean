/- A directory's entry, laid through a port (dirent.layEntry). -/
import Derived.Test.YtgakidimipipeaaGreatGppgikihm
import Derived.Test.YtgakidimipipeaaGreatGolgphjcg
import Derived.Test.YtgakidimipipeaaGreatHush
import Derived.Laws.BytesArg
import Derived.Lib.BufferWrite
import Derived.Lib.MinMax
import Derived.Deep.RegionHeld3
import Derived.Deep.RegionLaw
namespace Go.Proofs.YtgakidimipipeaaGreat
open Go.RowKit Go.Sort
set_option linter.unusedVariables false
set_option linter.unusedSimpArgs false
set_option maxRecDepth 100000

theorem lay_u8 {l : List FldD} {gx m : Nat} {t : TypeId} {w0 w : World} {pv : Value} {S : PS} {z : Nat} (h : LayAt l gx t w0 pv S m w) (hx : l[m]? = some ⟨.u8, 1, (z : Int)⟩) (hz : z < 256) :
    Calls Tryz.prog 105 #[pv, .int .i64 1, .pointer (some ⟨gx, m, none⟩)] w fun e w' => e = .returned (.tuple #[]) ∧ LayAt l gx t w0 pv S (m + 1) w' := by
  refine (pnum_u8 (h.passed.port) h.row (h.passed.away gx h.size h.away) 1 (by decide) (by decide) (h.fits hx) (fieldsAt_get hx) hz).mono ?_
  rintro e w' ⟨rfl, h1, h2⟩
  refine ⟨rfl, h.next hx ?_ ?_⟩
  · rw [h1]
    show some (Obj.cells (Array.setIfInBounds _ m (Value.int .u8 _)) t (0, 0)) = some (Obj.cells (Array.setIfInBounds _ m (Value.int .u8 ((stS S (l.take m)).numI 1 (z : Int)))) t (0, 0))
    rw [numI_nat]
  · show Passed gx w pv _ w' ((stS S (l.take m)).next 1 (u64of (z : Int)))
    rw [u64of_nat (by omega)]
    exact h2
theorem Passed.more {gx g : Nat} {w w1 w2 : World} {pv : Value} {S S1 S2 : PS} (h : Passed gx w pv S w1 S1) (k : Passed g w1 pv S1 w2 S2) (hg : w.heap.size ≤ g) : Passed gx w pv S w2 S2 :=
  ⟨k.os.trans h.os, k.tape.trans h.tape, k.output.trans h.output, Nat.le_trans h.size k.size,
    fun i hi ha hx => (k.block i (Nat.lt_of_lt_of_le hi h.size) (h.apart i hi ha) (by omega)).trans (h.block i hi ha hx), fun i hi ha => k.apart i (Nat.lt_of_lt_of_le hi h.size) (h.apart i hi ha), fun i hi ha => k.away i (Nat.lt_of_lt_of_le hi h.size) (h.away i hi ha), k.port⟩
theorem Passed.grown {gx : Nat} {w w1 w2 : World} {pv : Value} {S S1 : PS} {row : Option Nat} (h : Passed gx w pv S w1 S1) (hg : w1.grownBy w2 row) (ha : ∀ k, row = some k → Away w1 pv S1 k) (hr : ∀ k, row = some k → k = gx ∨ w.heap.size ≤ k) : Passed gx w pv S w2 S1 := by
  obtain ⟨p1, p2, p3⟩ := port_kept h.port hg ha
  exact ⟨hg.os.trans h.os, hg.tape.trans h.tape, hg.output.trans h.output, Nat.le_trans h.size hg.size,
    fun i hi hap hx => (hg.block i (Nat.lt_of_lt_of_le hi h.size) (fun e => by rcases hr i e.symm with h | h <;> omega)).trans (h.block i hi hap hx),
    fun i hi hap => (p3 i).1 (h.apart i hi hap), fun i hi hap => (p2 i).1 (h.away i hi hap), p1⟩
theorem grown_allocN (w : World) (o : Obj) : w.grownBy (w.alloc o) none := below_grown0 (below_box w o)
theorem grown_setRow (w : World) (g : Nat) (cs : Array Value) : w.grownBy (w.setRow g cs) (some g) := ⟨rfl, rfl, rfl, by simp, fun k _ hk => setRow_other w g k cs (fun e => hk (by rw [e]))⟩
theorem grown_setCell' (w : World) (g i : Nat) (v : Value) : w.grownBy (w.setCell ⟨g, i, none⟩ v) (some g) := ⟨rfl, rfl, rfl, by simp [World.setCell], fun k hk hne => Below.heap_setCell _ _ _ _ (fun e => hne (by rw [e]))⟩
def padS (s : List UInt8) : List UInt8 := s ++ List.replicate (29 - s.length) 0
def nameF (s : List UInt8) : List FldD := (padS s).map fun b => ⟨.u8, 1, (b.toNat : Int)⟩
theorem padS_length {s : List UInt8} (h : s.length ≤ 29) : (padS s).length = 29 := by unfold padS; rw [List.length_append, List.length_replicate]; omega
theorem nameF_length {s : List UInt8} (h : s.length ≤ 29) : (nameF s).length = 29 := by unfold nameF; rw [List.length_map, padS_length h]
theorem widths_u8 : ∀ l : List UInt8, widths (l.map fun b => (⟨.u8, 1, (b.toNat : Int)⟩ : FldD)) = l.length
  | [] => rfl
  | b :: l => by rw [List.map_cons]; show 1 + widths _ = _; rw [widths_u8 l, List.length_cons]; omega
theorem nameF_widths {s : List UInt8} (h : s.length ≤ 29) : widths (nameF s) = 29 := by unfold nameF; rw [widths_u8, padS_length h]
theorem nameF_get {s : List UInt8} (h : s.length ≤ 29) {k : Nat} (hk : k < 29) : ∃ b : Nat, (nameF s)[k]? = some ⟨.u8, 1, (b : Int)⟩ ∧ b < 256 := by
  have hl := padS_length h
  refine ⟨((padS s)[k]'(by omega)).toNat, ?_, UInt8.toNat_lt _⟩
  unfold nameF
  rw [List.getElem?_map, List.getElem?_eq_getElem (by omega)]
  rfl
theorem cellsF_name {s : List UInt8} (h : s.length ≤ 29) : (Lib.byteCells s ++ ((cellsF (nameF [])).toList.drop s.length)).toArray = cellsF (nameF s) := by
  have e : (cellsF (nameF [])).toList = List.replicate 29 (Value.int .u8 0) := rfl
  rw [e, List.drop_replicate]
  unfold cellsF nameF padS Lib.byteCells
  rw [List.map_append, List.map_append, List.map_replicate, List.map_replicate, List.map_map]
  rfl
theorem stO_kind : ∀ (l : List FldD) (S : PS) (i : Nat) (x y : FldD), l[i]? = some x → (stO S l)[i]? = some y → y.kind = x.kind
  | [], _, _, _, _, h, _ => by simp at h
  | u :: l, S, 0, x, y, h, k => by
    simp only [List.getElem?_cons_zero, Option.some.injEq] at h
    subst h
    have : (stO S (u :: l))[0]? = some { u with z := S.numI u.width u.z } := rfl
    rw [this] at k
    obtain rfl := Option.some.inj k
    rfl
  | u :: l, S, i + 1, x, y, h, k => stO_kind l _ i x y (by simpa using h) (by simpa [stO] using k)
def sizeE (S : PS) (z : Int) (s : List UInt8) : Int := (S.next 2 (u64of z)).numI 1 (s.length : Int)
def stT (S : PS) (z : Int) (s : List UInt8) : PS := (S.next 2 (u64of z)).next 1 (u64of (s.length : Int))
def stE (S : PS) (z : Int) (s : List UInt8) : PS := stS (stT S z s) (nameF s)
def outN (S : PS) (z : Int) (s : List UInt8) : List Int := (stO (stT S z s) (nameF s)).map (·.z)
def nameE (S : PS) (z : Int) (s : List UInt8) : ByteArray := strOfNums ((outN S z s).take (min (sizeE S z s) 29).toNat)
def EntryPost (gx : Nat) (w : World) (pv : Value) (S : PS) (k : Nat) (cs : Array Value) (t : TypeId) (z : Int) (s : List UInt8) (e : Ending) (w' : World) : Prop :=
  e = .returned (.tuple #[]) ∧ w'.heap[gx]? = some (.cells ((cs.setIfInBounds k (.int .i64 (S.numI 2 z))).setIfInBounds (k + 1) (.string (nameE S z s))) t (0, 0)) ∧ Passed gx w pv S w' (stE S z s)
theorem zero29 (w : World) : (zeroValue 191).run Tryz.prog w = .ok (.agg (cellsF (nameF []))) w := by kernel_rfl
theorem step_copy_text {w : World} {ops : Array Oper} {o : Oper} {a : Act} {K : Act → World → Prop} {Q : Exit → Act → World → Prop} {E : Prop} (hgd : Region.wanted o (yielded ops a.tmps) = true) (d x : Operand)
    (ho : o.op = .call { callee := .builtin .copy, args := #[d, x], argTypes := #[84, 9] }) (g len cap : Nat) (hd : a.eval d = .slice (some ⟨g, 0, none⟩) len cap) (s : ByteArray) (hx : a.eval x = .string s)
    (cur : Array Value) (t : TypeId) (hg : w.heap[g]? = some (.cells cur t (0, 0))) (hle : s.size ≤ len) (hfit : s.size ≤ cur.size)
    (h : K (a.put o.dst (.int .i64 (s.size : Int))) (w.setRow g (Lib.byteCells s.data.toList ++ cur.toList.drop s.size).toArray)) : if Region.wanted o (yielded ops a.tmps) = true then Oper.wp Tryz.prog o a w K Q else E := by
  rw [if_pos hgd]
  obtain ⟨i0, hi, hz0, hz1, hz2⟩ := info_parts info_u8
  have hrun := Lib.run_copy_row_string (P := Tryz.prog) w 84 9 o.type 5 g 0 len cap s cur t Tryz.underlying84 (by rw [hi]; simpa using hz1) hg hle (by simpa using hfit)
  rw [List.take_zero, List.nil_append, Nat.zero_add] at hrun
  unfold Oper.wp
  simp [execOp, ho, resolve, invoke, builtin, hd, hx, hrun, Result.andThen]
  exact h
set_option maxHeartbeats 3200000 in
theorem layEnt_is {w : World} {pv : Value} {S : PS} {gx k : Nat} {cs : Array Value} {t : TypeId} {z : Int} {s : ByteArray} (hp : IsPort w pv S) (hx : w.heap[gx]? = some (.cells cs t (0, 0))) (hax : Away w pv S gx) (hf : S.fits 32)
    (h0 : cs[k]? = some (.int .i64 z)) (h1 : cs[k + 1]? = some (.string s)) (hz : I64 z) (hs : s.data.toList.length ≤ 29) (hsz : 0 ≤ sizeE S z s.data.toList ∧ sizeE S z s.data.toList < 1000) :
    Calls Tryz.prog 77 #[pv, .pointer (some ⟨gx, k, none⟩)] w (EntryPost gx w pv S k cs t z s.data.toList) := by
  have hz29 := zero29
  have hss : s.size = s.data.toList.length := Lib.size_eq s
  obtain ⟨L, hL⟩ : ∃ L, s.data.toList = L := ⟨_, rfl⟩
  rw [hL] at hs hsz hss ⊢
  have hgx : gx < w.heap.size := (Array.getElem?_eq_some_iff.1 hx).1
  have hk1 : k + 1 < cs.size := (Array.getElem?_eq_some_iff.1 h1).1
  have HNUM := Lib.hid (pnum_i64 hp hx hax 2 (by decide) (by decide) (fits_less hf (by decide)) h0 hz)
  have HAX := Lib.hid hax
  have HF := Lib.hid hf
  have H1 := Lib.hid h1
  have HSS := Lib.hid hss
  have HLL := Lib.hid hL
  obtain ⟨ti, vi, rfl⟩ := port_iface hp
  clear hp hx hax hf h0 h1 hL hss
  go_enter Tryz.func77, Tryz.ntmps77
  go_wp2_with fail
  refine HNUM.out.mono ?_
  rintro e w1 ⟨rfl, n1, P1⟩
  have c1 : w1.cell? ⟨gx, k + 1, none⟩ = some (.string s) := by
    rw [cell_of_row n1, Array.getElem?_setIfInBounds_ne (by omega)]
    exact H1.out
  have n4 := heap_alloc_new w1 (.cells #[.int .i64 (s.size : Int)] 3)
  have G2 := grown_allocN w1 (.cells #[.int .i64 (s.size : Int)] 3)
  have P2 := P1.grown G2 (by simp) (by simp)
  have hA4 : Away (w1.alloc (.cells #[.int .i64 (s.size : Int)] 3)) (.iface ti vi) (S.next 2 (u64of z)) w1.heap.size := ((port_kept P1.port G2 (by simp)).2.1 _).1 (port_fresh P1.port (Nat.le_refl _))
  have n1' := (G2.block gx (Nat.lt_of_lt_of_le hgx P1.size) (by simp)).trans n1
  have hf2 : (S.next 2 (u64of z)).fits 30 := PS.fits_next (q := 2) HF.out
  have HNUM2 := Lib.hid (pnum_i64 (off := 0) P2.port n4 hA4 1 (by decide) (by decide) (fits_less hf2 (by decide)) rfl (by rw [HSS.out]; unfold I64; omega))
  have HP1 := Lib.hid P1
  have HP2 := Lib.hid P2
  have HN1 := Lib.hid n1'
  have HF2 := Lib.hid hf2
  have HA4 := Lib.hid hA4
  clear n1 P1 P2 n4 G2 hA4 n1' hf2 HNUM
  go_wp2_with fail
  refine HNUM2.out.mono ?_
  rintro e w3 ⟨rfl, n4, P3⟩
  have hg4 : w1.heap.size < (w1.alloc (.cells #[.int .i64 (s.size : Int)] 3)).heap.size := by simp
  have hw41 : w.heap.size ≤ w1.heap.size := HP1.out.size
  have hgx2 : gx < (w1.alloc (.cells #[.int .i64 (s.size : Int)] 3)).heap.size := by simp; omega
  have P03 := HP2.out.more P3 hw41
  have A4 := P3.away w1.heap.size hg4 HA4.out
  have n1 := (P3.block gx hgx2 (HP2.out.apart gx hgx HAX.out.apart) (by omega)).trans HN1.out
  have hw13 : w1.heap.size < w3.heap.size := Nat.lt_of_lt_of_le hg4 P3.size
  obtain ⟨g4, hg4e⟩ : ∃ g, w1.heap.size = g := ⟨_, rfl⟩
  rw [hg4e] at n4 A4 hw41 hw13 ⊢
  have G4 := grown_allocN w3 (.cells (cellsF (nameF [])) 191)
  have n5 := heap_alloc_new w3 (.cells (cellsF (nameF [])) 191)
  have P4 := P03.grown G4 (by simp) (by simp)
  have A44 := ((port_kept P03.port G4 (by simp)).2.1 _).1 A4
  have A54 := ((port_kept P03.port G4 (by simp)).2.1 _).1 (port_fresh P03.port (Nat.le_refl _))
  have n14 := (G4.block gx (Nat.lt_of_lt_of_le hgx P03.size) (by simp)).trans n1
  have n44 := (G4.block g4 hw13 (by simp)).trans n4
  have hw3 := P03.size
  obtain ⟨w4, hw4⟩ : ∃ x, w3.alloc (.cells (cellsF (nameF [])) 191) = x := ⟨_, rfl⟩
  have hw4s : w4.heap.size = w3.heap.size + 1 := by rw [← hw4]; simp
  rw [hw4] at G4 n5 P4 A44 A54 n14 n44
  obtain ⟨g5, hg5e⟩ : ∃ g, w3.heap.size = g := ⟨_, rfl⟩
  rw [hg5e] at n5 A54 hw3 hw13 hw4s
  have hgx5 : gx < g5 := by omega
  have c14 : w4.drew.cell? ⟨gx, k + 1, none⟩ = some (.string s) := by
    show w4.cell? _ = _
    rw [cell_of_row n14, Array.getElem?_setIfInBounds_ne (by omega)]
    exact H1.out
  have hXX : (Lib.byteCells s.data.toList ++ (cellsF (nameF [])).toList.drop s.size).toArray = cellsF (nameF L) := by rw [HLL.out, HSS.out]; exact cellsF_name hs
  have HXX := Lib.hid hXX
  have n5d : w4.drew.heap[g5]? = some (.cells (cellsF (nameF [])) 191 (0, 0)) := n5
  have HN5D := Lib.hid n5d
  have hle : s.size ≤ 29 := by rw [HSS.out]; exact hs
  have hfit : s.size ≤ (cellsF (nameF [])).size := by show _ ≤ 29; exact hle
  have HFIT := Lib.hid hfit
  have cS : (w4.drew.setRow g5 (cellsF (nameF L))).cell? ⟨gx, k + 1, none⟩ = some (.string s) := (World.cell?_of_block (a := ⟨gx, k + 1, none⟩) (setRow_other w4.drew g5 gx _ (by omega))).trans c14
  have HCS := Lib.hid cS
  have HC14 := Lib.hid c14
  have HK4 := Lib.hid (And.intro n14 (And.intro n44 (And.intro A44 A54)))
  have HP4 := Lib.hid P4
  clear n1 n4 A4 G4 P3 P03 n5 n14 n44 A44 A54 P4 HN1 HP1 HP2 HA4 HNUM2 hXX n5d hfit cS hw4s hgx2 hg4
  go_wp2_with fail
  go_region_held3 (fun W => W.cell? ⟨gx, k + 1, none⟩ = some (.string s)) (first | exact HC14.out | exact HCS.out)
    ((first
      | (refine step_copy_text (by rfl) _ _ (by rfl) g5 29 29 (by rfl) s (by rfl) _ _ HN5D.out hle HFIT.out ?_; rw [HXX.out])))
  rename_i hHeld
  clear hHeld
  obtain ⟨n14, n44, A44, A54⟩ := HK4.out
  have P4 := HP4.out
  have G5 : w4.grownBy (w4.drew.setRow g5 (cellsF (nameF L))) (some g5) := ⟨(grown_setRow w4.drew g5 _).os, (grown_setRow w4.drew g5 _).tape, (grown_setRow w4.drew g5 _).output, (grown_setRow w4.drew g5 _).size, (grown_setRow w4.drew g5 _).block⟩
  have hA5 : ∀ j, some g5 = some j → Away w4 (.iface ti vi) ((S.next 2 (u64of z)).next 1 (u64of (s.size : Int))) j := fun j e => by cases e; exact A54
  have P5 := P4.grown G5 hA5 (fun j e => by cases e; right; omega)
  have n5 : (w4.drew.setRow g5 (cellsF (nameF L))).heap[g5]? = some (.cells (cellsF (nameF L)) 191 (0, 0)) := setRow_heap w4.drew g5 _ _ _ _ HN5D.out
  have A5 := ((port_kept P4.port G5 hA5).2.1 _).1 A54
  have A45 := ((port_kept P4.port G5 hA5).2.1 _).1 A44
  have hg5s : g5 < w4.heap.size := (Array.getElem?_eq_some_iff.1 HN5D.out).1
  have n15 := (G5.block gx (Nat.lt_of_lt_of_le hgx P4.size) (fun e => by cases e; omega)).trans n14
  have n45 := (G5.block g4 (Array.getElem?_eq_some_iff.1 n44).1 (fun e => by cases e; omega)).trans n44
  have hS2 : (((S.next 2 (u64of z)).next 1 (u64of (s.size : Int)))).fits 29 := PS.fits_next (q := 1) HF2.out
  have hsE : (s.size : Int) = (L.length : Int) := by rw [HSS.out]
  have LAY := layAt_start (l := nameF L) P5.port n5 A5 (by rw [nameF_widths hs]; exact hS2)
  obtain ⟨w5, hw5⟩ : ∃ x, w4.drew.setRow g5 (cellsF (nameF L)) = x := ⟨_, rfl⟩
  rw [hw5] at P5 n5 A5 A45 n15 n45 LAY ⊢
  have HLAY := Lib.hid LAY
  have HP5 := Lib.hid P5
  have HK5 := Lib.hid (And.intro n15 (And.intro n45 A45))
  have HSE := Lib.hid hsE
  have HG5 : Hid (g4 < g5 ∧ w.heap.size ≤ g5) := Lib.hid ⟨hw13, hw3⟩
  clear n14 n44 A44 A54 P4 G5 hA5 P5 n5 A5 A45 n15 n45 LAY hw5 hsE hS2 HK4 HP4 HN5D HC14 HCS HXX HFIT hg5s hle
  go_wp2_with fail
  go_loopw [6, 25] (fun _ i wr => ∃ j : Nat, j ≤ 29 ∧ i = .int .i64 j ∧ Hid (LayAt (nameF L) g5 191 w5 (.iface ti vi) ((S.next 2 (u64of z)).next 1 (u64of (s.size : Int))) j wr)) (fun _ i _ => 29 - (intOf i).toNat)
  case atStart => exact ⟨0, by decide, rfl, HLAY⟩
  case round =>
    obtain ⟨j, hj, rfl, HK⟩ := hrel
    rename_i wr _
    clear HLAY
    by_cases hlt : j < 29
    · obtain ⟨b, e, hb⟩ := nameF_get hs hlt
      have hjI : (0 : Int) ≤ (j : Int) ∧ (j : Int) < 29 := by omega
      go_wp2_with fail
      refine (lay_u8 HK.out e hb).mono ?_
      rintro e' w6 ⟨rfl, h6⟩
      have H6 := Lib.hid h6
      clear h6 HK e hb
      go_wp2
      go_roundw
      case rel => exact ⟨j + 1, by omega, by simp, H6⟩
      case measure => simp [intOf]; omega
    · obtain rfl : j = 29 := by omega
      have hlay := HK.out
      have hrow := hlay.row
      have hpas := hlay.passed
      have htk : (nameF L).take 29 = nameF L := List.take_of_length_le (by rw [nameF_length hs]; exact Nat.le_refl _)
      have hfd : fieldsAt ((S.next 2 (u64of z)).next 1 (u64of (s.size : Int))) (nameF L) 29 = stO ((S.next 2 (u64of z)).next 1 (u64of (s.size : Int))) (nameF L) := by
        unfold fieldsAt
        rw [htk, List.drop_eq_nil_of_le (by rw [nameF_length hs]; exact Nat.le_refl _), List.append_nil]
      rw [hfd] at hrow
      rw [htk] at hpas
      have P6 := HP5.out.more hpas HG5.out.2
      obtain ⟨n15, n45, A45⟩ := HK5.out
      have n16 := (hpas.block gx (Nat.lt_of_lt_of_le hgx HP5.out.size) (HP5.out.apart gx hgx HAX.out.apart) (by omega)).trans n15
      have n46 := (hpas.block g4 (Array.getElem?_eq_some_iff.1 n45).1 A45.apart (by have := HG5.out.1; omega)).trans n45
      obtain ⟨SZ, hSZ⟩ : ∃ x, (S.next 2 (u64of z)).numI 1 (s.size : Int) = x := ⟨_, rfl⟩
      have hSZE : sizeE S z L = SZ := by unfold sizeE; rw [← HSE.out]; exact hSZ
      rw [hSZE] at hsz
      obtain ⟨m, hm⟩ : ∃ m : Nat, min SZ 29 = (m : Int) := ⟨(min SZ 29).toNat, by omega⟩
      have hm29 : m ≤ 29 := by omega
      have hmI : (0 : Int) ≤ (m : Int) ∧ (m : Int) ≤ 29 := by omega
      have hol : (outN S z L).length = 29 := by unfold outN; rw [List.length_map, stO_length, nameF_length hs]
      have hrow2 : ∀ i, i < m → wr.cell? ⟨g5, 0 + i, none⟩ = some (.int .u8 (((outN S z L).take m).getD i 0)) := fun i hi => by
        rw [Nat.zero_add, cell_of_row hrow]
        unfold cellsF
        rw [List.getElem?_toArray, List.getElem?_map]
        obtain ⟨b, e, hb⟩ := nameF_get hs (show i < 29 by omega)
        have hstT : ((S.next 2 (u64of z)).next 1 (u64of (s.size : Int))) = stT S z L := by unfold stT; rw [← HSE.out]
        rw [hstT]
        obtain ⟨y, hy⟩ : ∃ y, (stO (stT S z L) (nameF L))[i]? = some y := ⟨_, List.getElem?_eq_getElem (by rw [stO_length, nameF_length hs]; omega)⟩
        rw [hy]
        have hyk : y.kind = .u8 := stO_kind (nameF L) (stT S z L) i _ y e hy
        have : ((outN S z L).take m).getD i 0 = y.z := by
          rw [List.getD_eq_getElem?_getD, List.getElem?_take, if_pos hi]
          unfold outN
          rw [List.getElem?_map, hy]
          rfl
        rw [this]
        show some (Value.int y.kind y.z) = _
        rw [hyk]
      have hcv := run_convert_bytes_arg (P := Tryz.prog) wr 84 5 Tryz.underlying84 Tryz.underlying5 g5 0 m 29 ((outN S z L).take m) (by rw [List.length_take, hol]; omega) hrow2 9 Tryz.underlying9
      have hne : strOfNums ((outN S z L).take m) = nameE S z L := by unfold nameE; rw [hSZE, hm, Int.toNat_natCast]
      rw [hne] at hcv
      have c4 : wr.cell? ⟨g4, 0, none⟩ = some (.int .i64 SZ) := by rw [cell_of_row n46, ← hSZ]; rfl
      have c16 : wr.cell? ⟨gx, k + 1, none⟩ = some (.string s) := by
        rw [cell_of_row n16, Array.getElem?_setIfInBounds_ne (by omega)]
        exact H1.out
      have hfr : wr.frozen? ⟨gx, k + 1, none⟩ = false := frozen_of_row _ _ _ _ _ n16
      obtain ⟨nm, hnm⟩ : ∃ x, nameE S z L = x := ⟨_, rfl⟩
      rw [hnm] at hcv
      have HFIN : Hid (EntryPost gx w (.iface ti vi) S k cs t z L (.returned (.tuple #[])) (wr.setCell ⟨gx, k + 1, none⟩ (.string nm))) := by
        refine Lib.hid ⟨rfl, ?_, ?_⟩
        · rw [hnm]
          exact heap_setCell_same wr gx (k + 1) _ _ _ n16
        · have hst : stE S z L = stS ((S.next 2 (u64of z)).next 1 (u64of (s.size : Int))) (nameF L) := by unfold stE stT; rw [← HSE.out]
          rw [hst]
          exact P6.grown (grown_setCell' wr gx (k + 1) _) (fun j e => by cases e; exact P6.away gx hgx HAX.out) (fun j e => by cases e; exact .inl rfl)
      clear hlay hrow hpas htk hfd P6 n15 n45 A45 n16 n46 hSZ hSZE hol hrow2 hne hnm HK
      go_wp2
      go_end0
      exact HFIN.out
end Go.Proofs.YtgakidimipipeaaGreat
