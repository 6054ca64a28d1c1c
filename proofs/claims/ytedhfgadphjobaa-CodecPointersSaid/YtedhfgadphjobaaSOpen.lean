/- Opening a sealed sector, by its walks. -/
import Derived.Test.YtedhfgadphjobaaMake
import Derived.Test.YtedhfgadphjobaaArrEq
namespace Go.Proofs.Ytedhfgadphjobaa
open Go.RowKit
set_option linter.unusedVariables false
set_option maxRecDepth 100000

theorem le_one (s : List Nat) (n : Nat) (h : n < s.length) : le ((s.drop n).take 1) = s.getD n 0 := by
  rw [List.drop_eq_getElem_cons h, List.take_succ_cons, List.take_zero]
  simp [le, List.getD, List.getElem?_eq_getElem h]

/-- What Bytes hands back of a reader that has not failed. -/
def bodyOf (s : List Nat) (n q : Nat) : List Nat := if n + q ≤ 128 then (s.drop n).take q else []
theorem reader_bytes (B g : Nat) (s : List Nat) (n q : Nat) (w : World) (h : IsReader w g s n false) (hB : B ≤ g) (hq : q < 256) :
    Calls Try.prog 110 #[.pointer (some ⟨g, 0, none⟩), .int .i64 q] w fun e w' => ∃ a cap, e = .returned (.slice a (bodyOf s n q).length cap) ∧ Reads w' a (bodyOf s n q).length (bodyOf s n q) ∧ Below B w w' ∧ (bodyOf s n q).length ≤ cap ∧ cap ≤ maxLen := by
  have hgl : g < w.heap.size := (Array.getElem?_eq_some_iff.1 h.2.2.2).1
  by_cases hok : n + q ≤ 128
  · have e : bodyOf s n q = (s.drop n).take q := if_pos hok
    rw [e]
    refine (reader_bytes_ok g s n q w h hok).mono ?_
    rintro e w' ⟨v, rfl, ho, hr, hb⟩
    obtain ⟨a, cap, rfl, hrd, hc1, hc2⟩ := ho.reads
    exact ⟨a, cap, rfl, hrd, ((Below.refl _ _).setCell (p := ⟨g, 128, none⟩) hB _).trans (hb.mono (by omega)), hc1, hc2⟩
  · have e : bodyOf s n q = [] := if_neg hok
    rw [e]
    refine (reader_bytes_no g s n q false w h ⟨by omega, by omega⟩ (.inr (.inr (by omega)))).mono ?_
    rintro e w' ⟨rfl, hr, ho⟩
    exact ⟨none, 0, rfl, ⟨rfl, by intro x hx; simp at hx, .inl rfl⟩, ho.below hB, Nat.le_refl _, by unfold maxLen; omega⟩
theorem bodyOf_length (s : List Nat) (n q : Nat) : (bodyOf s n q).length ≤ 128 := by
  unfold bodyOf
  split
  · simp; omega
  · simp

def kindL (s : List Nat) : Nat := s.getD 2 0
def bodyL (s : List Nat) : List Nat := bodyOf s 4 (s.getD 3 0)
/-- Is it just one that Make makes? -/
def openB (s : List Nat) : Bool := decide (kindL s ≠ 0 ∧ (bodyL s).length ≤ 120 ∧ sealL (kindL s) (bodyL s) = s)

theorem openB_no_make {s : List Nat} (h : kindL s = 0 ∨ 120 < (bodyL s).length) : openB s = false := by
  unfold openB
  apply decide_eq_false
  rintro ⟨h1, h2, _⟩
  rcases h with h | h
  · exact h1 h
  · omega
theorem openB_make {s : List Nat} (h : ¬ (kindL s = 0 ∨ 120 < (bodyL s).length)) : openB s = decide (sealL (kindL s) (bodyL s) = s) := by
  unfold openB
  rw [decide_eq_decide]
  exact ⟨fun h1 => h1.2.2, fun h1 => ⟨by omega, by omega, h1⟩⟩

/-- A sector, loaded by an operation that is guarded, where its guard says yes. -/
theorem wpList_load_sector_want {ops : Array Oper} {rest : List Oper} {o : Oper} {a : Act} {w : World} {Q : Exit → Act → World → Prop} (hw : Region.wanted o (yielded ops a.tmps) = true) (x : Operand) (ho : o.op = .load 46 x)
    (g off : Nat) (l : List Nat) (hx : a.eval x = .pointer (some ⟨g, off, none⟩)) (hl : l.length = 128) (hc : ∀ j, j < 128 → w.cell? ⟨g, off + j, none⟩ = some (byteV (l.getD j 0)))
    (h : wpList Try.prog ops Q rest (a.put o.dst (.agg (cells l))) w) : wpList Try.prog ops Q (o :: rest) a w :=
  BigFrame.wpList_want hw fun _ hK => wp_load_mid 46 x ho g off hx (l.map byteV) _ (fun j v hv => by
    simp only [List.getElem?_map, Option.map_eq_some_iff] at hv
    obtain ⟨y, hy, rfl⟩ := hv
    have hj : j < 128 := by rw [← hl]; exact (List.getElem?_eq_some_iff.1 hy).1
    rw [hc j hj]
    simp [List.getD, hy]) row_sector rfl (by rw [size_sector, List.length_map, hl]) (hK _ _ h)

def OpenPost2 (s : List Nat) (w : World) (e : Ending) (w' : World) : Prop :=
  Below w.heap.size w w' ∧ ((openB s = true ∧ ∃ a cap, e = .returned (.tuple #[.int .u8 (kindL s : Nat), .slice a (bodyL s).length cap, .int .i64 0]) ∧ Reads w' a (bodyL s).length (bodyL s) ∧ (bodyL s).length ≤ cap ∧ cap ≤ maxLen) ∨
    (openB s = false ∧ e = .returned (.tuple #[.int .u8 0, .slice none 0 0, .int .i64 21])))
def OpenPost (s : List Nat) (w : World) (e : Ending) (w' : World) : Prop :=
  Below w.heap.size w w' ∧ ((openB s = true ∧ ∃ a cap, e = .returned (.tuple #[.int .u8 (kindL s : Nat), .slice a (bodyL s).length cap, .int .i64 0]) ∧ Reads w' a (bodyL s).length (bodyL s)) ∨
    (openB s = false ∧ e = .returned (.tuple #[.int .u8 0, .slice none 0 0, .int .i64 21])))

theorem box_cells {w wk : World} {s : List Nat} (hs : s.length = 128) (h : wk.heap[w.heap.size]? = some (.cells (cells s) 46 (0, 0))) : ∀ j, j < 128 → wk.cell? ⟨w.heap.size, 0 + j, none⟩ = some (byteV (s.getD j 0)) := fun j hj => by
  rw [cell_of_row _ _ _ _ _ _ h, Nat.zero_add]
  simp [cells, List.getD, List.getElem?_eq_getElem (show j < s.length by omega)]

set_option maxHeartbeats 1600000 in
set_option maxRecDepth 100000 in
theorem open_any2 (s : List Nat) (hs : s.length = 128) (hb : Bytes s) (w : World) :
    Calls Try.prog 75 #[.agg (cells s)] w fun e w' => OpenPost2 s w e w' := by
  have hz := zero_sector
  have Hc := Lib.hid (box_cells hs (heap_alloc_new w (.cells (cells s) 46)))
  go_enter Try.func75, Try.ntmps75
  go_wp2_with (first | (refine wpList_load_sector rfl (.tmp 1) rfl w.heap.size 0 s rfl hs Hc.out ?_) | (go_at_call 108; refine (read_any s hs hb _).mono ?_; rintro e w1 ⟨rfl, hr1, b1⟩))
  have e0 : (w.alloc (.cells (cells s) 46)).heap.size = w.heap.size + 1 := by simp
  rw [e0] at hr1 b1
  have hgr : w.heap.size + 1 ≤ w.heap.size + 1 + 1 := by omega
  refine (reader_num_ok _ s 0 2 _ hr1 (by decide) (by decide) (by decide)).mono ?_
  rintro e w2 ⟨rfl, hr2, o2⟩
  have b2 := b1.trans (o2.below (B := w.heap.size + 1) hgr)
  clear hr1 b1 o2 Hc
  go_wp2_with fail
  refine (reader_num_ok _ s _ 1 _ hr2 (by decide) (by decide) (by decide)).mono ?_
  rintro e w3 ⟨rfl, hr3, o3⟩
  rw [le_one s (0 + 2) (by omega)]
  obtain ⟨kd, hkd⟩ : ∃ kd, kd = s.getD (0 + 2) 0 := ⟨_, rfl⟩
  rw [← hkd]
  have hk : kd < 256 := by rw [hkd]; exact hb.getD _
  have HK : Hid (kindL s = kd) := hkd.symm
  have hk1 : (kd : Int) % 256 = kd := by omega
  clear hkd
  have b3 := b2.trans (o3.below (B := w.heap.size + 1) hgr)
  clear hr2 b2 o3
  go_wp2_with fail
  refine (reader_num_ok _ s _ 1 _ hr3 (by decide) (by decide) (by decide)).mono ?_
  rintro e w4 ⟨rfl, hr4, o4⟩
  rw [le_one s (0 + 2 + 1) (by omega)]
  obtain ⟨nn, hnn⟩ : ∃ nn, nn = s.getD (0 + 2 + 1) 0 := ⟨_, rfl⟩
  rw [← hnn]
  have hn : nn < 256 := by rw [hnn]; exact hb.getD _
  have HN : Hid (bodyOf s 4 nn = bodyL s) := by show _ = _; rw [hnn]; rfl
  clear hnn
  have b4 := b3.trans (o4.below (B := w.heap.size + 1) hgr)
  clear hr3 b3 o4
  go_wp2_with fail
  refine (reader_bytes (w.heap.size + 1) _ s _ nn _ hr4 hgr hn).mono ?_
  rintro e w5 ⟨a5, cap5, rfl, hrd5, b5', hcb5⟩
  have b5 := b4.trans b5'
  rw [show (0 + 2 + 1 + 1) = 4 from rfl, HN.out] at hrd5 hcb5 ⊢
  have HCB := Lib.hid hcb5
  clear hcb5
  have hbl : (bodyL s).length ≤ 128 := bodyOf_length _ _ _
  clear hr4 b4 b5' HN
  by_cases hmk : kd = 0 ∨ 120 < (bodyL s).length
  · go_wp2_with fail
    refine (make_no kd (bodyL s) _ _ _ _ hrd5 (by unfold maxLen; omega) hk hmk).mono ?_
    rintro e w6 ⟨rfl, b6'⟩
    have hs5 : w.heap.size + 1 ≤ w5.heap.size := by have := b5.size; omega
    have b6 := b5.trans (b6'.mono hs5)
    have hs6 : w.heap.size + 1 ≤ w6.heap.size := by have := b6.size; omega
    have b7 := (first_block b6).1.alloc (by omega) (.cells (cells noughts) 46)
    have hfin : openB s = false := openB_no_make (by rw [HK.out]; exact hmk)
    clear hrd5 b5 b6' b6 hmk
    go_wp2_with (refine wpList_store_sector rfl (.tmp 8) (.tmp 26) rfl w6.heap.size noughts rfl rfl rfl _ _ (heap_alloc_new w6 _) rfl ?_; rw [World.setRow_alloc_new])
    go_ret3
    exact ⟨b7, .inr ⟨hfin, rfl⟩⟩
  · have hok := openB_make (s := s) (by rw [HK.out]; exact hmk)
    rw [HK.out] at hok
    go_wp2_with fail
    refine (make_ok kd (bodyL s) _ _ _ _ hrd5 (by omega) hk (by omega)).mono ?_
    rintro e w6 ⟨rfl, b6'⟩
    have hs5 : w.heap.size + 1 ≤ w5.heap.size := by have := b5.size; omega
    have b6 := b5.trans (b6'.mono hs5)
    have hs6 : w.heap.size + 1 ≤ w6.heap.size := by have := b6.size; omega
    have hlen := sealL_length (kind := kd) (body := bodyL s) (by omega)
    have hrd6 := (hrd5.below b6').alloc (.cells (cells (sealL kd (bodyL s))) 46)
    have hneq := run_neq_sector (sealL kd (bodyL s)) s hlen hs
    have hbx := (first_block (b6.alloc hs6 (.cells (cells (sealL kd (bodyL s))) 46))).2
    have H1 := Lib.hid (box_cells hs hbx)
    have H2 := Lib.hid (box_cells hlen (heap_alloc_new w6 (.cells (cells (sealL kd (bodyL s))) 46)))
    have b7 := (first_block b6).1.alloc (show w.heap.size ≤ w6.heap.size by omega) (.cells (cells (sealL kd (bodyL s))) 46)
    have HL := Lib.hid hlen
    clear hrd5 b5 b6' b6 hbx hlen hmk
    by_cases hE : sealL kd (bodyL s) = s
    · have hfin : openB s = true := by rw [hok]; exact decide_eq_true hE
      have hD : decide (sealL kd (bodyL s) = s) = true := decide_eq_true hE
      simp only [hD, Bool.not_true] at hneq
      clear hok hE hD
      go_wp2_with (first | (refine wpList_store_sector rfl (.tmp 8) (.tmp 26) rfl w6.heap.size _ rfl rfl HL.out _ _ (heap_alloc_new w6 _) rfl ?_; rw [World.setRow_alloc_new]) | (refine wpList_load_sector_want rfl (.tmp 8) rfl w6.heap.size 0 (sealL kd (bodyL s)) rfl HL.out H2.out ?_) | (refine wpList_load_sector_want rfl (.tmp 1) rfl w.heap.size 0 s rfl hs H1.out ?_))
      go_ret3
      exact ⟨b7, .inl ⟨hfin, _, _, by rw [HK.out]; rfl, hrd6, HCB.out⟩⟩
    · have hfin : openB s = false := by rw [hok]; exact decide_eq_false hE
      have hD : decide (sealL kd (bodyL s) = s) = false := decide_eq_false hE
      simp only [hD, Bool.not_false] at hneq
      clear hok hE hD
      go_wp2_with (first | (refine wpList_store_sector rfl (.tmp 8) (.tmp 26) rfl w6.heap.size _ rfl rfl HL.out _ _ (heap_alloc_new w6 _) rfl ?_; rw [World.setRow_alloc_new]) | (refine wpList_load_sector_want rfl (.tmp 8) rfl w6.heap.size 0 (sealL kd (bodyL s)) rfl HL.out H2.out ?_) | (refine wpList_load_sector_want rfl (.tmp 1) rfl w.heap.size 0 s rfl hs H1.out ?_))
      go_ret3
      exact ⟨b7, .inr ⟨hfin, rfl⟩⟩
theorem open_any (s : List Nat) (hs : s.length = 128) (hb : Bytes s) (w : World) :
    Calls Try.prog 75 #[.agg (cells s)] w fun e w' => OpenPost s w e w' := by
  refine (open_any2 s hs hb w).mono ?_
  rintro e w' ⟨b, ⟨h1, a, cap, h2, h3, _⟩ | h⟩
  · exact ⟨b, .inl ⟨h1, a, cap, h2, h3⟩⟩
  · exact ⟨b, .inr h⟩
end Go.Proofs.Ytedhfgadphjobaa
