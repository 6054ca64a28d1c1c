/- A crash of the disk, by its walk. -/
import Derived.Test.YtbpklbicbeckdaaGgekmgocm
namespace Go.Proofs.Ytbpklbicbeckdaa
open Go.RowKit Go.Sort
set_option linter.unusedVariables false
set_option maxRecDepth 100000

/-- The slice's elements are these truths. -/
def ReadsB (w : World) (a : Option Addr) (len : Nat) (l : List Bool) : Prop :=
  l.length = len ∧ (l = [] ∨ ∃ b off, a = some ⟨b, off, none⟩ ∧ b < w.heap.size ∧ ∀ i, i < len → w.cell? ⟨b, off + i, none⟩ = some (.bool (l.getD i false)))
/-- They lie in none of the disk's own blocks. -/
theorem ReadsB.keeps {g gs : Nat} {cv : Value} {w w' : World} {a : Option Addr} {len : Nat} {l : List Bool} (h : ReadsB w a len l) (k : DKeeps g gs cv w w') (hne : l ≠ [] → ∀ x, a = some x → x.block ≠ g ∧ x.block ≠ gs ∧ cv.ownBlock ≠ some x.block) : ReadsB w' a len l := by
  by_cases h0 : l = []
  · exact ⟨h.1, .inl h0⟩
  replace hne := hne h0
  obtain ⟨h1, h2⟩ := h
  refine ⟨h1, ?_⟩
  rcases h2 with h2 | ⟨b, off, rfl, hb, hc⟩
  · exact .inl h2
  · obtain ⟨n1, n2, n3⟩ := hne _ rfl
    exact .inr ⟨b, off, rfl, Nat.lt_of_lt_of_le hb k.size, fun i hi => (World.cell?_of_block (w := w) (a := ⟨b, off + i, none⟩) (k.block b hb n1 n2 n3)).trans (hc i hi)⟩

def keepsZ (z : List ((Nat × List Nat) × Bool)) : List (Nat × List Nat) := z.filterMap fun x => if x.2 then some x.1 else none
theorem keepsZ_snoc (z : List ((Nat × List Nat) × Bool)) (p : Nat × List Nat) (b : Bool) : keepsZ (z ++ [(p, b)]) = keepsZ z ++ (if b then [p] else []) := by
  cases b <;> simp [keepsZ]
def crashD (D : DiskD) (ks : List Bool) : DiskD := { D with dead := false, armed := false, left := 0, secs := settles (keepsZ (D.cache.zip ks)) D.secs, cache := [] }
theorem zip_take_succ {α β : Type} {l : List α} {m : List β} {k : Nat} {x : α} {y : β} (hx : l[k]? = some x) (hy : m[k]? = some y) : (l.zip m).take (k + 1) = (l.zip m).take k ++ [(x, y)] := by
  rw [List.take_add_one]
  congr 1
  have : (l.zip m)[k]? = some (x, y) := by
    rw [List.getElem?_zip_eq_some]
    exact ⟨hx, hy⟩
  rw [this]
  rfl

set_option maxHeartbeats 1600000 in
theorem dcrash_is {B : Nat} {w : World} {g gs : Nat} {cv : Value} {D : DiskD} (a : Option Addr) (len cap : Nat) (ks : List Bool) (h : IsDisk B w g gs cv D) (hk : ReadsB w a len ks) (hl : len ≤ 9223372036854775807) (hne : ks ≠ [] → ∀ x, a = some x → x.block ≠ g ∧ x.block ≠ gs ∧ cv.ownBlock ≠ some x.block) :
    Calls Try.prog 17 #[.pointer (some ⟨g, 0, none⟩), .slice a len cap] w fun e w' => e = .returned (.tuple #[]) ∧ IsDisk B w' g gs (.slice none 0 0) (crashD D ks) ∧ DKeeps g gs cv w w' := by
  have H1 := Lib.hid h
  have hcl : D.cache.length ≤ 1000000 := h.2.2.2.1.2.2.2.2.1
  obtain ⟨c0, c1, c2, c3, c4, c5⟩ := head_facts h.1
  obtain ⟨m, hm⟩ : ∃ m, D.cache.length = m := ⟨_, rfl⟩
  obtain ⟨ca, cc, hcv⟩ : ∃ ca cc, cv = .slice ca m cc := by
    obtain ⟨_, _, ⟨_, q⟩, _⟩ := H1.out
    rw [hm] at q
    rcases q with ⟨rfl, q⟩ | ⟨gc, cap, cur, rfl, _⟩
    · exact ⟨none, 0, by rw [q]⟩
    · exact ⟨_, _, rfl⟩
  subst hcv
  have HM := Lib.hid hm
  rw [hm] at hcl
  have HK := Lib.hid hk
  have HKL := Lib.hid hk.1
  clear hm h hk c0 c1 c2 c3 c5
  go_enter Try.func17, Try.ntmps17
  go_wp2_with fail
  go_loopw [4, 13] (fun _ i wr => ∃ k : Nat, k ≤ len ∧ k ≤ m ∧ i = .int .i64 k ∧ IsDisk B wr g gs (.slice ca m cc) { D with secs := settles (keepsZ ((D.cache.zip ks).take k)) D.secs } ∧ Only gs w wr) (fun _ i _ => m - (intOf i).toNat)
  case atStart => exact ⟨0, by omega, by omega, rfl, H1.out, Only.refl _ _⟩
  case round =>
    obtain ⟨k, hk1, hk2, rfl, hdk, ok⟩ := hrel
    by_cases hlt : k < len ∧ k < m
    · obtain ⟨hlt1, hlt2⟩ := hlt
      obtain ⟨p, hp⟩ : ∃ p, D.cache[k]? = some p := ⟨_, List.getElem?_eq_getElem (by have := HM.out; omega)⟩
      obtain ⟨b, hb⟩ : ∃ b, ks[k]? = some b := ⟨_, List.getElem?_eq_getElem (by have := HKL.out; omega)⟩
      have hz := zip_take_succ hp hb
      have hkk := HK.out.keeps (DKeeps.of_gs ok) hne
      obtain ⟨bb, off, rfl, hcell⟩ : ∃ bb off, a = some ⟨bb, off, none⟩ ∧ wr.cell? ⟨bb, off + k, none⟩ = some (.bool b) := by
        obtain ⟨_, h2⟩ := hkk
        rcases h2 with rfl | ⟨bb, off, rfl, _, hc⟩
        · simp at hb
        · exact ⟨bb, off, rfl, by rw [hc k hlt1]; simp [List.getD, hb]⟩
      have hmin : decide ((k : Int) < min (len : Int) (m : Int)) = true := decide_eq_true (by omega)
      have hi : (0 : Int) ≤ (k : Int) ∧ (k : Int) < (len : Int) := by omega
      have HZ := Lib.hid hz
      clear hkk hb hz
      cases b with
      | true =>
        have hst := settle_is (D := { D with secs := settles (keepsZ ((D.cache.zip ks).take k)) D.secs }) k p hp hdk
        have hes : (settles (keepsZ ((D.cache.zip ks).take k)) D.secs).set p.1 p.2 = settles (keepsZ ((D.cache.zip ks).take (k + 1))) D.secs := by
          rw [HZ.out, keepsZ_snoc]
          exact (settles_snoc _ _ _).symm
        have HST := Lib.hid hst
        have HS2 := Lib.hid hes
        clear hst hes hp hdk
        go_wp2_with fail
        refine HST.out.mono ?_
        rintro e w2 ⟨rfl, h2, o2⟩
        have h3 : IsDisk B w2 g gs (.slice ca m cc) { D with secs := settles (keepsZ ((D.cache.zip ks).take (k + 1))) D.secs } := by
          rw [← HS2.out]; exact h2
        have o3 := ok.trans o2
        clear h2 o2 ok HS2 HST hcell
        go_wp2
        go_roundw
        case rel => exact ⟨k + 1, by omega, by omega, by go_num, h3, o3⟩
        case measure => simp [intOf]; omega
      | false =>
        have hes : keepsZ ((D.cache.zip ks).take (k + 1)) = keepsZ ((D.cache.zip ks).take k) := by
          rw [HZ.out, keepsZ_snoc]
          simp
        rw [← hes] at hdk
        clear hes hp
        go_wp2
        go_roundw
        case rel => exact ⟨k + 1, by omega, by omega, by go_num, hdk, ok⟩
        case measure => simp [intOf]; omega
    · have hkm : (D.cache.zip ks).take k = D.cache.zip ks := List.take_of_length_le (by rw [List.length_zip, HM.out, HKL.out]; omega)
      rw [hkm] at hdk
      have hmin : decide ((k : Int) < min (len : Int) (m : Int)) = false := decide_eq_false (by omega)
      have hfin := hdk.empty
      obtain ⟨d0, d1, d2, d3, d4, d5⟩ := head_facts hdk.1
      have f0 := head_free hdk.1 0
      have f1 := head_free hdk.1 1
      have f2 := head_free hdk.1 2
      have f4 := head_free hdk.1 4
      have HF := Lib.hid hfin
      clear hkm hfin hdk d3 d5
      go_wp2
      go_end0
      have ho := (((Only.refl g (wr.setCell ⟨g, 4, none⟩ (.slice none 0 0))).setCell 0 (.bool false)).setCell 1 (.bool false)).setCell 2 (.int .i64 0)
      have hh : Head _ g gs (.slice none 0 0) (crashD D ks) := (heap_setCell_same _ g 2 _ _ _ (heap_setCell_same _ g 1 _ _ _ (heap_setCell_same _ g 0 _ _ _ HF.out.1))).trans rfl
      have hok : (crashD D ks).ok := by
        obtain ⟨m1, m2, m3, m4, m5, m6, m7⟩ := HF.out.2.2.2.1
        exact ⟨m1, m2, m3, m4, m5, m6, Nat.zero_le _⟩
      exact ⟨rfl, HF.out.head hh ho rfl rfl hok, ((DKeeps.of_gs ok).trans (DKeeps.of_g ((Only.refl g wr).setCell 4 _))).trans (DKeeps.of_g ho)⟩
end Go.Proofs.Ytbpklbicbeckdaa
