/- Is there a nought or a slash among these bytes? The library's ContainsAny, at every text. -/
import Derived.Test.YtgakidimipipeaaGreatShelf
import Derived.Test.YtgakidimipipeaaGreatHush
import Derived.Laws.RangeAny
import Derived.Lib.IndexAny
import Derived.Laws.Runes
import Derived.WalkMore
import Derived.Lib.OthersKept
namespace Go.Proofs.YtgakidimipipeaaGreat
open Go.RowKit Go.Sort
set_option linter.unusedVariables false
set_option linter.unusedSimpArgs false
set_option maxRecDepth 100000

/-- The bytes that a rune takes behind its first one are none of ASCII's. -/
theorem decode_cont (s : ByteArray) (pos : Nat) (h : pos < s.size) (ha : 128 ≤ (s[pos]'h).toNat) : ∀ k, 1 ≤ k → k < (Utf8.decode s pos).2 → pos + k < s.size ∧ (s.get! (pos + k)).toNat / 64 = 2 := by
  have hn : ¬ (s[pos]'h).toNat < 128 := by omega
  intro k hk1 hk2
  simp only [Utf8.decode, get_at s pos h, hn, if_false] at hk2
  have h3 : ∀ k, (decide (pos + k < s.size) && (s.get! (pos + k)).toNat / 64 == 2) = true → pos + k < s.size ∧ (s.get! (pos + k)).toNat / 64 = 2 := by
    intro k hh; simpa using hh
  split at hk2
  · rename_i hc
    simp only [Bool.and_eq_true] at hc
    split at hk2
    · have : k = 1 := by simp at hk2; omega
      subst this
      exact h3 1 (by simpa using hc.2)
    · simp at hk2; omega
  · split at hk2
    · rename_i hc
      simp only [Bool.and_eq_true] at hc
      split at hk2
      · have : k = 1 ∨ k = 2 := by simp at hk2; omega
        rcases this with rfl | rfl
        · exact h3 1 (by simpa using hc.1.2)
        · exact h3 2 (by simpa using hc.2)
      · simp at hk2; omega
    · split at hk2
      · rename_i hc
        simp only [Bool.and_eq_true] at hc
        split at hk2
        · have : k = 1 ∨ k = 2 ∨ k = 3 := by simp at hk2; omega
          rcases this with rfl | rfl | rfl
          · exact h3 1 (by simpa using hc.1.1.2)
          · exact h3 2 (by simpa using hc.1.2)
          · exact h3 3 (by simpa using hc.2)
        · simp at hk2; omega
      · simp at hk2; omega

theorem quiet_again {P : Program} {f : FuncId} {args : Array Value} {w : World} {a n : Nat} {v : Value}
    (h : Calls P f args (w.drewN (a + n)) fun e w' => e = .returned v ∧ w' = w.drewN (a + n)) : Calls P f args (w.drewN (a + n)) fun e w'' => e = .returned v ∧ ∃ m, w'' = w.drewN (a + m) :=
  h.mono fun _ _ ⟨he, hm⟩ => ⟨he, n, hm⟩
def slashNul : ByteArray := ⟨#[0, 47]⟩
theorem sn_size : slashNul.size = 2 := rfl
theorem below_iter (w : World) (s : ByteArray) (p : Nat) : Below w.heap.size w (w.iter s p) := below_box w _

set_option maxHeartbeats 3200000 in
/-- The rune that stands for an error: not among these. -/
theorem rune_err (w : World) : Calls Tryz.prog 106 #[.string ⟨#[0, 47]⟩, .int .i32 65533] w fun e w' => e = .returned (.int .i64 (-1)) ∧ Below w.heap.size w w' := by
  have n0 := fun ty => run_next_ascii (P := Tryz.prog) w ⟨#[0, 47]⟩ 0 ty (by decide) (by decide)
  have n1 := fun ty => run_next_ascii (P := Tryz.prog) w ⟨#[0, 47]⟩ 1 ty (by decide) (by decide)
  have n2 := fun ty => run_next_end (P := Tryz.prog) w ⟨#[0, 47]⟩ 2 ty (by decide)
  have N0 := Lib.hid n0
  have N1 := Lib.hid n1
  have N2 := Lib.hid n2
  clear n0 n1 n2
  go_enter Tryz.func106, Tryz.ntmps106
  go_wp2
  go_loopg [5, 6] 3 (fun g _ _ wx => ∃ i : Nat, i + g = 3 ∧ i ≤ 2 ∧ wx = w.iter ⟨#[0, 47]⟩ i)
  case atStart => exact ⟨0, by omega, by omega, rfl⟩
  case round =>
    obtain ⟨i, hig, hi2, rfl⟩ := hrel
    have h012 : i = 0 ∨ i = 1 ∨ i = 2 := by omega
    rcases h012 with rfl | rfl | rfl
    · have hn := N0.out
      have e1 : ((⟨#[0, 47]⟩ : ByteArray)[0]'(by decide)).toNat = 0 := rfl
      rw [e1] at hn
      clear e1
      go_wp2
      go_roundg 2
      case measure => omega
      case rel => exact ⟨1, by omega, by omega, rfl⟩
    · have hn := N1.out
      have e1 : ((⟨#[0, 47]⟩ : ByteArray)[1]'(by decide)).toNat = 47 := rfl
      rw [e1] at hn
      clear e1
      go_wp2
      go_roundg 1
      case measure => omega
      case rel => exact ⟨2, by omega, by omega, rfl⟩
    · have hn := N2.out
      go_wp2
      go_ret
      exact ⟨rfl, below_iter _ _ _⟩

set_option maxHeartbeats 3200000 in
theorem rune_bad (r : Int) (w : World) (h0 : 128 ≤ r) (hne : r ≠ 65533) (hv : Lib.validRune r = false) : Calls Tryz.prog 106 #[.string ⟨#[0, 47]⟩, .int .i32 r] w fun e w' => e = .returned (.int .i64 (-1)) ∧ Below w.heap.size w w' := by
  have hneb : (r == 65533) = false := by simp [hne]
  clear hne
  go_enter Tryz.func106, Tryz.ntmps106
  go_wp2_with fail
  refine (Tryz.utf8_ValidRune r _).mono ?_
  rintro e w' ⟨rfl, rfl⟩
  rw [hv]
  go_wp2
  go_ret
  exact ⟨rfl, Below.refl _ _⟩

set_option maxHeartbeats 6400000 in
theorem rune_good (r : Int) (w : World) (h0 : 128 ≤ r) (hr : r ≤ 2147483647) (hne : r ≠ 65533) (hv : Lib.validRune r = true) (hv2 : Utf8.valid r = true) : Calls Tryz.prog 106 #[.string ⟨#[0, 47]⟩, .int .i32 r] w fun e w' => e = .returned (.int .i64 (-1)) ∧ Below w.heap.size w w' := by
  have hneb : (r == 65533) = false := by simp [hne]
  obtain ⟨f1, f2, f3⟩ := encode_facts r hv2 h0
  clear hne hv2
  obtain ⟨E, hE⟩ : ∃ E, Utf8.encode r = E := ⟨_, rfl⟩
  rw [hE] at f1 f2 f3
  obtain ⟨n, hn⟩ : ∃ n, E.size = n := ⟨_, rfl⟩
  have f4 : ∀ h : n - 1 < E.size, 128 ≤ (E[n - 1]'h).toNat := by subst hn; exact f3
  have F4 := Lib.hid f4
  have HN := Lib.hid hn
  rw [hn] at f1 f2
  clear f3 f4
  go_enter Tryz.func106, Tryz.ntmps106
  go_wp2_with fail
  refine (Tryz.utf8_ValidRune r _).mono ?_
  rintro e w' ⟨rfl, rfl⟩
  rw [hv]
  go_wp2_with fail
  apply wp_scope_straight
  by_cases h2 : n = 2
  · subst h2
    go_wp2_with fail
    go_loop [9] (fun i => i = .int .i64 1) (fun _ => 0)
    case atStart => rfl
    case round =>
      subst hrel
      obtain ⟨c, hc⟩ : ∃ c, E[1]'(by omega) = c := ⟨_, rfl⟩
      have hc128 : 128 ≤ c.toNat := by have := F4.out (by omega); rw [← hc]; exact this
      have hne2 : ((47 : Int) != (c.toNat : Int)) = true := by simp; omega
      have hne4 : ((((⟨#[0, 47]⟩ : ByteArray)[1]'(by decide)).toNat : Int) != (c.toNat : Int)) = true := hne2
      go_wp2_with fail
      apply wp_scope_straight
      go_wp2_with fail
      go_quiet (fail)
      go_wp2_with fail
      have hs1 : IntKind.i64.wrap (1 + 1) = 2 := by decide
      have hib : Lib.indexByte [] c < 0 := by show (-1 : Int) < 0; decide
      go_quiet ((go_at_call 116; exact quiet_again (Tryz.strings_IndexByte _ _ _)))
      go_wp2_with fail
      simp (config := { zetaDelta := true }) only [Exit.noGoto_ret, Exit.inBlock, Exit.then]
      go_ret
      exact ⟨rfl, ⟨rfl, rfl, rfl, Nat.le_refl _, fun _ _ => rfl⟩⟩
  · have h3 : 3 ≤ n := by omega
    have h4 : ¬ ((n : Int) - 1 < 2) := by omega
    clear h2
    go_wp2_with fail
    go_loop [9] (fun i => i = .int .i64 ((n : Int) - 1)) (fun _ => 0)
    case atStart => rfl
    case round =>
      subst hrel
      go_wp2
      go_ret
      exact ⟨rfl, Below.refl _ _⟩

theorem rune_high (r : Int) (w : World) (h0 : 128 ≤ r) (hr : r ≤ 2147483647) : Calls Tryz.prog 106 #[.string ⟨#[0, 47]⟩, .int .i32 r] w fun e w' => e = .returned (.int .i64 (-1)) ∧ Below w.heap.size w w' := by
  by_cases h : r = 65533
  · subst h; exact rune_err w
  · cases hv : Lib.validRune r with
    | false => exact rune_bad r w h0 h hv
    | true =>
      have e : Utf8.valid r = true := by
        rw [validRune_eq]
        have : validRune r = Lib.validRune r := rfl
        rw [this]; exact hv
      exact rune_good r w h0 hr h hv e

/-- Is there a nought or a slash? -/
def badB (l : List UInt8) : Bool := l.any fun x => x == 0 || x == 47
theorem badB_iff {l : List UInt8} : badB l = true ↔ (0 : UInt8) ∈ l ∨ (47 : UInt8) ∈ l := by
  unfold badB
  rw [List.any_eq_true]
  constructor
  · rintro ⟨x, hx, h⟩
    simp only [Bool.or_eq_true, beq_iff_eq] at h
    rcases h with rfl | rfl
    · exact .inl hx
    · exact .inr hx
  · rintro (h | h)
    · exact ⟨_, h, rfl⟩
    · exact ⟨_, h, rfl⟩
theorem badB_no {l : List UInt8} : badB l = false ↔ (0 : UInt8) ∉ l ∧ (47 : UInt8) ∉ l := by
  rw [← Bool.not_eq_true, badB_iff, not_or]
/-- None among the first i. -/
def NoneTo (l : List UInt8) (i : Nat) : Prop := ∀ (j : Nat) b, j < i → l[j]? = some b → b ≠ 0 ∧ b ≠ 47
theorem noneTo_all {l : List UInt8} (h : NoneTo l l.length) : badB l = false := by
  rw [badB_no]
  constructor <;> (intro hm; obtain ⟨j, hj, he⟩ := List.getElem_of_mem hm)
  · exact (h j _ hj (List.getElem?_eq_getElem hj)).1 he
  · exact (h j _ hj (List.getElem?_eq_getElem hj)).2 he

/-- An iterator stands at i, and nothing that was there has changed. -/
def IterAt (w w' : World) (s : ByteArray) (i : Nat) : Prop := w'.heap[w.heap.size]? = some (.stringIter s i) ∧ Below w.heap.size w w'
theorem IterAt.start (w : World) (s : ByteArray) : IterAt w (w.iter s 0) s 0 := ⟨World.iter_heap w s 0, below_iter w s 0⟩
theorem IterAt.moved {w w' : World} {s : ByteArray} {i : Nat} (h : IterAt w w' s i) (j : Nat) : IterAt w (w'.iterAt w.heap.size s j) s j := by
  refine ⟨Lib.iterAt_heap w' _ s i j h.1, ?_⟩
  have hb := h.2
  refine ⟨hb.os, hb.tape, hb.output, ?_, fun k hk => ?_⟩
  · have := hb.size; simp [World.iterAt]; omega
  · have h1 := hb.block k hk
    rw [← h1]
    simp only [World.iterAt]
    rw [Array.getElem?_setIfInBounds_ne (by omega)]
theorem IterAt.below {w w' w2 : World} {s : ByteArray} {i : Nat} (h : IterAt w w' s i) (b : Below w'.heap.size w' w2) : IterAt w w2 s i :=
  ⟨by rw [b.block _ (Array.getElem?_eq_some_iff.1 h.1).1]; exact h.1, h.2.trans (b.mono h.2.size)⟩

set_option maxHeartbeats 8000000 in
theorem any_short (s : ByteArray) (w : World) (h8 : s.size ≤ 8) : Calls Tryz.prog 78 #[.string s, .string ⟨#[0, 47]⟩] w fun e w' => (∃ i : Int, e = .returned (.int .i64 i) ∧ decide (0 ≤ i) = badB s.data.toList) ∧ Below w.heap.size w w' := by
  have fin : ∀ (i : Int) (w' : World), decide (0 ≤ i) = badB s.data.toList → Below w.heap.size w w' → (∃ j : Int, Ending.returned (.int .i64 i) = .returned (.int .i64 j) ∧ decide (0 ≤ j) = badB s.data.toList) ∧ Below w.heap.size w w' := fun i w' h1 h2 => ⟨⟨i, rfl, h1⟩, h2⟩
  have HF := Lib.hid fin
  clear fin
  have h8z : decide ((8 : Int) < (s.size : Int)) = false := decide_eq_false (by omega)
  have H8 := Lib.hid h8z
  clear h8z
  go_enter Tryz.func78, Tryz.ntmps78
  go_wp2_with fail
  refine (Tryz.strings_shouldUseASCIISet _ _).mono ?_
  rintro e w' ⟨rfl, rfl⟩
  rw [H8.out]
  go_wp2_with fail
  go_loopg [9, 10] s.size (fun g _ _ wx => ∃ i : Nat, i + g = s.size ∧ IterAt w' wx s i ∧ NoneTo s.data.toList i)
  case atStart => exact ⟨0, by omega, IterAt.start w' s, fun j b hj => absurd hj (Nat.not_lt_zero _)⟩
  case round =>
    obtain ⟨i, hig, hit, hno⟩ := hrel
    have HNO := Lib.hid hno
    have HIT := Lib.hid hit
    clear hno
    cases gk with
    | zero =>
      obtain rfl : i = s.size := by omega
      have hnx := fun ty => Lib.run_next_end_at (P := Tryz.prog) wr w'.heap.size s s.size ty hit.1 (by omega)
      have HB : Hid (badB s.data.toList = false) := noneTo_all (by rw [← Lib.size_eq]; exact HNO.out)
      clear hit
      go_wp2
      go_ret
      exact HF.out _ _ (by rw [HB.out]; rfl) HIT.out.2
    | succ g =>
      have hi : i < s.size := by omega
      have hself : s.data.toList[i]? = some (s[i]'hi) := Lib.data_getElem? s i hi
      by_cases ha : (s[i]'hi).toNat < 128
      · have hnx := fun ty => Lib.run_next_ascii_at (P := Tryz.prog) wr w'.heap.size s i ty hit.1 hi ha
        obtain ⟨x, hx⟩ : ∃ x : UInt8, s[i]'hi = x := ⟨_, rfl⟩
        rw [hx] at hnx hself ha
        have Hx := Lib.hid hself
        have hback : ((x.toNat : Int)).toNat.toUInt8 = x := by simp
        have HBK := Lib.hid hback
        have HIM := Lib.hid (hit.moved (i + 1))
        clear hself hx hback hit
        by_cases hbad : x = 0 ∨ x = 47
        · have hge : (0 : Int) ≤ Lib.indexByte [0, 47] x := by rcases hbad with rfl | rfl <;> decide
          have HB : Hid (badB s.data.toList = true) := badB_iff.2 (by
            have hm : x ∈ s.data.toList := List.mem_of_getElem? Hx.out
            rcases hbad with rfl | rfl
            · exact .inl hm
            · exact .inr hm)
          clear hbad
          go_wp2_with (go_at_call 106; refine (Tryz.strings_IndexRune_ascii _ _ _ (by omega) (by omega)).mono ?_; rintro e w2 ⟨rfl, hw⟩; rw [hw, HBK.out])
          go_ret
          exact HF.out _ _ (by rw [HB.out]; simp) HIM.out.2
        · have hlt : ¬ (0 : Int) ≤ Lib.indexByte [0, 47] x := by
            have h1 : ¬ 0 = x := fun e => hbad (.inl e.symm)
            have h2 : ¬ 47 = x := fun e => hbad (.inr e.symm)
            simp [Lib.indexByte, h1, h2]
          have HN : Hid (NoneTo s.data.toList (i + 1)) := fun j b hj hb => by
            by_cases e : j = i
            · subst e
              rw [Hx.out] at hb
              cases hb
              exact ⟨fun h => hbad (.inl h), fun h => hbad (.inr h)⟩
            · exact HNO.out j b (by omega) hb
          clear hbad
          go_wp2_with (go_at_call 106; refine (Tryz.strings_IndexRune_ascii _ _ _ (by omega) (by omega)).mono ?_; rintro e w2 ⟨rfl, hw⟩; rw [hw, HBK.out])
          go_roundg g
          case measure => omega
          case rel => exact ⟨i + 1, by omega, HIM.out, HN.out⟩
      · have ha2 : 128 ≤ (s[i]'hi).toNat := by omega
        obtain ⟨d1, d2⟩ := decode_high s i hi ha2
        have d3 := decode_le s i
        have dc := decode_cont s i hi ha2
        have hnx := fun ty => Lib.run_next_any_at (P := Tryz.prog) wr w'.heap.size s i ty hit.1 hi
        have hget : ∀ k, i + k < s.size → s.data.toList[i + k]? = some (s.get! (i + k)) := fun k hk => by
          have h1 := Lib.data_getElem? s (i + k) hk
          rw [h1]
          simp [ByteArray.get!, getElem!_pos, hk]
          rfl
        obtain ⟨r, hr⟩ : ∃ r, (Utf8.decode s i).1 = r := ⟨_, rfl⟩
        obtain ⟨n, hn⟩ : ∃ n, (Utf8.decode s i).2 = n := ⟨_, rfl⟩
        rw [hr, hn] at hnx
        rw [hr] at d1 d3
        rw [hn] at d2 dc
        have hle : i + n ≤ s.size := by
          by_cases h1 : n = 1
          · omega
          · have := (dc (n - 1) (by omega) (by omega)).1
            omega
        have HN : Hid (NoneTo s.data.toList (i + n)) := fun j b hj hb => by
          by_cases e : j < i
          · exact HNO.out j b e hb
          · obtain ⟨k, rfl⟩ : ∃ k, j = i + k := ⟨j - i, by omega⟩
            by_cases hk : k = 0
            · subst hk
              rw [Nat.add_zero, hself] at hb
              cases hb
              constructor <;> (intro e; rw [e] at ha2; revert ha2; decide)
            · have h1 := dc k (by omega) (by omega)
              rw [hget k h1.1] at hb
              have hb' := Option.some.inj hb
              have h2 := h1.2
              rw [hb'] at h2
              constructor <;> (intro e; rw [e] at h2; revert h2; decide)
        have HR : Hid (∀ W : World, Calls Tryz.prog 106 #[.string ⟨#[0, 47]⟩, .int .i32 r] W fun e w2 => e = .returned (.int .i64 (-1)) ∧ Below W.heap.size W w2) := fun W => rune_high r W (by omega) (by omega)
        have HIM := Lib.hid (hit.moved (i + n))
        clear hr hn dc hget hself ha ha2 hit
        go_wp2_with fail
        refine (HR.out _).mono ?_
        rintro e w2 ⟨rfl, c2⟩
        have HIN := Lib.hid (HIM.out.below c2)
        clear c2
        go_wp2
        go_roundg (s.size - (i + n))
        case measure => omega
        case rel => exact ⟨i + n, by omega, HIN.out, HN.out⟩
end Go.Proofs.YtgakidimipipeaaGreat
