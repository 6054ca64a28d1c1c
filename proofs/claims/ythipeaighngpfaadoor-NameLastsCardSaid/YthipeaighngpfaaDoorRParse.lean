/- A path parsed, byte by byte, by the document's walk. -/
import Derived.Test.YthipeaighngpfaaDoorPParse3
namespace Go.Proofs.YthipeaighngpfaaDoor
open Go.RowKit Go.Sort
set_option linter.unusedVariables false
set_option linter.unusedSimpArgs false
set_option maxRecDepth 100000

/-- The bytes from f to i. -/
def curL (l : Bs) (f i : Nat) : Bs := (l.drop f).take (i - f)
theorem curL_none (l : Bs) (f : Nat) : curL l f f = [] := by unfold curL; simp
theorem curL_more {l : Bs} {f i : Nat} {c : UInt8} (hf : f ≤ i) (hc : l[i]? = some c) : curL l f (i + 1) = curL l f i ++ [c] := by
  unfold curL
  have e : i + 1 - f = (i - f) + 1 := by omega
  have h : (l.drop f)[i - f]? = some c := by rw [List.getElem?_drop, show f + (i - f) = i by omega]; exact hc
  rw [e, List.take_add_one, h]; rfl
/-- Where the bytes stand: pieces that are through, one under way. -/
def Under (l : Bs) (D : List Bs) (f i : Nat) : Prop := (i ≤ l.length ∧ f ≤ i ∧ pieces l = D ++ cutP (curL l f i) (l.drop i)) ∨ (i = l.length + 1 ∧ pieces l = D)
theorem under_start (l : Bs) : Under l [] 0 0 := .inl ⟨Nat.zero_le _, Nat.le_refl _, by rw [curL_none]; rfl⟩
theorem under_other {l : Bs} {D : List Bs} {f i : Nat} {c : UInt8} (h : Under l D f i) (hc : l[i]? = some c) (hne : c ≠ 47) : Under l D f (i + 1) := by
  have hlt := (List.getElem?_eq_some_iff.1 hc).1
  rcases h with ⟨h1, h2, h3⟩ | ⟨h1, _⟩
  · refine .inl ⟨hlt, by omega, ?_⟩
    have e : l.drop i = c :: l.drop (i + 1) := by rw [List.drop_eq_getElem_cons hlt, ← (List.getElem?_eq_some_iff.1 hc).2]
    rw [h3, e, cutP_other hne, curL_more h2 hc]
  · omega
theorem under_slash {l : Bs} {D : List Bs} {f i : Nat} (h : Under l D f i) (hc : l[i]? = some 47) : Under l (D ++ [curL l f i]) (i + 1) (i + 1) := by
  have hlt := (List.getElem?_eq_some_iff.1 hc).1
  rcases h with ⟨h1, h2, h3⟩ | ⟨h1, _⟩
  · refine .inl ⟨hlt, Nat.le_refl _, ?_⟩
    have e : l.drop i = 47 :: l.drop (i + 1) := by rw [List.drop_eq_getElem_cons hlt, ← (List.getElem?_eq_some_iff.1 hc).2]
    rw [h3, e, cutP_slash, curL_none]; simp
  · omega
theorem under_end {l : Bs} {D : List Bs} {f : Nat} (h : Under l D f l.length) : Under l (D ++ [curL l f l.length]) (l.length + 1) (l.length + 1) := by
  rcases h with ⟨h1, h2, h3⟩ | ⟨h1, _⟩
  · refine .inr ⟨rfl, ?_⟩
    rw [h3, List.drop_length]; rfl
  · omega
theorem under_mem {l : Bs} {D : List Bs} {f i : Nat} (h : Under l (D ++ [curL l f i]) (i + 1) (i + 1)) : curL l f i ∈ pieces l ∧ ∃ E, pieces l = D ++ [curL l f i] ++ E := by
  rcases h with ⟨_, _, h3⟩ | ⟨_, h3⟩
  · exact ⟨by rw [h3]; simp, _, h3⟩
  · exact ⟨by rw [h3]; simp, [], by rw [h3, List.append_nil]⟩
theorem parts_many {l : Bs} {D : List Bs} {p : Bs} {E : List Bs} (h : pieces l = D ++ [p] ++ E) (hk : keptB p = true) (h32 : (keepL D).length = 32) : 32 < (partsOf l).length := by
  unfold partsOf
  rw [h]
  have : keepL (D ++ [p] ++ E) = keepL D ++ [p] ++ keepL E := by unfold keepL; simp [hk]
  rw [this]
  simp only [List.length_append, List.length_cons, List.length_nil]
  omega
theorem under_done {l : Bs} {D : List Bs} {f i : Nat} (h : Under l D f i) (hi : ¬ i ≤ l.length) : pieces l = D := by
  rcases h with ⟨h1, _⟩ | ⟨_, h3⟩
  · exact absurd h1 hi
  · exact h3
theorem under_le {l : Bs} {D : List Bs} {f i : Nat} (h : Under l D f i) : i ≤ l.length + 1 ∧ (i ≤ l.length → f ≤ i) := by
  rcases h with ⟨h1, h2, _⟩ | ⟨h1, _⟩
  · exact ⟨by omega, fun _ => h2⟩
  · exact ⟨by omega, fun h => by omega⟩
theorem extract_cur {s : ByteArray} {l : Bs} (h : s.data.toList = l) (f i : Nat) : (s.extract f i).data.toList = curL l f i := by
  rw [Lib.extract_data, h]; rfl
/-- None of the first i is a nought. -/
def NoNul (l : Bs) (i : Nat) : Prop := ∀ j, j < i → l[j]? ≠ some 0
theorem noNul_all {l : Bs} (h : NoNul l l.length) : (0 : UInt8) ∉ l := fun hm => by
  obtain ⟨j, hj, he⟩ := List.getElem_of_mem hm
  exact h j hj (by rw [List.getElem?_eq_getElem hj, he])

/-- Where the document's loop stands. -/
def RLoop (T : TypeId) (l : Bs) (w1 wr : World) (ab : Bool) (i f : Nat) (y : ByteArray) (v : Value) (D : List Bs) : Prop :=
  Under l D f i ∧ y.data.toList = lastNE D ∧ InLoop T w1 wr ab false v D ∧ (keepL D).length ≤ 32
/-- The box of the path, written in its second cell. -/
theorem dir_set {T : TypeId} {w1 wr : World} {ab : Bool} {v : Value} {D : List Bs} (h : InLoop T w1 wr ab false v D) (d : Bool) :
    (wr.setCell ⟨w1.heap.size, 1, none⟩ (.bool d)).heap[w1.heap.size]? = some (.cells #[.bool ab, .bool d, v] T (0, 0)) ∧ OwnsV (w1.heap.size + 1) (wr.setCell ⟨w1.heap.size, 1, none⟩ (.bool d)) 9 v (strsV (keepL D)) ∧
    (∀ k, k ≠ w1.heap.size → (wr.setCell ⟨w1.heap.size, 1, none⟩ (.bool d)).heap[k]? = wr.heap[k]?) := by
  obtain ⟨h1, h2, h3, h4⟩ := h
  refine ⟨?_, ?_, ?_⟩
  · have := heap_setCell_same wr w1.heap.size 1 _ T (.bool d) h1
    simpa using this
  · exact h2.kept (row := some w1.heap.size) ⟨rfl, rfl, rfl, by simp, fun i _ hi => heap_setCell_other wr ⟨w1.heap.size, 1, none⟩ i (.bool d) (fun e => hi (by simp [e]))⟩ (.inr fun e => by have := (h2.lt _ e).1; omega)
  · intro k hk
    exact heap_setCell_other wr ⟨w1.heap.size, 1, none⟩ k (.bool d) hk
theorem lastNE_pieces_tests {y : ByteArray} {p : Bs} (h : y.data.toList = p) : (y.toList == [46]) = (p == [46]) ∧ (y.toList == [46, 46]) = (p == [46, 46]) := by
  rw [txt_tests h]; exact ⟨rfl, rfl⟩

set_option maxHeartbeats 25600000 in
theorem rparse_is (s : ByteArray) (w : World) (hs : s.size ≤ 400) : Calls Tryd.prog 30 #[.string s] w (ParsePost s.data.toList w) := by
  obtain ⟨l, hl⟩ : ∃ l, s.data.toList = l := ⟨_, rfl⟩
  rw [hl]
  have HL := Lib.hid hl
  have hsz : s.size = l.length := by rw [Lib.size_eq, hl]
  obtain ⟨n, hn⟩ : ∃ n, s.size = n := ⟨_, rfl⟩
  have hnl : l.length = n := by rw [← hsz, hn]
  have HN := Lib.hid hn
  have HNL := Lib.hid hnl
  have hget : ∀ i (h : i < s.size), l[i]? = some (s[i]'h) := fun i h => by rw [← hl]; exact Lib.data_getElem? s i h
  have HG := Lib.hid hget
  clear hl hsz hn hnl hget
  go_enter Tryd.func30, Tryd.ntmps30
  go_wp2
  go_loop [4] (fun i => ∃ k : Nat, k ≤ s.size ∧ i = .int .i64 k ∧ NoNul l k) (fun i => s.size - (intOf i).toNat)
  case atStart => exact ⟨0, Nat.zero_le _, rfl, fun j hj => absurd hj (Nat.not_lt_zero _)⟩
  case round =>
    obtain ⟨k, hk, rfl, hno⟩ := hrel
    have HNO := Lib.hid hno
    clear hno
    by_cases hlt : k < s.size
    · obtain ⟨c, hc⟩ : ∃ c : UInt8, s[k]'hlt = c := ⟨_, rfl⟩
      have hgc := HG.out k hlt
      rw [hc] at hgc
      have HGC := Lib.hid hgc
      clear hgc
      by_cases h0 : c = 0
      · subst h0
        have HPE : Hid (parseE l = 1) := parseE_nul (List.mem_of_getElem? HGC.out)
        go_wp2
        refine bodyPost_ret (v := .tuple #[.agg #[.bool false, .bool false, .slice none 0 0], .int .i64 1]) (by simp [results, Tryd.results30, go_sem]) rfl (fin_no HPE.out (by decide) ?_)
        exact below_box w _
      · have h0b : ((c.toNat : Int) == 0) = false := by
          have : c.toNat ≠ 0 := fun e => h0 (UInt8.toNat_inj.1 e)
          simp; omega
        have HNN : Hid (NoNul l (k + 1)) := fun j hj => by
          by_cases e : j = k
          · subst e; rw [HGC.out]; intro hh; exact h0 (Option.some.inj hh)
          · exact HNO.out j (by omega)
        clear h0
        go_wp2
        go_round
        case rel => exact ⟨k + 1, by omega, by go_num, HNN.out⟩
        case measure => simp [intOf]; omega
    · have hks : k = s.size := by omega
      have h0 : (0 : UInt8) ∉ l := noNul_all (by rw [HNL.out, ← HN.out, ← hks]; exact HNO.out)
      have H0 := Lib.hid h0
      have hge : ¬ ((k : Int) < (s.size : Int)) := by omega
      clear hks h0 HNO hlt hk
      by_cases hl0 : l = []
      · have HPE := Lib.hid (parseE_none H0.out hl0)
        have hz : s.size = 0 := by have h1 := HN.out; have h2 := HNL.out; rw [hl0] at h2; simp at h2; omega
        have hzb : ((s.size : Int) == 0) = true := by rw [hz]; rfl
        clear hz hl0
        go_wp2
        refine bodyPost_ret (v := .tuple #[.agg #[.bool false, .bool false, .slice none 0 0], .int .i64 4]) (by simp [results, Tryd.results30, go_sem]) rfl (fin_no HPE.out (by decide) ?_)
        exact below_box w _
      · have hz : 0 < s.size := by
          have h1 := HN.out; have h2 := HNL.out
          cases l with
          | nil => exact absurd rfl hl0
          | cons => simp at h2; omega
        have hzb : ((s.size : Int) == 0) = false := beq_eq_false_iff_ne.2 (by omega)
        have HL0 := Lib.hid hl0
        clear hl0
        by_cases h255 : 255 < s.size
        · have HPE := Lib.hid (parseE_long H0.out HL0.out (by have h1 := HN.out; have h2 := HNL.out; omega))
          have h255' : (255 : Int) < (s.size : Int) := by omega
          go_wp2
          refine bodyPost_ret (v := .tuple #[.agg #[.bool false, .bool false, .slice none 0 0], .int .i64 9]) (by simp [results, Tryd.results30, go_sem]) rfl (fin_no HPE.out (by decide) ?_)
          exact below_box w _
        · have h255' : ¬ (255 : Int) < (s.size : Int) := by omega
          have HRE : Hid (refE l = 0) := by show _ = _; unfold refE; rw [if_neg H0.out, if_neg HL0.out, if_neg (by have h1 := HN.out; have h2 := HNL.out; omega)]
          -- the first byte
          obtain ⟨c0, hc0⟩ : ∃ c : UInt8, s[0]'hz = c := ⟨_, rfl⟩
          have hg0 := HG.out 0 hz
          rw [hc0] at hg0
          obtain ⟨ab, hab⟩ : ∃ ab, absB l = ab := ⟨_, rfl⟩
          have habc : ((c0.toNat : Int) == 47) = ab := by
            rw [← hab]
            unfold absB
            rw [List.head?_eq_getElem?, hg0]
            by_cases h : c0 = 47
            · subst h; rfl
            · have h1 : c0.toNat ≠ 47 := fun e => h (UInt8.toNat_inj.1 e)
              have a1 : ((c0.toNat : Int) == 47) = false := by simp; omega
              rw [a1]; simp [h]
          have HAB := Lib.hid hab
          -- the last byte
          obtain ⟨m, hm⟩ : ∃ m, s.size = m + 1 := ⟨s.size - 1, by omega⟩
          have hmm : m < s.size := by omega
          obtain ⟨cl, hcl⟩ : ∃ c : UInt8, s[m]'hmm = c := ⟨_, rfl⟩
          have hgl := HG.out m hmm
          rw [hcl] at hgl
          have hlast : ∃ M, l = M ++ [cl] := by
            have h2 := HNL.out
            have h1 := HN.out
            refine ⟨l.dropLast, ?_⟩
            have h3 := (List.dropLast_concat_getLast HL0.out).symm
            have h4 : l.getLast HL0.out = cl := by
              rw [List.getLast_eq_getElem]
              have h5 : l.length - 1 = m := by omega
              have h6 := (List.getElem?_eq_some_iff.1 hgl).2
              simp only [h5]; exact h6
            rw [h4] at h3; exact h3
          have HLAST := Lib.hid hlast
          have HM := Lib.hid hm
          clear hab hg0 hgl hlast hm
          go_wp2
          go_loopw [6, 7, 8] (fun vf vy vi wr => ∃ (i f : Nat) (y : ByteArray) (v : Value) (D : List Bs), vi = .int .i64 i ∧ vf = .int .i64 f ∧ vy = .string y ∧ RLoop 60 l (w.alloc (.cells #[.bool false, .bool false, .slice none 0 0] 60)) wr ab i f y v D) (fun _ _ vi _ => s.size + 1 - (intOf vi).toNat)
          case atStart => exact ⟨0, 0, _, _, [], rfl, rfl, rfl, under_start l, rfl, inLoop_start _ _ _ _, Nat.zero_le _⟩
          case round =>
            obtain ⟨i, f, y, v, D, rfl, rfl, rfl, hR⟩ := hrel
            have HR := Lib.hid hR
            obtain ⟨hU, hy, hI, h32⟩ := hR
            obtain ⟨hi1, hi2⟩ := under_le hU
            have hnn : l.length = s.size := by have h1 := HN.out; have h2 := HNL.out; omega
            rw [hnn] at hi1 hi2
            have HNN := Lib.hid hnn
            obtain ⟨a, cp, hv, _, hcp1, hcp2⟩ := hI.2.1.reads
            rw [strsV_length] at hv hcp1
            subst hv
            have hws : (w.alloc (.cells #[.bool false, .bool false, .slice none 0 0] 60)).heap.size = w.heap.size + 1 := by simp
            have hpw : wr.heap[w.heap.size + 1]? = some (.cells #[.bool ab, .bool false, .slice a (keepL D).length cp] 60 (0, 0)) := by have := hI.1; rwa [hws] at this
            have hrw : wr.heap[w.heap.size]? = some (.cells #[.bool false, .bool false, .slice none 0 0] 60 (0, 0)) := by
              rw [hI.2.2.1.block _ (by rw [hws]; omega)]; exact heap_alloc_new w _
            have hBW : Below w.heap.size w wr := (below_box w _).trans (hI.2.2.1.mono (by rw [hws]; omega))
            have HBW := Lib.hid hBW
            have HRW := Lib.hid hrw
            have HWS := Lib.hid hws
            obtain ⟨c0, c1, c2, f0, f1, f2, hz1⟩ := kept3_of (t := 60) hpw
            obtain ⟨r0, r1, r2, g0, g1, g2, hzr⟩ := kept3_of (t := 60) hrw
            have hz1' : w.heap.size + 1 < wr.heap.size := hz1
            have hzr' : w.heap.size < wr.heap.size := hzr
            clear hU hy hI hnn hws hpw hrw hBW hz1 hzr
            by_cases hi : i ≤ s.size
            · have hfi := hi2 hi
              have hi' : (i : Int) ≤ (s.size : Int) := by omega
              have hfi' : (f : Int) ≤ (i : Int) := by omega
              clear hi2
              by_cases hlt : i < s.size
              · have hlt' : (i : Int) < (s.size : Int) := by omega
                obtain ⟨c, hc⟩ : ∃ c : UInt8, s[i]'hlt = c := ⟨_, rfl⟩
                have hgc := HG.out i hlt
                rw [hc] at hgc
                have HGC := Lib.hid hgc
                clear hgc
                by_cases h47 : c = 47
                · have h47b : ((c.toNat : Int) != 47) = false := by subst h47; rfl
                  have HU : Hid (Under l (D ++ [curL l f i]) (i + 1) (i + 1)) := under_slash HR.out.1 (by rw [HGC.out, h47])
                  clear h47
                  -- a piece is through
                  have HPM := Lib.hid (under_mem HU.out)
                  obtain ⟨x, hx⟩ : ∃ x, s.extract f i = x := ⟨_, rfl⟩
                  obtain ⟨p, hp⟩ : ∃ p, curL l f i = p := ⟨_, rfl⟩
                  have hxl : x.data.toList = p := by rw [← hx, ← hp]; exact extract_cur HL.out f i
                  rw [hp] at HU HPM
                  have hxt := txt_tests hxl
                  have hxsz : x.size = p.length := by rw [Lib.size_eq, hxl]
                  have HXL := Lib.hid hxl
                  have HXS := Lib.hid hxsz
                  clear hp hxl hxsz
                  cases hk : keptB p with
                  | false =>
                    have hk2 : (p = [] ∧ x.toList = []) ∨ (p = [46] ∧ x.toList.isEmpty = false ∧ ¬ x.toList = [] ∧ (x.toList == [46]) = true) := by
                      rw [hxt]
                      unfold keptB at hk
                      by_cases h1 : p = []
                      · exact .inl ⟨h1, h1⟩
                      · right
                        have : p = [46] := by simpa [h1] using hk
                        rw [this]; exact ⟨rfl, rfl, by simp, rfl⟩
                    have HK := Lib.hid hk
                    clear hk hxt
                    rcases hk2 with ⟨rfl, k1⟩ | ⟨rfl, k1, k2, k3⟩
                    · have HRN : Hid (RLoop 60 l (w.alloc (.cells #[.bool false, .bool false, .slice none 0 0] 60)) wr ab (i + 1) (i + 1) y (.slice a (keepL D).length cp) (D ++ [[]])) :=
                        ⟨HU.out, by rw [lastNE_snoc_no]; exact HR.out.2.1, inLoop_skip HR.out.2.2.1 HK.out, by rw [keepL_snoc_no HK.out]; exact HR.out.2.2.2⟩
                      go_wp2
                      go_roundw
                      case rel => exact ⟨i + 1, i + 1, y, _, _, by go_num, by go_num, rfl, HRN.out⟩
                      case measure => simp [intOf]; omega
                    · have HRN : Hid (RLoop 60 l (w.alloc (.cells #[.bool false, .bool false, .slice none 0 0] 60)) wr ab (i + 1) (i + 1) x (.slice a (keepL D).length cp) (D ++ [[46]])) :=
                        ⟨HU.out, by rw [lastNE_snoc_yes (by simp)]; exact HXL.out, inLoop_skip HR.out.2.2.1 HK.out, by rw [keepL_snoc_no HK.out]; exact HR.out.2.2.2⟩
                      go_wp2
                      go_roundw
                      case rel => exact ⟨i + 1, i + 1, x, _, _, by go_num, by go_num, rfl, HRN.out⟩
                      case measure => simp [intOf]; omega
                  | true =>
                    obtain ⟨k1, k2⟩ := keptB_iff.1 hk
                    have t1 : ¬ x.toList = [] := by rw [hxt]; exact k1
                    have t2 : x.toList.isEmpty = false := by cases h : x.toList with | nil => exact absurd h t1 | cons => rfl
                    have t3 : (x.toList == [46]) = false := by rw [hxt]; simp [k2]
                    have HK := Lib.hid hk
                    have HK1 := Lib.hid k1
                    clear k1 k2 hk hxt
                    by_cases h26 : 26 < x.size
                    · have h26' : (26 : Int) < (x.size : Int) := by omega
                      have HPE := Lib.hid (parse_long HRE.out HPM.out.1 HK.out (by rw [← HXS.out]; exact h26))
                      obtain ⟨o0, o1, o2⟩ := box_over HRW.out (.bool false) (.bool false) (.slice none 0 0)
                      go_wp2
                      refine bodyPost_ret (v := .tuple #[.agg #[.bool false, .bool false, .slice none 0 0], .int .i64 9]) (by simp [results, Tryd.results30, go_sem, o0, o1, o2]) rfl (fin_no HPE.out (by decide) ?_)
                      exact below_over HBW.out (Nat.le_refl _) _ _ _
                    · have h26' : ¬ (26 : Int) < (x.size : Int) := by omega
                      by_cases h32 : (keepL D).length = 32
                      · have h32' : (((keepL D).length : Int) == 32) = true := by rw [h32]; rfl
                        have HPE := Lib.hid (parse_many HRE.out (parts_many HPM.out.2.choose_spec HK.out h32))
                        obtain ⟨o0, o1, o2⟩ := box_over HRW.out (.bool false) (.bool false) (.slice none 0 0)
                        clear h32
                        go_wp2
                        refine bodyPost_ret (v := .tuple #[.agg #[.bool false, .bool false, .slice none 0 0], .int .i64 9]) (by simp [results, Tryd.results30, go_sem, o0, o1, o2]) rfl (fin_no HPE.out (by decide) ?_)
                        exact below_over HBW.out (Nat.le_refl _) _ _ _
                      · have h32' : (((keepL D).length : Int) == 32) = false := beq_eq_false_iff_ne.2 (by omega)
                        have H32 := Lib.hid h32
                        have HI3 := Lib.hid (inLoop_below HR.out.2.2.1 (below_box wr (.cells #[.string x] 9)))
                        have HRD : Hid (ReadsV (wr.alloc (.cells #[.string x] 9)) (some ⟨wr.heap.size, 0, none⟩) 1 (strsV [p])) := by
                          have h1 := ReadsV.lit wr #[.string x] 9
                          have e : [Value.string x] = strsV [p] := by rw [← strV_of x, HXL.out]; rfl
                          have h2 : (#[Value.string x] : Array Value).toList = strsV [p] := e
                          rw [h2] at h1
                          exact h1
                        have HLEN : Hid ((keepL D).length ≤ 32) := HR.out.2.2.2
                        have HBS : Hid ((w.alloc (.cells #[.bool false, .bool false, .slice none 0 0] 60)).heap.size + 1 ≤ (wr.alloc (.cells #[.string x] 9)).heap.size) := by show _ ≤ _; rw [HWS.out]; simp; omega
                        clear r0 r1 r2 g0 g1 g2 h32
                        go_wp2_with (at_builtin; refine wpList_append_vals rfl _ _ _ rfl ((w.alloc (.cells #[.bool false, .bool false, .slice none 0 0] 60)).heap.size + 1) 9 _ 16 Tryd.underlying55 info_str rfl _ (strsV (keepL D)) rfl HI3.out.2.1 (some ⟨wr.heap.size, 0, none⟩) 1 1 rfl (strsV [p]) HRD.out (strsV_one [p]) (by have := HLEN.out; rw [strsV_length]; omega) (by have := HLEN.out; unfold maxLen; rw [strsV_length]; omega) HBS.out ?_; intro v4 w4 h1' h2'; have hadd := inLoop_add HI3.out HK.out (by have := HXS.out; omega) h1' h2'; have hrow4 := row_grown HI3.out h2'; rw [HWS.out] at hrow4; obtain ⟨a4, cp4, hv4, _, _, _⟩ := OwnsV.reads h1'; obtain ⟨n4, hn4⟩ : ∃ n4, (strsV (keepL D) ++ strsV [p]).length = n4 := ⟨_, rfl⟩; rw [hn4] at hv4; clear hn4; subst hv4; have hsp := HWS.out; have HADD := Lib.hid hadd; rw [hsp] at HADD; obtain ⟨x0, x1, x2, y0, y1, y2, yz⟩ := kept3_of (t := 60) hrow4; clear h1' h2' hadd hrow4 hsp)
                        go_roundw
                        case rel => exact ⟨i + 1, i + 1, x, _, _, by go_num, by go_num, rfl, HU.out, by rw [lastNE_snoc_yes HK1.out]; exact HXL.out, HADD.out, by rw [keepL_snoc_yes HK.out, List.length_append]; have := HLEN.out; have := H32.out; simp; omega⟩
                        case measure => simp [intOf]; omega
                · have h47b : ((c.toNat : Int) != 47) = true := by
                    have h1 : c.toNat ≠ 47 := fun e => h47 (UInt8.toNat_inj.1 e)
                    have : ((c.toNat : Int)) ≠ 47 := by omega
                    simp [this]
                  have HU := Lib.hid (under_other HR.out.1 HGC.out h47)
                  clear h47
                  go_wp2
                  go_roundw
                  case rel => exact ⟨i + 1, f, y, _, D, by go_num, rfl, rfl, HU.out, HR.out.2⟩
                  case measure => simp [intOf]; omega
              · have hlt' : ¬ (i : Int) < (s.size : Int) := by omega
                have HU : Hid (Under l (D ++ [curL l f i]) (i + 1) (i + 1)) := by
                  have e : i = l.length := by have := HNN.out; omega
                  have h1 := HR.out.1
                  rw [e] at h1 ⊢
                  exact under_end h1
                -- a piece is through
                have HPM := Lib.hid (under_mem HU.out)
                obtain ⟨x, hx⟩ : ∃ x, s.extract f i = x := ⟨_, rfl⟩
                obtain ⟨p, hp⟩ : ∃ p, curL l f i = p := ⟨_, rfl⟩
                have hxl : x.data.toList = p := by rw [← hx, ← hp]; exact extract_cur HL.out f i
                rw [hp] at HU HPM
                have hxt := txt_tests hxl
                have hxsz : x.size = p.length := by rw [Lib.size_eq, hxl]
                have HXL := Lib.hid hxl
                have HXS := Lib.hid hxsz
                clear hp hxl hxsz
                cases hk : keptB p with
                | false =>
                  have hk2 : (p = [] ∧ x.toList = []) ∨ (p = [46] ∧ x.toList.isEmpty = false ∧ ¬ x.toList = [] ∧ (x.toList == [46]) = true) := by
                    rw [hxt]
                    unfold keptB at hk
                    by_cases h1 : p = []
                    · exact .inl ⟨h1, h1⟩
                    · right
                      have : p = [46] := by simpa [h1] using hk
                      rw [this]; exact ⟨rfl, rfl, by simp, rfl⟩
                  have HK := Lib.hid hk
                  clear hk hxt
                  rcases hk2 with ⟨rfl, k1⟩ | ⟨rfl, k1, k2, k3⟩
                  · have HRN : Hid (RLoop 60 l (w.alloc (.cells #[.bool false, .bool false, .slice none 0 0] 60)) wr ab (i + 1) (i + 1) y (.slice a (keepL D).length cp) (D ++ [[]])) :=
                      ⟨HU.out, by rw [lastNE_snoc_no]; exact HR.out.2.1, inLoop_skip HR.out.2.2.1 HK.out, by rw [keepL_snoc_no HK.out]; exact HR.out.2.2.2⟩
                    go_wp2
                    go_roundw
                    case rel => exact ⟨i + 1, i + 1, y, _, _, by go_num, by go_num, rfl, HRN.out⟩
                    case measure => simp [intOf]; omega
                  · have HRN : Hid (RLoop 60 l (w.alloc (.cells #[.bool false, .bool false, .slice none 0 0] 60)) wr ab (i + 1) (i + 1) x (.slice a (keepL D).length cp) (D ++ [[46]])) :=
                      ⟨HU.out, by rw [lastNE_snoc_yes (by simp)]; exact HXL.out, inLoop_skip HR.out.2.2.1 HK.out, by rw [keepL_snoc_no HK.out]; exact HR.out.2.2.2⟩
                    go_wp2
                    go_roundw
                    case rel => exact ⟨i + 1, i + 1, x, _, _, by go_num, by go_num, rfl, HRN.out⟩
                    case measure => simp [intOf]; omega
                | true =>
                  obtain ⟨k1, k2⟩ := keptB_iff.1 hk
                  have t1 : ¬ x.toList = [] := by rw [hxt]; exact k1
                  have t2 : x.toList.isEmpty = false := by cases h : x.toList with | nil => exact absurd h t1 | cons => rfl
                  have t3 : (x.toList == [46]) = false := by rw [hxt]; simp [k2]
                  have HK := Lib.hid hk
                  have HK1 := Lib.hid k1
                  clear k1 k2 hk hxt
                  by_cases h26 : 26 < x.size
                  · have h26' : (26 : Int) < (x.size : Int) := by omega
                    have HPE := Lib.hid (parse_long HRE.out HPM.out.1 HK.out (by rw [← HXS.out]; exact h26))
                    obtain ⟨o0, o1, o2⟩ := box_over HRW.out (.bool false) (.bool false) (.slice none 0 0)
                    go_wp2
                    refine bodyPost_ret (v := .tuple #[.agg #[.bool false, .bool false, .slice none 0 0], .int .i64 9]) (by simp [results, Tryd.results30, go_sem, o0, o1, o2]) rfl (fin_no HPE.out (by decide) ?_)
                    exact below_over HBW.out (Nat.le_refl _) _ _ _
                  · have h26' : ¬ (26 : Int) < (x.size : Int) := by omega
                    by_cases h32 : (keepL D).length = 32
                    · have h32' : (((keepL D).length : Int) == 32) = true := by rw [h32]; rfl
                      have HPE := Lib.hid (parse_many HRE.out (parts_many HPM.out.2.choose_spec HK.out h32))
                      obtain ⟨o0, o1, o2⟩ := box_over HRW.out (.bool false) (.bool false) (.slice none 0 0)
                      clear h32
                      go_wp2
                      refine bodyPost_ret (v := .tuple #[.agg #[.bool false, .bool false, .slice none 0 0], .int .i64 9]) (by simp [results, Tryd.results30, go_sem, o0, o1, o2]) rfl (fin_no HPE.out (by decide) ?_)
                      exact below_over HBW.out (Nat.le_refl _) _ _ _
                    · have h32' : (((keepL D).length : Int) == 32) = false := beq_eq_false_iff_ne.2 (by omega)
                      have H32 := Lib.hid h32
                      have HI3 := Lib.hid (inLoop_below HR.out.2.2.1 (below_box wr (.cells #[.string x] 9)))
                      have HRD : Hid (ReadsV (wr.alloc (.cells #[.string x] 9)) (some ⟨wr.heap.size, 0, none⟩) 1 (strsV [p])) := by
                        have h1 := ReadsV.lit wr #[.string x] 9
                        have e : [Value.string x] = strsV [p] := by rw [← strV_of x, HXL.out]; rfl
                        have h2 : (#[Value.string x] : Array Value).toList = strsV [p] := e
                        rw [h2] at h1
                        exact h1
                      have HLEN : Hid ((keepL D).length ≤ 32) := HR.out.2.2.2
                      have HBS : Hid ((w.alloc (.cells #[.bool false, .bool false, .slice none 0 0] 60)).heap.size + 1 ≤ (wr.alloc (.cells #[.string x] 9)).heap.size) := by show _ ≤ _; rw [HWS.out]; simp; omega
                      clear r0 r1 r2 g0 g1 g2 h32
                      go_wp2_with (at_builtin; refine wpList_append_vals rfl _ _ _ rfl ((w.alloc (.cells #[.bool false, .bool false, .slice none 0 0] 60)).heap.size + 1) 9 _ 16 Tryd.underlying55 info_str rfl _ (strsV (keepL D)) rfl HI3.out.2.1 (some ⟨wr.heap.size, 0, none⟩) 1 1 rfl (strsV [p]) HRD.out (strsV_one [p]) (by have := HLEN.out; rw [strsV_length]; omega) (by have := HLEN.out; unfold maxLen; rw [strsV_length]; omega) HBS.out ?_; intro v4 w4 h1' h2'; have hadd := inLoop_add HI3.out HK.out (by have := HXS.out; omega) h1' h2'; have hrow4 := row_grown HI3.out h2'; rw [HWS.out] at hrow4; obtain ⟨a4, cp4, hv4, _, _, _⟩ := OwnsV.reads h1'; obtain ⟨n4, hn4⟩ : ∃ n4, (strsV (keepL D) ++ strsV [p]).length = n4 := ⟨_, rfl⟩; rw [hn4] at hv4; clear hn4; subst hv4; have hsp := HWS.out; have HADD := Lib.hid hadd; rw [hsp] at HADD; obtain ⟨x0, x1, x2, y0, y1, y2, yz⟩ := kept3_of (t := 60) hrow4; clear h1' h2' hadd hrow4 hsp)
                      go_roundw
                      case rel => exact ⟨i + 1, i + 1, x, _, _, by go_num, by go_num, rfl, HU.out, by rw [lastNE_snoc_yes HK1.out]; exact HXL.out, HADD.out, by rw [keepL_snoc_yes HK.out, List.length_append]; have := HLEN.out; have := H32.out; simp; omega⟩
                      case measure => simp [intOf]; omega
            · have hgt : ¬ (i : Int) ≤ (s.size : Int) := by omega
              have hP := under_done HR.out.1 (by have := HNN.out; omega)
              have hparts : keepL D = partsOf l := by rw [← hP]; rfl
              have HPT := Lib.hid hparts
              obtain ⟨ML, hML⟩ := HLAST.out
              have hdir := dirB_ref hML
              rw [hP, ← HR.out.2.1] at hdir
              have hytt := Lib.toList_data y
              rw [← hytt] at hdir
              have HPE : Hid (parseE l = 0) := parse_ok HRE.out (by rw [← HPT.out]; exact HR.out.2.2.1.2.2.2) (by rw [← HPT.out]; exact HR.out.2.2.2)
              have hclb : ((cl.toNat : Int) == 47) = (cl == 47) := by
                by_cases h : cl = 47
                · subst h; rfl
                · have h1 : cl.toNat ≠ 47 := fun e => h (UInt8.toNat_inj.1 e)
                  have a1 : ((cl.toNat : Int) == 47) = false := beq_eq_false_iff_ne.2 (by omega)
                  rw [a1]; simp [h]
              obtain ⟨q, hq⟩ : ∃ q, (cl == 47) = q := ⟨_, rfl⟩
              rw [hq] at hclb hdir
              have hms : ((s.size : Int) - 1) = (m : Int) := by have := HM.out; omega
              have hd4 : ∃ d, dirB l = d ∧ ((q = true ∧ d = true) ∨ (q = false ∧ (y.toList == [46]) = true ∧ d = true) ∨ (q = false ∧ (y.toList == [46]) = false ∧ (y.toList == [46, 46]) = true ∧ d = true) ∨ (q = false ∧ (y.toList == [46]) = false ∧ (y.toList == [46, 46]) = false ∧ d = false)) := by
                rw [hdir]
                cases q <;> cases (y.toList == [46]) <;> cases (y.toList == [46, 46]) <;> simp
              obtain ⟨d, hd, hd4⟩ := hd4
              have HD := Lib.hid hd
              have HDS := Lib.hid (dir_set HR.out.2.2.1 d)
              have hI1 : (wr.setCell ⟨w.heap.size + 1, 1, none⟩ (.bool d)).heap[w.heap.size + 1]? = some (.cells #[.bool ab, .bool d, .slice a (keepL D).length cp] 60 (0, 0)) := by
                have := HDS.out.1; rwa [HWS.out] at this
              obtain ⟨b0, b1, b2, _, _, _, _⟩ := kept3_of (t := 60) hI1
              have hR1 : (wr.setCell ⟨w.heap.size + 1, 1, none⟩ (.bool d)).heap[w.heap.size]? = some (.cells #[.bool false, .bool false, .slice none 0 0] 60 (0, 0)) := by
                have h1 := HDS.out.2.2 w.heap.size (by rw [HWS.out]; omega)
                rw [HWS.out] at h1
                rw [h1]; exact HRW.out
              obtain ⟨o0, o1, o2⟩ := box_over hR1 (.bool ab) (.bool d) (.slice a (keepL D).length cp)
              have HO : Hid (OwnsV w.heap.size ((((wr.setCell ⟨w.heap.size + 1, 1, none⟩ (.bool d)).setCell ⟨w.heap.size, 0, none⟩ (.bool ab)).setCell ⟨w.heap.size, 1, none⟩ (.bool d)).setCell ⟨w.heap.size, 2, none⟩ (.slice a (keepL D).length cp)) 9 (.slice a (keepL D).length cp) (strsV (partsOf l))) := by
                have h1 := HDS.out.2.1
                rw [HWS.out] at h1
                have h2 := (owns_over h1 (show w.heap.size < w.heap.size + 1 + 1 by omega) (.bool ab) (.bool d) (.slice a (keepL D).length cp)).less (show w.heap.size ≤ w.heap.size + 1 + 1 by omega)
                have e : strsV (keepL D) = strsV (partsOf l) := congrArg strsV HPT.out
                rw [e] at h2
                exact h2
              have HBF : Hid (Below w.heap.size w ((((wr.setCell ⟨w.heap.size + 1, 1, none⟩ (.bool d)).setCell ⟨w.heap.size, 0, none⟩ (.bool ab)).setCell ⟨w.heap.size, 1, none⟩ (.bool d)).setCell ⟨w.heap.size, 2, none⟩ (.slice a (keepL D).length cp))) := below_over (HBW.out.setCell (Nat.le_succ _) _) (Nat.le_refl _) _ _ _
              clear hP hparts hML hdir hytt hq hd hI1 hR1 habc hi
              rcases hd4 with ⟨rfl, rfl⟩ | ⟨rfl, k1, rfl⟩ | ⟨rfl, k1, k2, rfl⟩ | ⟨rfl, k1, k2, rfl⟩
              all_goals
                go_wp2
                refine bodyPost_ret (v := .tuple #[.agg #[.bool ab, .bool _, .slice a (keepL D).length cp], .int .i64 0]) (by simp [results, Tryd.results30, go_sem, o0, o1, o2]) rfl (fin_yes HPE.out HAB.out HD.out HO.out HBF.out)
end Go.Proofs.YthipeaighngpfaaDoor
