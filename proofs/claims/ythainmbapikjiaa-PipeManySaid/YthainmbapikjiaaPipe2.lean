/- A pipe's ring: what it holds; find, room, put, take, Len, by their walks. -/
import Derived.Test.YthainmbapikjiaaPipe1
import Derived.RegionTactic
import Derived.BigQuiet
import Derived.Deep.QuietTactic
namespace Go.Proofs.Ythainmbapikjiaa
open Go.RowKit Go.Sort
set_option linter.unusedVariables false
set_option linter.unusedSimpArgs false
set_option maxRecDepth 100000

/-- A byte more, a byte less; what is in it, the first one first. -/
def putP (s : PipeD) (c : Nat) : PipeD := { s with bs := s.bs.set ((s.first + s.count) % 64) c, count := s.count + 1 }
def takeP (s : PipeD) : PipeD := { s with first := (s.first + 1) % 64, count := s.count - 1 }
def content (s : PipeD) : List Nat := (List.range s.count).map fun k => s.bs.getD ((s.first + k) % 64) 0
theorem content_length (s : PipeD) : (content s).length = s.count := by unfold content; rw [List.length_map, List.length_range]
theorem putP_ok {s : PipeD} (h : okP s) {c : Nat} (hc : c < 256) (hk : s.count < 64) : okP (putP s c) := by
  obtain ⟨h1, h2, h3, h4, h5, h6⟩ := h
  refine ⟨by show (s.bs.set _ _).length = 64; rw [List.length_set, h1], h2, by show s.count + 1 ≤ 64; omega, h4, h5, ?_⟩
  intro x hx
  rcases List.mem_or_eq_of_mem_set hx with hx | rfl
  · exact h6 x hx
  · exact hc
theorem takeP_ok {s : PipeD} (h : okP s) : okP (takeP s) := by
  obtain ⟨h1, h2, h3, h4, h5, h6⟩ := h
  exact ⟨h1, Nat.mod_lt _ (by decide), by show s.count - 1 ≤ 64; omega, h4, h5, h6⟩
theorem content_put {s : PipeD} (h : okP s) (hk : s.count < 64) (c : Nat) : content (putP s c) = content s ++ [c] := by
  have hl := h.1
  have hf := h.2.1
  unfold content
  show (List.range (s.count + 1)).map (fun k => (s.bs.set ((s.first + s.count) % 64) c).getD ((s.first + k) % 64) 0) = _
  rw [List.range_succ, List.map_append, List.map_cons, List.map_nil]
  congr 1
  · refine List.map_congr_left fun k hk2 => ?_
    rw [List.mem_range] at hk2
    have hne : (s.first + s.count) % 64 ≠ (s.first + k) % 64 := by omega
    rw [List.getD_eq_getElem?_getD, List.getD_eq_getElem?_getD, List.getElem?_set_ne hne]
  · rw [List.getD_eq_getElem?_getD, List.getElem?_set_self (by rw [hl]; exact Nat.mod_lt _ (by decide))]
    rfl
theorem content_take {s : PipeD} (h : okP s) (hk : 0 < s.count) : content s = s.bs.getD s.first 0 :: content (takeP s) := by
  have hf := h.2.1
  obtain ⟨m, hm⟩ : ∃ m, s.count = m + 1 := ⟨s.count - 1, by omega⟩
  unfold content
  show _ = _ :: (List.range (s.count - 1)).map (fun k => s.bs.getD (((s.first + 1) % 64 + k) % 64) 0)
  rw [hm, List.range_succ_eq_map, List.map_cons, List.map_map]
  congr 1
  · rw [Nat.add_zero, Nat.mod_eq_of_lt hf]
  · refine List.map_congr_left fun k hk2 => ?_
    show s.bs.getD ((s.first + (k + 1)) % 64) 0 = _
    congr 1
    omega
theorem content_bytes {s : PipeD} (h : okP s) : Bytes (content s) := by
  intro x hx
  unfold content at hx
  obtain ⟨k, _, rfl⟩ := List.mem_map.1 hx
  rw [List.getD_eq_getElem?_getD, List.getElem?_eq_getElem (by rw [h.1]; exact Nat.mod_lt _ (by decide))]
  exact h.2.2.2.2.2 _ (List.getElem_mem _)
theorem pipeV_setb (s : PipeD) (h : okP s) {j : Nat} (hj : j < 64) (c : Nat) : (pipeV s).set j (.int .u8 (c : Int)) = pipeV { s with bs := s.bs.set j c } := by
  unfold pipeV
  rw [List.set_append_left _ _ (by rw [List.length_map, h.1]; exact hj)]
  show _ = (s.bs.set j c).map byteV ++ _
  rw [List.map_set]
  rfl
theorem pipeV_sets (s : PipeD) (h : okP s) : (∀ n : Nat, (pipeV s).set 64 (.int .i64 (n : Int)) = pipeV { s with first := n }) ∧ (∀ n : Nat, (pipeV s).set 65 (.int .i64 (n : Int)) = pipeV { s with count := n }) ∧ (∀ n : Nat, (pipeV s).set 66 (.int .i64 (n : Int)) = pipeV { s with readers := n }) ∧ (∀ n : Nat, (pipeV s).set 67 (.int .i64 (n : Int)) = pipeV { s with writers := n }) := by
  have hl : (s.bs.map byteV).length = 64 := by rw [List.length_map, h.1]
  unfold pipeV
  refine ⟨fun n => ?_, fun n => ?_, fun n => ?_, fun n => ?_⟩ <;> rw [List.set_append_right _ _ (by omega), hl] <;> rfl
set_option maxHeartbeats 1600000 in
theorem pfind_yes {B : Nat} {w : World} {g gs : Nat} {fl : List PipeD} (h : IsPipes B w g gs fl) (n : Int) (i : Nat) (hn : n = (i : Int) + 1) (s : PipeD) (hu : fl[i]? = some s) (hk : thereB s = true) :
    Calls Try.prog 75 #[.pointer (some ⟨g, 0, none⟩), .int .i64 n] w fun e w' => e = .returned (.tuple #[.pointer (some ⟨gs, i * 68, none⟩), .int .i64 0]) ∧ Below w.heap.size w w' := by
  have c0 := pipes_facts h
  have hok := pipes_lts h hu
  have hr := pipes_range h hu
  have hi := (List.getElem?_eq_some_iff.1 hu).1
  have hlen := h.2.2.2.2.1
  obtain ⟨L, hL⟩ : ∃ L, fl.length = L := ⟨_, rfl⟩
  rw [hL] at hi hlen c0
  have hlt1 : ¬ n < 1 := by omega
  have hlt2 : ¬ (L : Int) < n := by omega
  have hw1 : IntKind.i64.wrap (n - 1) = (i : Int) := by rw [IntWalk.i64_in _ (by omega)]; omega
  have hi0 : (0 : Int) ≤ (i : Int) := by omega
  have hi2 : (i : Int) < (L : Int) := by omega
  have HT := Lib.hid (fun W => there_is s hok W)
  have H := Lib.hid h
  have HL := Lib.hid hL
  obtain ⟨d, hud, hd⟩ := row_pipe
  have hsz : (Try.prog.info? 141).map (·.size) = some (pipeV s).length := by rw [pipeV_length hok]; exact size_pipe
  rw [hk] at HT
  clear h hok hu hk hi hn hL
  go_enter Try.func75, Try.ntmps75
  go_wp2_with (first
    | (refine load_mid_wantP (by rfl) 141 _ (by rfl) gs (i * 68) (by rfl) (pipeV s) d hr hud hd hsz ?_)
    | (refine wpList_load_mid (by rfl) 141 _ (by rfl) gs (i * 68) (by rfl) (pipeV s) d hr hud hd hsz ?_))
  refine (HT.out w).mono ?_
  rintro e w' ⟨rfl, b1⟩
  have c1 := pipes_facts (H.out.below b1)
  rw [HL.out] at c1
  have HB := Lib.hid b1
  clear b1 c0 hr
  go_wp2
  go_ret2
  exact ⟨rfl, HB.out⟩
/-- There is no such pipe. -/
def noPipe (fl : List PipeD) (n : Int) : Prop := n < 1 ∨ (fl.length : Int) < n ∨ ∃ (i : Nat) (s : PipeD), n = (i : Int) + 1 ∧ fl[i]? = some s ∧ thereB s = false
set_option maxHeartbeats 1600000 in
theorem pfind_no {B : Nat} {w : World} {g gs : Nat} {fl : List PipeD} (h : IsPipes B w g gs fl) (n : Int) (hn : noPipe fl n) :
    Calls Try.prog 75 #[.pointer (some ⟨g, 0, none⟩), .int .i64 n] w fun e w' => e = .returned (.tuple #[.pointer none, .int .i64 2]) ∧ Below w.heap.size w w' := by
  have c0 := pipes_facts h
  have hlen := h.2.2.2.2.1
  obtain ⟨L, hL⟩ : ∃ L, fl.length = L := ⟨_, rfl⟩
  by_cases h1 : n < 1
  · clear h hn
    go_enter Try.func75, Try.ntmps75
    go_wp2
    go_ret2
    exact ⟨rfl, Below.refl _ _⟩
  by_cases h2 : (fl.length : Int) < n
  · rw [hL] at h2 c0
    clear h hn
    go_enter Try.func75, Try.ntmps75
    go_wp2
    go_ret2
    exact ⟨rfl, Below.refl _ _⟩
  obtain ⟨i, s, hn, hu, hk⟩ : ∃ (i : Nat) (s : PipeD), n = (i : Int) + 1 ∧ fl[i]? = some s ∧ thereB s = false := by
    rcases hn with h0 | h0 | h0
    · exact absurd h0 h1
    · exact absurd h0 h2
    · exact h0
  have hok := pipes_lts h hu
  have hr := pipes_range h hu
  have hi := (List.getElem?_eq_some_iff.1 hu).1
  rw [hL] at hi hlen c0 h2
  have hw1 : IntKind.i64.wrap (n - 1) = (i : Int) := by rw [IntWalk.i64_in _ (by omega)]; omega
  have hi0 : (0 : Int) ≤ (i : Int) := by omega
  have hi2 : (i : Int) < (L : Int) := by omega
  have HT := Lib.hid (fun W => there_is s hok W)
  obtain ⟨d, hud, hd⟩ := row_pipe
  have hsz : (Try.prog.info? 141).map (·.size) = some (pipeV s).length := by rw [pipeV_length hok]; exact size_pipe
  rw [hk] at HT
  clear h hok hu hk hi hn hL
  go_enter Try.func75, Try.ntmps75
  go_wp2_with (first
    | (refine load_mid_wantP (by rfl) 141 _ (by rfl) gs (i * 68) (by rfl) (pipeV s) d hr hud hd hsz ?_)
    | (refine wpList_load_mid (by rfl) 141 _ (by rfl) gs (i * 68) (by rfl) (pipeV s) d hr hud hd hsz ?_))
  refine (HT.out w).mono ?_
  rintro e w' ⟨rfl, b1⟩
  have HB := Lib.hid b1
  clear b1 c0 hr
  go_wp2
  go_ret2
  exact ⟨rfl, HB.out⟩
theorem pipes_setself {fl : List PipeD} {i : Nat} {s : PipeD} (hu : fl[i]? = some s) : fl.set i s = fl := by
  apply List.ext_getElem?
  intro j
  by_cases h : i = j
  · subst h; rw [List.getElem?_set_self (List.getElem?_eq_some_iff.1 hu).1, hu]
  · rw [List.getElem?_set_ne h]
set_option maxHeartbeats 1600000 in
theorem room_is {B : Nat} {w : World} {g gs : Nat} {fl : List PipeD} (h : IsPipes B w g gs fl) {i : Nat} {s : PipeD} (hu : fl[i]? = some s) :
    Calls Try.prog 76 #[.pointer (some ⟨gs, i * 68, none⟩)] w fun e w' => e = .returned (.int .i64 (64 - (s.count : Int))) ∧ w = w' := by
  obtain ⟨r0, r1, r2, r3⟩ := pipes_row h hu
  have h3 := (pipes_lts h hu).2.2.1
  have hw1 : IntKind.i64.wrap (64 - (s.count : Int)) = 64 - (s.count : Int) := IntWalk.i64_in _ (by omega)
  clear h hu r0 r2 r3
  go_enter Try.func76, Try.ntmps76
  go_wp2
  go_ret
  exact ⟨rfl, rfl⟩
set_option maxHeartbeats 1600000 in
theorem ringput_is {B : Nat} {w : World} {g gs : Nat} {fl : List PipeD} (h : IsPipes B w g gs fl) {i : Nat} {s : PipeD} (hu : fl[i]? = some s) (hk : s.count < 64) (c : Nat) (hc : c < 256) :
    Calls Try.prog 77 #[.pointer (some ⟨gs, i * 68, none⟩), .int .u8 (c : Int)] w fun e w' => e = .returned (.tuple #[]) ∧ IsPipes B w' g gs (fl.set i (putP s c)) ∧ w.grownBy w' (some gs) := by
  obtain ⟨r0, r1, r2, r3⟩ := pipes_row h hu
  have hok := pipes_lts h hu
  have h2 := hok.2.1
  have hi := (List.getElem?_eq_some_iff.1 hu).1
  obtain ⟨q, hq⟩ : ∃ q, (s.first + s.count) % 64 = q := ⟨_, rfl⟩
  have hq64 : q < 64 := by omega
  have hw1 : IntKind.i64.wrap ((s.first : Int) + (s.count : Int)) = (s.first : Int) + (s.count : Int) := IntWalk.i64_in _ (by omega)
  have hw2 : Int.tmod ((s.first : Int) + (s.count : Int)) 64 = (q : Int) := by rw [Int.tmod_eq_emod_of_nonneg (by omega)]; omega
  have hw3 : IntKind.i64.wrap ((s.count : Int) + 1) = (s.count : Int) + 1 := IntWalk.i64_in _ (by omega)
  have hq0 : (0 : Int) ≤ (q : Int) := by omega
  have hq1 : (q : Int) < 64 := by omega
  have yb := pipes_byte h hu hq64
  have fb := pipes_free h (i * 68 + q)
  have s1 := pipes_store (j := q) h hu (by omega) (.int .u8 (c : Int)) (pipeV_setb s hok hq64 c) (by
    obtain ⟨k1, k2, k3, k4, k5, k6⟩ := hok
    refine ⟨by show (s.bs.set _ _).length = 64; rw [List.length_set, k1], k2, k3, k4, k5, ?_⟩
    intro x hx
    rcases List.mem_or_eq_of_mem_set hx with hx | rfl
    · exact k6 x hx
    · exact hc)
  obtain ⟨W2, hW2⟩ : ∃ W2, W2 = (w.setCell ⟨gs, i * 68 + q, none⟩ (.int .u8 (c : Int))).drew := ⟨_, rfl⟩
  have h4 : IsPipes B W2 g gs (fl.set i { s with bs := s.bs.set q c }) := by rw [hW2]; exact s1.1.below (below_drew _)
  have g4 : w.grownBy W2 (some gs) := by rw [hW2]; exact grown_to_drew s1.2
  have hu2 : (fl.set i { s with bs := s.bs.set q c })[i]? = some { s with bs := s.bs.set q c } := List.getElem?_set_self hi
  obtain ⟨_, r12, _, _⟩ := pipes_row h4 hu2
  have fr2 := pipes_free h4 (i * 68 + 65)
  have hput : putP s c = { s with bs := s.bs.set q c, count := s.count + 1 } := by unfold putP; rw [hq]
  have hok4 := pipes_lts h4 hu2
  have s2 := pipes_store (j := 65) h4 hu2 (by decide) (.int .i64 ((s.count : Int) + 1)) (s' := { s with bs := s.bs.set q c, count := s.count + 1 }) ((pipeV_sets _ hok4).2.1 (s.count + 1)) (by rw [← hput]; exact putP_ok hok hc hk)
  rw [List.set_set, ← hput] at s2
  have HS := Lib.hid s2
  have HG := Lib.hid g4
  dsimp only at r12
  clear h hu hok s1 s2 h4 g4 hu2 hput hok4 r2 r3 hq hi
  go_enter Try.func77, Try.ntmps77
  go_wp2
  go_region
  rw [← hW2]
  clear hW2
  go_wp2
  go_end0
  exact ⟨rfl, HS.out.1, grown_transP HG.out HS.out.2⟩
set_option maxHeartbeats 1600000 in
theorem ringtake_is {B : Nat} {w : World} {g gs : Nat} {fl : List PipeD} (h : IsPipes B w g gs fl) {i : Nat} {s : PipeD} (hu : fl[i]? = some s) (hk : 0 < s.count) :
    Calls Try.prog 78 #[.pointer (some ⟨gs, i * 68, none⟩)] w fun e w' => e = .returned (.int .u8 ((s.bs.getD s.first 0 : Nat) : Int)) ∧ IsPipes B w' g gs (fl.set i (takeP s)) ∧ w.grownBy w' (some gs) := by
  obtain ⟨r0, r1, r2, r3⟩ := pipes_row h hu
  have hok := pipes_lts h hu
  have h2 := hok.2.1
  have h3 := hok.2.2.1
  have hi := (List.getElem?_eq_some_iff.1 hu).1
  obtain ⟨q, hq⟩ : ∃ q, (s.first + 1) % 64 = q := ⟨_, rfl⟩
  have hw1 : IntKind.i64.wrap ((s.first : Int) + 1) = (s.first : Int) + 1 := IntWalk.i64_in _ (by omega)
  have hw2 : Int.tmod ((s.first : Int) + 1) 64 = (q : Int) := by rw [Int.tmod_eq_emod_of_nonneg (by omega)]; omega
  have hw3 : IntKind.i64.wrap ((s.count : Int) - 1) = ((s.count - 1 : Nat) : Int) := by rw [IntWalk.i64_in _ (by omega)]; omega
  have hq0 : (0 : Int) ≤ (s.first : Int) := by omega
  have hq1 : (s.first : Int) < 64 := by omega
  have yb := pipes_byte h hu h2
  obtain ⟨c, hc⟩ : ∃ c, s.bs.getD s.first 0 = c := ⟨_, rfl⟩
  rw [hc] at yb ⊢
  have h9 : Hid (∀ nq, ∃ W3, W3 = ((w.drewN nq).setCell ⟨gs, i * 68 + 64, none⟩ (.int .i64 (q : Int))).setCell ⟨gs, i * 68 + 65, none⟩ (.int .i64 ((s.count - 1 : Nat) : Int)) ∧ IsPipes B W3 g gs (fl.set i (takeP s)) ∧ w.grownBy W3 (some gs) ∧ (w.drewN nq).cell? ⟨gs, i * 68 + 64, none⟩ = some (.int .i64 (s.first : Int)) ∧ (w.drewN nq).frozen? ⟨gs, i * 68 + 64, none⟩ = false ∧ ((w.drewN nq).setCell ⟨gs, i * 68 + 64, none⟩ (.int .i64 (q : Int))).cell? ⟨gs, i * 68 + 65, none⟩ = some (.int .i64 (s.count : Int)) ∧ ((w.drewN nq).setCell ⟨gs, i * 68 + 64, none⟩ (.int .i64 (q : Int))).frozen? ⟨gs, i * 68 + 65, none⟩ = false) := Lib.hid (fun nq => by
    have k0 := h.below (below_drewN w nq)
    have s1 := pipes_store (j := 64) k0 hu (by decide) (.int .i64 (q : Int)) ((pipeV_sets s hok).1 q) (s' := { s with first := q }) ⟨hok.1, by show q < 64; omega, hok.2.2⟩
    have hu2 : (fl.set i { s with first := q })[i]? = some { s with first := q } := List.getElem?_set_self hi
    have hok2 := pipes_lts s1.1 hu2
    have htk : takeP s = { s with first := q, count := s.count - 1 } := by unfold takeP; rw [hq]
    have s2 := pipes_store (j := 65) s1.1 hu2 (by decide) (.int .i64 ((s.count - 1 : Nat) : Int)) ((pipeV_sets _ hok2).2.1 (s.count - 1)) (s' := { s with first := q, count := s.count - 1 }) (by rw [← htk]; exact takeP_ok hok)
    rw [List.set_set, ← htk] at s2
    exact ⟨_, rfl, s2.1, grown_transP (grown_transP (grown_ofBelowP (below_drewN w nq)) s1.2) s2.2, (pipes_row k0 hu).1, pipes_free k0 _, (pipes_row s1.1 hu2).2.1, pipes_free s1.1 _⟩)
  unfold byteV at yb
  clear h hu hok r2 r3 hq hi hc
  go_enter Try.func78, Try.ntmps78
  go_wp2
  go_quiet (fail)
  obtain ⟨W3, hW3, hp3, hg3, x0, f0, x1, f1⟩ := h9.out nq
  have HP := Lib.hid (And.intro hp3 hg3)
  clear hp3 hg3 r0 r1 yb h9
  go_wp2
  rw [← hW3]
  clear hW3
  go_ret
  exact ⟨rfl, HP.out.1, HP.out.2⟩
end Go.Proofs.Ythainmbapikjiaa
