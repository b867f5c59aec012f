/-
  Diff, Apply and Back, whole: what each answers, always; what the law looks at.
-/
import Derived.Test.YtdbndkccgpmkbaaAp
import Derived.Test.YtdbndkccgpmkbaaSm
namespace Go.Proofs.Ytdbndkccgpmkbaa
open Go.Sort Go.RowKit Go.Proofs.Ytdbndkccgpmkbaa.Pure

theorem name_pos {t : ByteArray} (h : nameB t = true) : ¬ t = ⟨#[]⟩ := fun e => by
  subst e
  simp [nameB] at h
  exact absurd h.1 (by decide)
theorem putB_iff (a : List Pu) : putB a = true ↔ OkP (fun t => nameB t = true) a := by
  unfold putB
  rw [Bool.and_eq_true, List.all_eq_true, tasksB_iff]
  constructor
  · rintro ⟨h1, h2, h3, h4⟩
    exact ⟨by simpa using h2, h4, fun p hp => h3 p.t (List.mem_map_of_mem hp), fun p hp => ((nodB_iff p.n).1 (h1 p hp)).1, fun p hp => ((nodB_iff p.n).1 (h1 p hp)).2⟩
  · rintro ⟨h1, h2, h3, h4, h5⟩
    refine ⟨fun p hp => (nodB_iff p.n).2 ⟨h4 p hp, h5 p hp⟩, by simpa using h1, fun t ht => ?_, h2⟩
    obtain ⟨p, hp, rfl⟩ := List.mem_map.1 ht
    exact h3 p hp
theorem oneB_iff (m : Mv) : oneB m = true ↔ ¬ m.f = m.g ∧ (-1 ≤ m.f ∧ m.f ≤ 63) ∧ -1 ≤ m.g ∧ m.g ≤ 63 := by
  unfold oneB
  simp only [Bool.and_eq_true, mayB_iff, Bool.not_eq_true', decide_eq_false_iff_not]
theorem movB_iff (l : List Mv) : movB l = true ↔ OkM (fun t => nameB t = true) l := by
  unfold movB
  rw [Bool.and_eq_true, List.all_eq_true, tasksB_iff]
  constructor
  · rintro ⟨h1, h2, h3, h4⟩
    exact ⟨by simpa using h2, h4, fun p hp => h3 p.t (List.mem_map_of_mem hp), fun p hp => ((oneB_iff p).1 (h1 p hp)).2.1.1, fun p hp => ((oneB_iff p).1 (h1 p hp)).2.1.2, fun p hp => ((oneB_iff p).1 (h1 p hp)).2.2.1, fun p hp => ((oneB_iff p).1 (h1 p hp)).2.2.2, fun p hp => ((oneB_iff p).1 (h1 p hp)).1⟩
  · rintro ⟨h1, h2, h3, h4, h5, h6, h7, h8⟩
    refine ⟨fun p hp => (oneB_iff p).2 ⟨h8 p hp, ⟨h4 p hp, h5 p hp⟩, h6 p hp, h7 p hp⟩, by simpa using h1, fun t ht => ?_, h2⟩
    obtain ⟨p, hp, rfl⟩ := List.mem_map.1 ht
    exact h3 p hp
theorem good_put {a : List Pu} (h : OkP (fun t => nameB t = true) a) : GoodP a := ⟨h.rise, fun p hp => name_pos (h.nm p hp), h.lo⟩
theorem good_mov {l : List Mv} (h : OkM (fun t => nameB t = true) l) : GoodM l := ⟨h.rise, fun p hp => name_pos (h.nm p hp), h.glo⟩
theorem zip_len {α β : Type} {kx : α → ByteArray} {ky : β → ByteArray} {za : α} {zb : β} : ∀ (n : Nat) (a : List α) (b : List β), (zipK kx ky za zb n a b).length ≤ n
  | 0, _, _ => Nat.le_refl _
  | n + 1, [], [] => Nat.zero_le _
  | n + 1, [], y :: b => Nat.succ_le_succ (zip_len n [] b)
  | n + 1, x :: a, [] => Nat.succ_le_succ (zip_len n a [])
  | n + 1, x :: a, y :: b => by
    simp only [zipK]
    split
    · exact Nat.succ_le_succ (zip_len n a (y :: b))
    · split
      · exact Nat.succ_le_succ (zip_len n (x :: a) b)
      · exact Nat.succ_le_succ (zip_len n a b)
/-- Diff's error, and answer. -/
def dE (a b : List Pu) : Int := if putB a && putB b then (if decide (100 < (difP a b).length) then 9 else 0) else 1
def dR (a b : List Pu) : List Mv := if dE a b = 0 then difP a b else []
def aE (a : List Pu) (l : List Mv) : Int := if putB a && movB l then (if staB a l then 8 else if decide (100 < (apP a l).length) then 9 else 0) else 1
def aR (a : List Pu) (l : List Mv) : List Pu := if aE a l = 0 then apP a l else []
def bE (l : List Mv) : Int := if movB l then 0 else 1
def bR (l : List Mv) : List Mv := if movB l then backP l else []
theorem diff_any (A B : Option Addr) (ca cb : Nat) (a b : List Pu) (w : World) (ha : a.length ≤ 100000) (hb : b.length ≤ 100000) (hA : Us w A a) (hB : Us w B b) (sa : Shrt (a.map Pu.t)) (sb : Shrt (b.map Pu.t)) :
    Calls Try.prog 11 #[.slice A a.length ca, .slice B b.length cb] w fun e w' => ∃ v, e = .returned (.tuple #[v, .int .i64 (dE a b)]) ∧ OwnV w' w.heap.size v (dR a b) ∧ Below w.heap.size w w' := by
  unfold dR dE
  by_cases h : putB a = true ∧ putB b = true
  · have h1 := (putB_iff a).1 h.1
    have h2 := (putB_iff b).1 h.2
    have hz := zip_len (kx := Pu.t) (ky := Pu.t) (za := zu) (zb := zu) (a.length + b.length) a b
    have hl1 := h1.len
    have hl2 := h2.len
    rw [h.1, h.2]
    have := diff_yes A B ca cb a b w (by omega) (by omega) hA hB sa sb h (difP a b) (zipD_is _ a b (Nat.le_refl _) (good_put h1) (good_put h2)) _ rfl (by unfold zipD zipA; omega)
    refine this.mono ?_
    rintro e w' ⟨v, rfl, ho, hb'⟩
    rcases hd : decide (100 < (difP a b).length) with _ | _
    · rw [hd] at ho
      exact ⟨v, by simp, by simpa using ho, hb'⟩
    · rw [hd] at ho
      exact ⟨v, by simp, by simpa using ho, hb'⟩
  · have hf : putB a = false ∨ putB b = false := by
      rcases h1 : putB a with _ | _
      · exact .inl rfl
      · rcases h2 : putB b with _ | _
        · exact .inr rfl
        · exact absurd ⟨h1, h2⟩ h
    have hff : (putB a && putB b) = false := by rcases hf with h | h <;> simp [h]
    rw [hff]
    refine (diff_bad A B ca cb a b w ha hb hA hB sa sb hf).mono ?_
    rintro e w' ⟨rfl, hb'⟩
    exact ⟨_, rfl, OwnV.nil _ _, hb'⟩
theorem apply_any (A B : Option Addr) (ca cb : Nat) (a : List Pu) (b : List Mv) (w : World) (ha : a.length ≤ 100000) (hb : b.length ≤ 100000) (hA : Us w A a) (hB : Vs w B b) (sa : Shrt (a.map Pu.t)) (sb : Shrt (b.map Mv.t)) :
    Calls Try.prog 12 #[.slice A a.length ca, .slice B b.length cb] w fun e w' => ∃ v, e = .returned (.tuple #[v, .int .i64 (aE a b)]) ∧ OwnU w' w.heap.size v (aR a b) ∧ Below w.heap.size w w' := by
  unfold aR aE
  by_cases h : putB a = true ∧ movB b = true
  · have h1 := (putB_iff a).1 h.1
    have h2 := (movB_iff b).1 h.2
    have hz := zip_len (kx := Pu.t) (ky := Mv.t) (za := zu) (zb := zmv) (a.length + b.length) a b
    have hl1 := h1.len
    have hl2 := h2.len
    rw [h.1, h.2]
    obtain ⟨z1, z2⟩ := zipM_is _ a b (Nat.le_refl _) (good_put h1) (good_mov h2)
    have := apply_yes A B ca cb a b w (by omega) (by omega) hA hB sa sb h (apP a b) z1 _ z2 _ rfl (by unfold zipM zipA; omega)
    refine this.mono ?_
    rintro e w' ⟨v, rfl, ho, hb'⟩
    rcases hs : staB a b with _ | _
    · rcases hd : decide (100 < (apP a b).length) with _ | _
      · rw [hs, hd] at ho
        exact ⟨v, by simp, by simpa using ho, hb'⟩
      · rw [hs, hd] at ho
        exact ⟨v, by simp, by simpa using ho, hb'⟩
    · rw [hs] at ho
      exact ⟨v, by simp, by simpa using ho, hb'⟩
  · have hf : putB a = false ∨ movB b = false := by
      rcases h1 : putB a with _ | _
      · exact .inl rfl
      · rcases h2 : movB b with _ | _
        · exact .inr rfl
        · exact absurd ⟨h1, h2⟩ h
    have hff : (putB a && movB b) = false := by rcases hf with h | h <;> simp [h]
    rw [hff]
    refine (apply_bad A B ca cb a b w ha hb hA hB sa sb hf).mono ?_
    rintro e w' ⟨rfl, hb'⟩
    exact ⟨_, rfl, OwnU.nil _ _, hb'⟩
theorem back_any (A : Option Addr) (c : Nat) (l : List Mv) (w : World) (hn : l.length ≤ 1000) (h : Vs w A l) (hs : Shrt (l.map Mv.t)) :
    Calls Try.prog 13 #[.slice A l.length c] w fun e w' => ∃ v, e = .returned (.tuple #[v, .int .i64 (bE l)]) ∧ OwnV w' w.heap.size v (bR l) ∧ Below w.heap.size w w' := by
  unfold bE bR
  rcases hL : movB l with _ | _
  · refine (back_no A c l w (by omega) h hs hL).mono ?_
    rintro e w' ⟨rfl, hb'⟩
    exact ⟨_, rfl, OwnV.nil _ _, hb'⟩
  · exact back_yes A c l w hn h hs hL

set_option maxRecDepth 100000 in
set_option maxHeartbeats 400000 in
theorem puts_any (A : Option Addr) (c : Nat) (l : List Pu) (w : World) (hc : l.length ≤ c) (hm : c ≤ maxLen) (h : Us w A l) :
    Calls Try.prog 9 #[.slice A l.length c] w fun e w' => e = .returned (.slice A (min 101 l.length) c) ∧ w = w' := by
  have hc3 : c ≤ 9223372036854775807 := by unfold maxLen at hm; omega
  clear hm
  by_cases hn : 101 < l.length
  · obtain ⟨ad, rfl, _⟩ := h 0 (by omega)
    rw [show min 101 l.length = 101 by omega]
    have t1 : (101 : Int) ≤ (c : Int) := by omega
    have t2 : 101 ≤ c := by omega
    have d1 : decide (101 < (l.length : Int)) = true := decide_eq_true (by omega)
    have d2 : decide (101 < l.length) = true := decide_eq_true (by omega)
    clear h hn
    generalize l.length = n at *
    go_enter Try.func9, Try.ntmps9
    go_wp2
    go_ret
    exact ⟨rfl, rfl⟩
  · rw [show min 101 l.length = l.length by omega]
    have d1 : decide (101 < (l.length : Int)) = false := decide_eq_false (by omega)
    have d2 : decide (101 < l.length) = false := decide_eq_false (by omega)
    clear h hn
    generalize l.length = n at *
    go_enter Try.func9, Try.ntmps9
    go_wp2
    go_ret
    exact ⟨rfl, rfl⟩
set_option maxRecDepth 100000 in
set_option maxHeartbeats 400000 in
theorem moves_any (A : Option Addr) (c : Nat) (l : List Mv) (w : World) (hc : l.length ≤ c) (hm : c ≤ maxLen) (h : Vs w A l) :
    Calls Try.prog 10 #[.slice A l.length c] w fun e w' => e = .returned (.slice A (min 101 l.length) c) ∧ w = w' := by
  have hc3 : c ≤ 9223372036854775807 := by unfold maxLen at hm; omega
  clear hm
  by_cases hn : 101 < l.length
  · obtain ⟨ad, rfl, _⟩ := h 0 (by omega)
    rw [show min 101 l.length = 101 by omega]
    have t1 : (101 : Int) ≤ (c : Int) := by omega
    have t2 : 101 ≤ c := by omega
    have d1 : decide (101 < (l.length : Int)) = true := decide_eq_true (by omega)
    have d2 : decide (101 < l.length) = true := decide_eq_true (by omega)
    clear h hn
    generalize l.length = n at *
    go_enter Try.func10, Try.ntmps10
    go_wp2
    go_ret
    exact ⟨rfl, rfl⟩
  · rw [show min 101 l.length = l.length by omega]
    have d1 : decide (101 < (l.length : Int)) = false := decide_eq_false (by omega)
    have d2 : decide (101 < l.length) = false := decide_eq_false (by omega)
    clear h hn
    generalize l.length = n at *
    go_enter Try.func10, Try.ntmps10
    go_wp2
    go_ret
    exact ⟨rfl, rfl⟩
end Go.Proofs.Ytdbndkccgpmkbaa
