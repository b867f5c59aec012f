/-
  The walks of the library's comparisons.
-/
import Derived.Test.YtipepmnnjhhjbaaMem
namespace Go.Proofs.Ytipepmnnjhhjbaa
open Go.RowKit Go.Proofs.Ytipepmnnjhhjbaa.Pure

/-- What is compared. -/
def cmpI (a b : Int) : Int := if a < b then -1 else if b < a then 1 else 0

set_option maxHeartbeats 400000 in
theorem nanI (a : Int) (w : World) : Calls Try.prog 48 #[.int .i64 a] w fun e w' => e = .returned (.bool false) ∧ w = w' := by
  have h : (a != a) = false := by simp
  go_enter Try.func48, Try.ntmps48
  go_wp2
  go_ret
  exact ⟨rfl, rfl⟩
set_option maxHeartbeats 400000 in
theorem nanU (a : Int) (w : World) : Calls Try.prog 50 #[.int .u64 a] w fun e w' => e = .returned (.bool false) ∧ w = w' := by
  have h : (a != a) = false := by simp
  go_enter Try.func50, Try.ntmps50
  go_wp2
  go_ret
  exact ⟨rfl, rfl⟩

theorem cmp_cases (a b : Int) : (a < b ∧ cmpI a b = -1) ∨ (b < a ∧ cmpI a b = 1) ∨ (a = b ∧ cmpI a b = 0) := by
  unfold cmpI
  rcases Int.lt_trichotomy a b with h | h | h
  · exact .inl ⟨h, by rw [if_pos h]⟩
  · exact .inr (.inr ⟨h, by rw [if_neg (by omega), if_neg (by omega)]⟩)
  · exact .inr (.inl ⟨h, by rw [if_neg (by omega), if_pos h]⟩)

set_option maxHeartbeats 400000 in
theorem cmpInt (a b : Int) (w : World) : Calls Try.prog 41 #[.int .i64 a, .int .i64 b] w fun e w' => e = .returned (.int .i64 (cmpI a b)) ∧ w = w' := by
  have HC := Lib.hid (cmp_cases a b)
  generalize cmpI a b = r at *
  go_enter Try.func41, Try.ntmps41
  go_wp2_with (go_at_call 48; refine (nanI _ _).mono ?_; rintro e w' ⟨rfl, rfl⟩)
  all_goals
    go_ret
    refine ⟨ret_int ?_, rfl⟩
    have := HC.out
    omega

set_option maxHeartbeats 400000 in
theorem cmpU (a b : Int) (w : World) : Calls Try.prog 45 #[.int .u64 a, .int .u64 b] w fun e w' => e = .returned (.int .i64 (cmpI a b)) ∧ w = w' := by
  have HC := Lib.hid (cmp_cases a b)
  generalize cmpI a b = r at *
  go_enter Try.func45, Try.ntmps45
  go_wp2_with (go_at_call 50; refine (nanU _ _).mono ?_; rintro e w' ⟨rfl, rfl⟩)
  all_goals
    go_ret
    refine ⟨ret_int ?_, rfl⟩
    have := HC.out
    omega

/-- The first one that is not 0. -/
def firstN : List Int → Int
  | [] => 0
  | c :: r => if c != 0 then c else firstN r
theorem firstN_drop (cs : List Int) (k : Nat) (h : k < cs.length) : firstN (cs.drop k) = if cs.getD k 0 != 0 then cs.getD k 0 else firstN (cs.drop (k + 1)) := by
  rw [List.drop_eq_getElem_cons h, firstN]
  simp [List.getD, h]

set_option maxRecDepth 100000 in
set_option maxHeartbeats 400000 in
theorem or_any (ad : Addr) (cs : List Int) (c : Nat) (w : World) (hn : cs.length ≤ 100) (h : ∀ j, j < cs.length → w.cell? (ad.add j) = some (.int .i64 (cs.getD j 0))) :
    Calls Try.prog 44 #[.slice (some ad) cs.length c] w fun e w' => e = .returned (.int .i64 (firstN cs)) ∧ w = w' := by
  have H := Lib.hid h
  clear h
  go_enter Try.func44, Try.ntmps44
  go_wp2
  go_loop [8] (fun i => ∃ k : Nat, k ≤ cs.length ∧ i = .int .i64 k ∧ Hid (firstN cs = firstN (cs.drop k))) (fun i => cs.length - (intOf i).toNat)
  case atStart => exact ⟨0, Nat.zero_le _, rfl, Lib.hid rfl⟩
  case round =>
    obtain ⟨k, hk, rfl, hf⟩ := hrel
    by_cases hlt : k < cs.length
    · have hcell := H.out k hlt
      have HF := Lib.hid (firstN_drop cs k hlt)
      generalize cs.getD k 0 = y at *
      rcases hy : (y != 0) with _ | _
      · rw [hy] at HF
        go_wp2
        go_round
        case rel => exact ⟨k + 1, by omega, by go_num, Lib.hid (by rw [hf.out, HF.out]; rfl)⟩
        case measure => simp [intOf]; omega
      · rw [hy] at HF
        go_wp2
        go_ret
        exact ⟨ret_int (by rw [hf.out, HF.out]; rfl), rfl⟩
    · obtain rfl : k = cs.length := by omega
      go_wp2
      go_ret
      exact ⟨ret_int (by rw [hf.out]; simp [firstN]), rfl⟩

theorem over_math (a b : Kn) : decide (0 < firstN [cmpI a.i b.i, cmpI a.s b.s]) = over a b := by
  have h0 := cmp_cases a.i b.i
  have h1 := cmp_cases a.s b.s
  unfold over
  generalize cmpI a.i b.i = c0 at *
  generalize cmpI a.s b.s = c1 at *
  rw [Bool.eq_iff_iff, decide_eq_true_iff, decide_eq_true_iff]
  simp only [firstN, bne_iff_ne, ne_eq]
  by_cases e0 : c0 = 0
  · rw [if_neg (by simpa using e0)]
    by_cases e1 : c1 = 0
    · rw [if_neg (by simpa using e1)]; omega
    · rw [if_pos (by simpa using e1)]; omega
  · rw [if_pos (by simpa using e0)]; omega

/-- Two numbers, laid anew. -/
theorem two_new (w : World) (c0 c1 : Int) (t : TypeId) : ∀ j, j < [c0, c1].length → (w.alloc (.cells #[.int .i64 c0, .int .i64 c1] t)).cell? ((⟨w.heap.size, 0, none⟩ : Addr).add j) = some (.int .i64 ([c0, c1].getD j 0)) := by
  intro j hj
  have hj' : j < 2 := hj
  have e : (⟨w.heap.size, 0, none⟩ : Addr).add j = ⟨w.heap.size, j, none⟩ := by unfold Addr.add; split <;> simp_all
  rw [e, World.cell?_alloc_mark]
  match j, hj' with
  | 0, _ => rfl
  | 1, _ => rfl
end Go.Proofs.Ytipepmnnjhhjbaa
