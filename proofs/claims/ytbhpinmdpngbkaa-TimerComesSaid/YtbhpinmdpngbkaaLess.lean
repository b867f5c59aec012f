/-
  The walks of Less, of the document and of the program.
-/
import Derived.Test.YtbhpinmdpngbkaaMem
namespace Go.Proofs.Ytbhpinmdpngbkaa
open Go.RowKit Go.Proofs.Ytbhpinmdpngbkaa.Pure

theorem ret_bool {a b : Bool} (h : a = b) : Ending.returned (.bool a) = .returned (.bool b) := by rw [h]

set_option maxRecDepth 100000 in
set_option maxHeartbeats 400000 in
theorem rless_any (a k o n a' k' o' n' : Int) (w : World) :
    Calls Try.prog 15 #[.agg #[.int .i64 a, .int .i64 k, .int .i64 o, .int .u64 n], .agg #[.int .i64 a', .int .i64 k', .int .i64 o', .int .u64 n']] w fun e w' => e = .returned (.bool (lt ⟨a, k, o, n⟩ ⟨a', k', o', n'⟩)) ∧ Below w.heap.size w w' := by
  have HL : Hid (lt ⟨a, k, o, n⟩ ⟨a', k', o', n'⟩ = decide (a < a' ∨ (a = a' ∧ (k < k' ∨ (k = k' ∧ (o < o' ∨ (o = o' ∧ n < n'))))))) := Lib.hid (by unfold lt Ahead; rfl)
  generalize lt ⟨a, k, o, n⟩ ⟨a', k', o', n'⟩ = L at *
  go_enter Try.func15, Try.ntmps15
  go_wp2
  all_goals
    go_ret
    refine ⟨ret_bool ?_, ((Below.refl _ _).alloc (Nat.le_refl _) _).alloc (by simp) _⟩
    rw [HL.out]
    simp only [bne_iff_ne, ne_eq, bne_eq_false_iff_eq] at *
    rw [Bool.eq_iff_iff, decide_eq_true_iff, decide_eq_true_iff]
    omega

/-- What is compared. -/
def cmpI (a b : Int) : Int := if a < b then -1 else if b < a then 1 else 0

set_option maxHeartbeats 400000 in
theorem nan64 (a : Int) (w : World) : Calls Try.prog 35 #[.int .i64 a] w fun e w' => e = .returned (.bool false) ∧ w = w' := by
  have h : (a != a) = false := by simp
  go_enter Try.func35, Try.ntmps35
  go_wp2
  go_ret
  exact ⟨rfl, rfl⟩
set_option maxHeartbeats 400000 in
theorem nanI (a : Int) (w : World) : Calls Try.prog 36 #[.int .i64 a] w fun e w' => e = .returned (.bool false) ∧ w = w' := by
  have h : (a != a) = false := by simp
  go_enter Try.func36, Try.ntmps36
  go_wp2
  go_ret
  exact ⟨rfl, rfl⟩
set_option maxHeartbeats 400000 in
theorem nanU (a : Int) (w : World) : Calls Try.prog 37 #[.int .u64 a] w fun e w' => e = .returned (.bool false) ∧ w = w' := by
  have h : (a != a) = false := by simp
  go_enter Try.func37, Try.ntmps37
  go_wp2
  go_ret
  exact ⟨rfl, rfl⟩

theorem cmp_cases (a b : Int) : (a < b ∧ cmpI a b = -1) ∨ (b < a ∧ cmpI a b = 1) ∨ (a = b ∧ cmpI a b = 0) := by
  unfold cmpI
  rcases Int.lt_trichotomy a b with h | h | h
  · exact .inl ⟨h, by rw [if_pos h]⟩
  · exact .inr (.inr ⟨h, by rw [if_neg (by omega), if_neg (by omega)]⟩)
  · exact .inr (.inl ⟨h, by rw [if_neg (by omega), if_pos h]⟩)

set_option maxHeartbeats 400000 in
theorem cmp64 (a b : Int) (w : World) : Calls Try.prog 28 #[.int .i64 a, .int .i64 b] w fun e w' => e = .returned (.int .i64 (cmpI a b)) ∧ w = w' := by
  have HC := Lib.hid (cmp_cases a b)
  generalize cmpI a b = r at *
  go_enter Try.func28, Try.ntmps28
  go_wp2_with (go_at_call 35; refine (nan64 _ _).mono ?_; rintro e w' ⟨rfl, rfl⟩)
  all_goals
    go_ret
    refine ⟨ret_int ?_, rfl⟩
    have := HC.out
    omega

set_option maxHeartbeats 400000 in
theorem cmpInt (a b : Int) (w : World) : Calls Try.prog 29 #[.int .i64 a, .int .i64 b] w fun e w' => e = .returned (.int .i64 (cmpI a b)) ∧ w = w' := by
  have HC := Lib.hid (cmp_cases a b)
  generalize cmpI a b = r at *
  go_enter Try.func29, Try.ntmps29
  go_wp2_with (go_at_call 36; refine (nanI _ _).mono ?_; rintro e w' ⟨rfl, rfl⟩)
  all_goals
    go_ret
    refine ⟨ret_int ?_, rfl⟩
    have := HC.out
    omega

set_option maxHeartbeats 400000 in
theorem cmpU (a b : Int) (w : World) : Calls Try.prog 30 #[.int .u64 a, .int .u64 b] w fun e w' => e = .returned (.int .i64 (cmpI a b)) ∧ w = w' := by
  have HC := Lib.hid (cmp_cases a b)
  generalize cmpI a b = r at *
  go_enter Try.func30, Try.ntmps30
  go_wp2_with (go_at_call 37; refine (nanU _ _).mono ?_; rintro e w' ⟨rfl, rfl⟩)
  all_goals
    go_ret
    refine ⟨ret_int ?_, rfl⟩
    have := HC.out
    omega

/-- The first one that is not 0. -/
def firstN : List Int → Int
  | [] => 0
  | c :: r => if c != 0 then c else firstN r
theorem firstN_drop (cs : List Int) (k : Nat) (h : k < cs.length) : firstN (cs.drop k) = if cs.getD k 0 != 0 then cs.getD k 0 else firstN (cs.drop (k + 1)) := by
  rw [List.drop_eq_getElem_cons h, firstN]
  simp [List.getD, h]

set_option maxRecDepth 100000 in
set_option maxHeartbeats 400000 in
theorem or_any (ad : Addr) (cs : List Int) (c : Nat) (w : World) (hn : cs.length ≤ 100) (h : ∀ j, j < cs.length → w.cell? (ad.add j) = some (.int .i64 (cs.getD j 0))) :
    Calls Try.prog 27 #[.slice (some ad) cs.length c] w fun e w' => e = .returned (.int .i64 (firstN cs)) ∧ w = w' := by
  have H := Lib.hid h
  clear h
  go_enter Try.func27, Try.ntmps27
  go_wp2
  go_loop [8] (fun i => ∃ k : Nat, k ≤ cs.length ∧ i = .int .i64 k ∧ Hid (firstN cs = firstN (cs.drop k))) (fun i => cs.length - (intOf i).toNat)
  case atStart => exact ⟨0, Nat.zero_le _, rfl, Lib.hid rfl⟩
  case round =>
    obtain ⟨k, hk, rfl, hf⟩ := hrel
    by_cases hlt : k < cs.length
    · have hcell := H.out k hlt
      have HF := Lib.hid (firstN_drop cs k hlt)
      generalize cs.getD k 0 = y at *
      rcases hy : (y != 0) with _ | _
      · rw [hy] at HF
        go_wp2
        go_round
        case rel => exact ⟨k + 1, by omega, by go_num, Lib.hid (by rw [hf.out, HF.out]; rfl)⟩
        case measure => simp [intOf]; omega
      · rw [hy] at HF
        go_wp2
        go_ret
        exact ⟨ret_int (by rw [hf.out, HF.out]; rfl), rfl⟩
    · obtain rfl : k = cs.length := by omega
      go_wp2
      go_ret
      exact ⟨ret_int (by rw [hf.out]; simp [firstN]), rfl⟩

theorem less_math (a k o n a' k' o' n' : Int) : decide (firstN [cmpI a a', cmpI k k', cmpI o o', cmpI n n'] < 0) = lt ⟨a, k, o, n⟩ ⟨a', k', o', n'⟩ := by
  have h0 := cmp_cases a a'
  have h1 := cmp_cases k k'
  have h2 := cmp_cases o o'
  have h3 := cmp_cases n n'
  have h : lt ⟨a, k, o, n⟩ ⟨a', k', o', n'⟩ = decide (a < a' ∨ (a = a' ∧ (k < k' ∨ (k = k' ∧ (o < o' ∨ (o = o' ∧ n < n')))))) := by unfold lt Ahead; rfl
  rw [h]
  generalize cmpI a a' = c0 at *
  generalize cmpI k k' = c1 at *
  generalize cmpI o o' = c2 at *
  generalize cmpI n n' = c3 at *
  rw [Bool.eq_iff_iff, decide_eq_true_iff, decide_eq_true_iff]
  simp only [firstN, bne_iff_ne, ne_eq]
  by_cases e0 : c0 = 0
  · rw [if_neg (by simpa using e0)]
    by_cases e1 : c1 = 0
    · rw [if_neg (by simpa using e1)]
      by_cases e2 : c2 = 0
      · rw [if_neg (by simpa using e2)]
        by_cases e3 : c3 = 0
        · rw [if_neg (by simpa using e3)]; omega
        · rw [if_pos (by simpa using e3)]; omega
      · rw [if_pos (by simpa using e2)]; omega
    · rw [if_pos (by simpa using e1)]; omega
  · rw [if_pos (by simpa using e0)]; omega

/-- Four numbers, laid anew. -/
theorem four_new (w : World) (c0 c1 c2 c3 : Int) (t : TypeId) : ∀ j, j < [c0, c1, c2, c3].length → (w.alloc (.cells #[.int .i64 c0, .int .i64 c1, .int .i64 c2, .int .i64 c3] t)).cell? ((⟨w.heap.size, 0, none⟩ : Addr).add j) = some (.int .i64 ([c0, c1, c2, c3].getD j 0)) := by
  intro j hj
  have hj' : j < 4 := hj
  have e : (⟨w.heap.size, 0, none⟩ : Addr).add j = ⟨w.heap.size, j, none⟩ := by unfold Addr.add; split <;> simp_all
  rw [e, World.cell?_alloc_mark]
  match j, hj' with
  | 0, _ => rfl
  | 1, _ => rfl
  | 2, _ => rfl
  | 3, _ => rfl

set_option maxRecDepth 100000 in
set_option maxHeartbeats 1000000 in
theorem less_any (a k o n a' k' o' n' : Int) (w : World) :
    Calls Try.prog 14 #[.agg #[.int .i64 a, .int .i64 k, .int .i64 o, .int .u64 n], .agg #[.int .i64 a', .int .i64 k', .int .i64 o', .int .u64 n']] w fun e w' => e = .returned (.bool (lt ⟨a, k, o, n⟩ ⟨a', k', o', n'⟩)) ∧ Below w.heap.size w w' := by
  have HM := Lib.hid (less_math a k o n a' k' o' n')
  have HO : Hid (∀ (c0 c1 c2 c3 : Int) (W : World), Calls Try.prog 27 #[.slice (some ⟨W.heap.size, 0, none⟩) 4 4] (W.alloc (.cells #[.int .i64 c0, .int .i64 c1, .int .i64 c2, .int .i64 c3] 3)).drew
      fun e w' => e = .returned (.int .i64 (firstN [c0, c1, c2, c3])) ∧ (W.alloc (.cells #[.int .i64 c0, .int .i64 c1, .int .i64 c2, .int .i64 c3] 3)).drew = w') := Lib.hid fun c0 c1 c2 c3 W =>
    or_any ⟨W.heap.size, 0, none⟩ [c0, c1, c2, c3] 4 _ (Nat.le_of_ble_eq_true rfl) (four_new W c0 c1 c2 c3 _)
  have H0 := Lib.hid (fun W => cmp64 a a' W)
  have H1 := Lib.hid (fun x y W => cmpInt x y W)
  have H3 := Lib.hid (fun W => cmpU n n' W)
  generalize lt ⟨a, k, o, n⟩ ⟨a', k', o', n'⟩ = L at *
  generalize cmpI a a' = c0 at *
  generalize cmpI n n' = c3 at *
  go_enter Try.func14, Try.ntmps14
  go_upto_region 1 with (fail)
  have HB : Hid (Below w.heap.size w ((w.alloc (.cells #[.int .i64 a, .int .i64 k, .int .i64 o, .int .u64 n] 33)).alloc (.cells #[.int .i64 a', .int .i64 k', .int .i64 o', .int .u64 n'] 33))) := Lib.hid (((Below.refl _ _).alloc (Nat.le_refl _) _).alloc (by simp) _)
  have u0 : ((w.alloc (.cells #[.int .i64 a, .int .i64 k, .int .i64 o, .int .u64 n] 33)).alloc (.cells #[.int .i64 a', .int .i64 k', .int .i64 o', .int .u64 n'] 33)).cell? ⟨w.heap.size, 0, none⟩ = some (.int .i64 a) := by go_simp
  have u1 : ((w.alloc (.cells #[.int .i64 a, .int .i64 k, .int .i64 o, .int .u64 n] 33)).alloc (.cells #[.int .i64 a', .int .i64 k', .int .i64 o', .int .u64 n'] 33)).cell? ⟨w.heap.size, 1, none⟩ = some (.int .i64 k) := by go_simp
  have u2 : ((w.alloc (.cells #[.int .i64 a, .int .i64 k, .int .i64 o, .int .u64 n] 33)).alloc (.cells #[.int .i64 a', .int .i64 k', .int .i64 o', .int .u64 n'] 33)).cell? ⟨w.heap.size, 2, none⟩ = some (.int .i64 o) := by go_simp
  have u3 : ((w.alloc (.cells #[.int .i64 a, .int .i64 k, .int .i64 o, .int .u64 n] 33)).alloc (.cells #[.int .i64 a', .int .i64 k', .int .i64 o', .int .u64 n'] 33)).cell? ⟨w.heap.size, 3, none⟩ = some (.int .u64 n) := by go_simp
  have v0 : ((w.alloc (.cells #[.int .i64 a, .int .i64 k, .int .i64 o, .int .u64 n] 33)).alloc (.cells #[.int .i64 a', .int .i64 k', .int .i64 o', .int .u64 n'] 33)).cell? ⟨w.heap.size + 1, 0, none⟩ = some (.int .i64 a') := by go_simp
  have v1 : ((w.alloc (.cells #[.int .i64 a, .int .i64 k, .int .i64 o, .int .u64 n] 33)).alloc (.cells #[.int .i64 a', .int .i64 k', .int .i64 o', .int .u64 n'] 33)).cell? ⟨w.heap.size + 1, 1, none⟩ = some (.int .i64 k') := by go_simp
  have v2 : ((w.alloc (.cells #[.int .i64 a, .int .i64 k, .int .i64 o, .int .u64 n] 33)).alloc (.cells #[.int .i64 a', .int .i64 k', .int .i64 o', .int .u64 n'] 33)).cell? ⟨w.heap.size + 1, 2, none⟩ = some (.int .i64 o') := by go_simp
  have v3 : ((w.alloc (.cells #[.int .i64 a, .int .i64 k, .int .i64 o, .int .u64 n] 33)).alloc (.cells #[.int .i64 a', .int .i64 k', .int .i64 o', .int .u64 n'] 33)).cell? ⟨w.heap.size + 1, 3, none⟩ = some (.int .u64 n') := by go_simp
  have hz : w.heap.size + 2 ≤ ((w.alloc (.cells #[.int .i64 a, .int .i64 k, .int .i64 o, .int .u64 n] 33)).alloc (.cells #[.int .i64 a', .int .i64 k', .int .i64 o', .int .u64 n'] 33)).heap.size := by simp
  generalize (w.alloc (.cells #[.int .i64 a, .int .i64 k, .int .i64 o, .int .u64 n] 33)).alloc (.cells #[.int .i64 a', .int .i64 k', .int .i64 o', .int .u64 n'] 33) = w2 at *
  go_region_held3 (fun w' => w'.cell? ⟨w.heap.size, 0, none⟩ = some (.int .i64 a) ∧ w'.cell? ⟨w.heap.size, 1, none⟩ = some (.int .i64 k) ∧ w'.cell? ⟨w.heap.size, 2, none⟩ = some (.int .i64 o) ∧ w'.cell? ⟨w.heap.size, 3, none⟩ = some (.int .u64 n) ∧
      w'.cell? ⟨w.heap.size + 1, 0, none⟩ = some (.int .i64 a') ∧ w'.cell? ⟨w.heap.size + 1, 1, none⟩ = some (.int .i64 k') ∧ w'.cell? ⟨w.heap.size + 1, 2, none⟩ = some (.int .i64 o') ∧ w'.cell? ⟨w.heap.size + 1, 3, none⟩ = some (.int .u64 n')) (go_keep)
    (first | (go_at_call 28; refine (H0.out _).mono ?_; rintro e w' ⟨rfl, rfl⟩) | (go_at_call 29; refine (H1.out _ _ _).mono ?_; rintro e w' ⟨rfl, rfl⟩) | (go_at_call 30; refine (H3.out _).mono ?_; rintro e w' ⟨rfl, rfl⟩) | (go_at_call 27; refine (HO.out _ _ _ _ _).mono ?_; rintro e w' ⟨rfl, rfl⟩))
  generalize hF : firstN _ = F at *
  go_wp2
  go_ret
  exact ⟨ret_bool (by subst hF; exact HM.out), ((HB.out.alloc (by omega) _).drew)⟩
end Go.Proofs.Ytbhpinmdpngbkaa
