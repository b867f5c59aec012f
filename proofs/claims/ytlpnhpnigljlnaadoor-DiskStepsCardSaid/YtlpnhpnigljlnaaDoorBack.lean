/-
  Plain mathematics: what is laid down is taken, what is taken was laid down, how long it is, and what is cut off. No program stands here.
-/
import Derived.Test.YtlpnhpnigljlnaaDoorMath
namespace Go.Proofs.YtlpnhpnigljlnaaDoor.Pure

theorem octet_mod (n : Nat) : (UInt8.ofNat (n % 128 + 128)).toNat = n % 128 + 128 := by rw [UInt8.toNat_ofNat']; omega
theorem octet_small (n : Nat) (h : n < 128) : (UInt8.ofNat n).toNat = n := by rw [UInt8.toNat_ofNat']; omega

theorem take_cut : ∀ (f n i acc j : Nat), j < (numF f n).length → i + j ≤ 9 → takeL ((numF f n).take j) i acc = (0, 0, 3) := by
  intro f
  induction f with
  | zero => intro n i acc j h; simp [numF] at h
  | succ f ih =>
    intro n i acc j h hij
    rw [numF] at h ⊢
    rcases j with _ | j
    · simp [takeL]
    · split at h
      · simp at h
      · rename_i h1
        rw [if_neg h1, List.take_succ_cons, takeL, octet_mod, if_neg (by omega), if_neg (by omega)]
        exact ih _ _ _ _ (by simpa using h) (by omega)

theorem take_whole : ∀ (f n i acc : Nat) (rest : List UInt8), n < 128 ^ f → 1 ≤ f → (0 < i → 0 < n) → n * 128 ^ i < 2 ^ 64 → i ≤ 9 →
    takeL (numF f n ++ rest) i acc = (acc + n * 128 ^ i, i + (numF f n).length, 0) := by
  intro f
  induction f with
  | zero => intro n i acc rest _ h; omega
  | succ f ih =>
    intro n i acc rest hn _ h0 h64 hi
    have h9 : i = 9 → n < 2 := by
      rintro rfl
      have h2 : (128 : Nat) ^ 9 = 2 ^ 63 := by decide
      omega
    rw [numF]
    by_cases h1 : n < 128
    · rw [if_pos h1]
      simp only [List.cons_append, List.nil_append, takeL]
      rw [octet_small n h1, if_neg (by omega), if_pos h1, Nat.mod_eq_of_lt h1]
      simp
    · rw [if_neg h1]
      simp only [List.cons_append, takeL]
      have hf : 1 ≤ f := by
        rcases Nat.eq_zero_or_pos f with h | h
        · subst h; simp at hn; omega
        · exact h
      rw [octet_mod, if_neg (by omega), if_neg (by omega)]
      have hq : n / 128 * 128 ^ (i + 1) ≤ n * 128 ^ i := by
        rw [Nat.pow_succ, Nat.mul_comm (128 ^ i) 128, ← Nat.mul_assoc]
        exact Nat.mul_le_mul_right _ (Nat.div_mul_le_self n 128)
      rw [ih (n / 128) (i + 1) _ rest (by rw [Nat.pow_succ] at hn; omega) hf (by omega) (by omega) (by omega)]
      refine Prod.ext ?_ (Prod.ext ?_ rfl)
      · show acc + (n % 128 + 128) % 128 * 128 ^ i + n / 128 * 128 ^ (i + 1) = acc + n * 128 ^ i
        rw [Nat.add_mod_right, Nat.mod_mod, Nat.pow_succ, Nat.mul_comm (128 ^ i) 128, ← Nat.mul_assoc, Nat.add_assoc, ← Nat.add_mul]
        congr 2; omega
      · simp; omega
theorem take_num (n : Nat) (rest : List UInt8) (h : n < 2 ^ 64) : takeL (num n ++ rest) 0 0 = (n, (num n).length, 0) := by
  have h10 : (128 : Nat) ^ 10 = 2 ^ 70 := by decide
  have := take_whole 10 n 0 0 rest (by omega) (by omega) (by omega) (by simpa using h) (by omega)
  simpa [num] using this

theorem numF_fuel (x : Nat) : ∀ (k f : Nat), 1 ≤ f → x < 128 ^ f → numF (f + k) x = numF f x := by
  intro k
  induction k with
  | zero => intro f _ _; rfl
  | succ k ih =>
    intro f hf hx
    obtain ⟨g, rfl⟩ : ∃ g, f = g + 1 := ⟨f - 1, by omega⟩
    rw [show g + 1 + (k + 1) = (g + k) + 2 by omega, numF_more (g + k) x (Nat.lt_of_lt_of_le hx (Nat.pow_le_pow_right (by decide) (by omega))), show g + k + 1 = g + 1 + k by omega]
    exact ih (g + 1) hf hx

theorem take_back : ∀ (l : List UInt8) (i acc m p : Nat), i ≤ 9 → takeL l i acc = (m, p, 0) →
    ∃ x, m = acc + x * 128 ^ i ∧ x < 128 ^ (p - i) ∧ l.take (p - i) = numF (p - i) x ∧ i < p ∧ p ≤ 10 ∧ p ≤ i + l.length ∧ (0 < i → 0 < x) := by
  intro l
  induction l with
  | nil => intro i acc m p _ h; simp [takeL] at h
  | cons o r ih =>
    intro i acc m p hi h
    have ho := o.toNat_lt
    rw [takeL] at h
    split at h
    · simp at h
    · rename_i hb
      split at h
      · rename_i hs
        simp only [Prod.mk.injEq] at h
        obtain ⟨rfl, rfl, _⟩ := h
        refine ⟨o.toNat, by rw [Nat.mod_eq_of_lt hs], by simpa using hs, ?_, by omega, by omega, by simp, by omega⟩
        rw [show i + 1 - i = 1 by omega, numF, if_pos hs]
        simp
      · rename_i hs
        obtain ⟨x, h1, h2, h3, h4, h5, h6, h7⟩ := ih (i + 1) _ m p (by omega) h
        have hx := h7 (by omega)
        have hp : p - i = (p - (i + 1)) + 1 := by omega
        refine ⟨o.toNat % 128 + 128 * x, ?_, ?_, ?_, by omega, h5, by simp; omega, by omega⟩
        · rw [h1, Nat.pow_succ, Nat.add_mul, Nat.add_assoc]
          congr 2
          rw [Nat.mul_comm 128 x, Nat.mul_assoc, Nat.mul_comm 128 (128 ^ i)]
        · rw [hp, Nat.pow_succ]; omega
        · rw [hp, List.take_succ_cons, h3, numF, if_neg (by omega)]
          congr 1
          · apply UInt8.toNat_inj.1
            rw [octet_mod]; omega
          · congr 1; omega
theorem back_num (l : List UInt8) (m p : Nat) (h : takeL l 0 0 = (m, p, 0)) : 0 < p ∧ p ≤ l.length ∧ num m = l.take p := by
  obtain ⟨x, h1, h2, h3, h4, h5, h6, _⟩ := take_back l 0 0 m p (by omega) h
  have hm : m = x := by simpa using h1
  subst hm
  refine ⟨h4, by omega, ?_⟩
  rw [Nat.sub_zero] at h2 h3
  rw [h3, num, show 10 = p + (10 - p) by omega]
  exact numF_fuel m (10 - p) p h4 h2
theorem take_bound : ∀ (l : List UInt8) (i acc m p : Nat), i ≤ 9 → acc < 128 ^ i → takeL l i acc = (m, p, 0) → m < 2 ^ 64 := by
  intro l
  induction l with
  | nil => intro i acc m p _ _ h; simp [takeL] at h
  | cons o r ih =>
    intro i acc m p hi ha h
    have ho := o.toNat_lt
    rw [takeL] at h
    split at h
    · simp at h
    · rename_i hb
      split at h
      · rename_i hs
        simp only [Prod.mk.injEq] at h
        obtain ⟨rfl, rfl, _⟩ := h
        rcases Nat.lt_or_ge i 9 with h9 | h9
        · have h8 : (128 : Nat) ^ 8 = 72057594037927936 := by decide
          have h1 : 128 ^ i ≤ 128 ^ 8 := Nat.pow_le_pow_right (by decide) (by omega)
          have h2 : o.toNat % 128 * 128 ^ i ≤ 127 * 128 ^ i := Nat.mul_le_mul_right _ (by omega)
          omega
        · obtain rfl : i = 9 := by omega
          have h9 : (128 : Nat) ^ 9 = 9223372036854775808 := by decide
          have h3 : o.toNat % 128 * 128 ^ 9 ≤ 1 * 128 ^ 9 := Nat.mul_le_mul_right _ (by omega)
          omega
      · refine ih (i + 1) _ m p (by omega) ?_ h
        rw [Nat.pow_succ]
        have h2 : o.toNat % 128 * 128 ^ i ≤ 127 * 128 ^ i := Nat.mul_le_mul_right _ (by omega)
        omega
theorem take_small (l : List UInt8) (m p : Nat) (h : takeL l 0 0 = (m, p, 0)) : m < 2 ^ 64 := take_bound l 0 0 m p (by omega) (by simp) h

theorem numF_size : ∀ (f n : Nat), n < 128 ^ (f + 1) → 1 ≤ (numF (f + 1) n).length ∧ n < 128 ^ (numF (f + 1) n).length ∧ (1 < (numF (f + 1) n).length → 128 ^ ((numF (f + 1) n).length - 1) ≤ n) := by
  intro f
  induction f with
  | zero =>
    intro n h
    have h1 : n < 128 := by simpa using h
    rw [numF, if_pos h1]; simpa using h1
  | succ f ih =>
    intro n h
    rw [numF]
    by_cases h1 : n < 128
    · rw [if_pos h1]; simpa using h1
    · rw [if_neg h1]
      obtain ⟨a, b, c⟩ := ih (n / 128) (by rw [Nat.pow_succ] at h; omega)
      simp only [List.length_cons]
      generalize (numF (f + 1) (n / 128)).length = L at *
      refine ⟨by omega, by rw [Nat.pow_succ]; omega, fun _ => ?_⟩
      rw [Nat.add_sub_cancel]
      obtain ⟨k, rfl⟩ : ∃ k, L = k + 1 := ⟨L - 1, by omega⟩
      rcases Nat.eq_zero_or_pos k with hk | hk
      · subst hk; simp; omega
      · have := c (by omega)
        rw [Nat.add_sub_cancel] at this
        rw [Nat.pow_succ]; omega
theorem num_size (n : Nat) (h : n < 2 ^ 64) : 1 ≤ (num n).length ∧ n < 128 ^ (num n).length ∧ (1 < (num n).length → 128 ^ ((num n).length - 1) ≤ n) :=
  numF_size 9 n (by have h10 : (128 : Nat) ^ 10 = 2 ^ 70 := by decide
                    omega)
theorem num_mono (n m : Nat) (h : n ≤ m) (hm : m < 2 ^ 64) : (num n).length ≤ (num m).length := by
  obtain ⟨a, b, c⟩ := num_size n (by omega)
  obtain ⟨a', b', c'⟩ := num_size m hm
  rcases Nat.lt_or_ge (num m).length (num n).length with hl | hl
  · have h1 := c (by omega)
    have h2 : 128 ^ (num m).length ≤ 128 ^ ((num n).length - 1) := Nat.pow_le_pow_right (by decide) (by omega)
    omega
  · exact hl
end Go.Proofs.YtlpnhpnigljlnaaDoor.Pure
