/-
  The walks of Seal and Open, of the program and of the document.
-/
import Derived.Laws.BitsAllLaws
import Derived.Laws.BitsLemmas
import Derived.Laws.Concat
import Derived.Laws.Strings
import Derived.Lib.Strings
import Derived.IntWalk
import Derived.Test.YtjeepmdklbfgeaaDoorRows
import Derived.WalkKit
import Derived.WalkLawsBesides
import Derived.Lib.Hide
import Derived.Laws.IdiomStrings
import Derived.Deep.RegionWith
import Derived.WalkSpells
import Derived.BigQuiet
import Derived.Deep.QuietTactic
namespace Go.Proofs.YtjeepmdklbfgeaaDoor.W.Pure

/-- The octets of a number below 128 ^ f, f at least 1. -/
def numF : Nat → Nat → List UInt8
  | 0, _ => []
  | f + 1, n => if n < 128 then [UInt8.ofNat n] else UInt8.ofNat (n % 128 + 128) :: numF f (n / 128)
/-- The octets of a number of 64 bits. -/
def num (n : Nat) : List UInt8 := numF 10 n
/-- The octets of numbers, one behind the other. -/
def nums (l : List Nat) : List UInt8 := (l.map num).flatten

theorem numF_more (f : Nat) : ∀ (n : Nat), n < 128 ^ (f + 1) → numF (f + 2) n = numF (f + 1) n := by
  induction f with
  | zero =>
    intro n h
    have h1 : n < 128 := by simpa using h
    simp [numF, h1]
  | succ f ih =>
    intro n h
    rw [numF]
    by_cases h1 : n < 128
    · rw [if_pos h1, numF, if_pos h1]
    · rw [if_neg h1, ih (n / 128) (by rw [Nat.pow_succ] at h; omega)]
      conv => rhs; rw [numF]
      rw [if_neg h1]

/-- What is taken from the octets o :: r: the number n is there of the first i. The result: the number, how many octets, the error's number. -/
def takeL : List UInt8 → Nat → Nat → Nat × Nat × Nat
  | [], _, _ => (0, 0, 3)
  | o :: r, i, n =>
    if 0 < i ∧ o.toNat = 0 ∨ i = 9 ∧ 1 < o.toNat then (0, 0, 2)
    else if o.toNat < 128 then (n + o.toNat % 128 * 128 ^ i, i + 1, 0)
    else takeL r (i + 1) (n + o.toNat % 128 * 128 ^ i)

theorem drop_at (s : ByteArray) (i : Nat) (h : i < s.size) : s.data.toList.drop i = s[i] :: s.data.toList.drop (i + 1) := by
  rw [List.drop_eq_getElem_cons (by simpa using h)]; rfl
theorem drop_out (s : ByteArray) (i : Nat) (h : s.size ≤ i) : s.data.toList.drop i = [] := List.drop_eq_nil_of_le (by simpa using h)

/-- The first k octets from a on are taken, the number N is there of them. -/
def TakeInv (s : ByteArray) (a k N : Nat) : Prop :=
  takeL (s.data.toList.drop a) 0 0 = takeL (s.data.toList.drop (a + k)) k N ∧ N < 128 ^ k ∧ k ≤ 9 ∧ a + k ≤ s.size
theorem take_zero (s : ByteArray) (a : Nat) (h : a ≤ s.size) : TakeInv s a 0 0 := ⟨rfl, by simp, by omega, h⟩
theorem take_out {s : ByteArray} {a k N : Nat} (h : TakeInv s a k N) (hk : s.size ≤ a + k) : takeL (s.data.toList.drop a) 0 0 = (0, 0, 3) := by
  rw [h.1, drop_out _ _ hk, takeL]
theorem take_bad {s : ByteArray} {a k N : Nat} (h : TakeInv s a k N) (hk : a + k < s.size) (hb : 0 < k ∧ s[a + k].toNat = 0 ∨ k = 9 ∧ 1 < s[a + k].toNat) : takeL (s.data.toList.drop a) 0 0 = (0, 0, 2) := by
  rw [h.1, drop_at _ _ hk, takeL, if_pos hb]
theorem take_end {s : ByteArray} {a k N : Nat} (h : TakeInv s a k N) (hk : a + k < s.size) (hb : ¬ (0 < k ∧ s[a + k].toNat = 0 ∨ k = 9 ∧ 1 < s[a + k].toNat)) (ho : s[a + k].toNat < 128) :
    takeL (s.data.toList.drop a) 0 0 = (N + s[a + k].toNat % 128 * 128 ^ k, k + 1, 0) := by
  rw [h.1, drop_at _ _ hk, takeL, if_neg hb, if_pos ho]
theorem take_on {s : ByteArray} {a k N : Nat} (h : TakeInv s a k N) (hk : a + k < s.size) (hb : ¬ (0 < k ∧ s[a + k].toNat = 0 ∨ k = 9 ∧ 1 < s[a + k].toNat)) (ho : 128 ≤ s[a + k].toNat) :
    TakeInv s a (k + 1) (N + s[a + k].toNat % 128 * 128 ^ k) := by
  obtain ⟨h1, h2, h3, h4⟩ := h
  refine ⟨?_, ?_, by omega, by omega⟩
  · rw [h1, drop_at _ _ hk, takeL, if_neg hb, if_neg (by omega), Nat.add_assoc]
  · rw [Nat.pow_succ]
    have : s[a + k].toNat % 128 * 128 ^ k ≤ 127 * 128 ^ k := Nat.mul_le_mul_right _ (by omega)
    omega

theorem pow_128 (k : Nat) : 128 ^ k = 2 ^ (7 * k) := by rw [show (128 : Nat) = 2 ^ 7 from rfl, ← Nat.pow_mul]
theorem num_small (k o : Nat) (hk : k ≤ 9) (h9 : k = 9 → o ≤ 1) (ho : o < 256) : o % 128 * 128 ^ k < 2 ^ 64 := by
  have h8 : 128 ^ 8 = 2 ^ 56 := by decide
  rcases Nat.lt_or_ge k 9 with h | h
  · have h1 : 128 ^ k ≤ 128 ^ 8 := Nat.pow_le_pow_right (by decide) (by omega)
    have h2 : o % 128 * 128 ^ k ≤ 127 * 128 ^ 8 := Nat.mul_le_mul (by omega) h1
    omega
  · obtain rfl : k = 9 := by omega
    have h1 := h9 rfl
    have h2 : 128 ^ 9 = 2 ^ 63 := by decide
    have h3 : o % 128 * 128 ^ 9 ≤ 1 * 128 ^ 9 := Nat.mul_le_mul_right _ (by omega)
    omega
theorem mask127 {c : Int} (h0 : 0 ≤ c) (h1 : c ≤ 255) : bits .and .u8 c 127 = c % 128 := bits_mask .u8 8 (by decide) wraps_u8 7 (by decide) c h0 (by omega)
theorem mask_octet (o : UInt8) : bits .and .u8 (o.toNat : Int) 127 = ((o.toNat % 128 : Nat) : Int) := by
  have := o.toNat_lt
  rw [mask127 (by omega) (by omega)]; omega
/-- 'n |= uint64(o & 127) << (7 * i)', as the walk writes it. -/
theorem or_shl (N k o : Nat) (hN : N < 128 ^ k) (hk : k ≤ 9) (h9 : k = 9 → o ≤ 1) (ho : o < 256) :
    bits .or .u64 (N : Int) (IntKind.u64.wrap (((o % 128 : Nat) : Int) * 2 ^ (7 * k))) = ((N + o % 128 * 128 ^ k : Nat) : Int) := by
  have hs := num_small k o hk h9 ho
  have hk9 : 128 ^ k ≤ 128 ^ 9 := Nat.pow_le_pow_right (by decide) hk
  have h2 : 128 ^ 9 = 2 ^ 63 := by decide
  have e1 : (((o % 128 : Nat) : Int) * 2 ^ (7 * k)) = ((o % 128 * 128 ^ k : Nat) : Int) := by rw [pow_128]; norm_cast
  rw [e1, show IntKind.u64.wrap ((o % 128 * 128 ^ k : Nat) : Int) = ((o % 128 * 128 ^ k : Nat) : Int) from IntWalk.u64_in _ ⟨by omega, by omega⟩]
  rw [u64_or_nat _ _ (by omega) (by omega), Nat.or_comm, nat_join (7 * k) _ _ (by rw [pow_128]; exact Nat.mul_mod_left _ _) (by rw [← pow_128]; exact hN), Nat.add_comm]

theorem or_shl' (N k o : Nat) (hN : N < 128 ^ k) (hk : k ≤ 9) (h9 : k = 9 → o ≤ 1) (ho : o < 256) :
    bits .or .u64 (N : Int) (IntKind.u64.wrap ((o : Int) % 128 * 2 ^ (7 * k))) = ((N + o % 128 * 128 ^ k : Nat) : Int) := by
  have := or_shl N k o hN hk h9 ho
  rwa [Int.natCast_emod] at this
theorem or_shl9 (N o : Nat) (hN : N < 128 ^ 9) (h9 : o ≤ 1) :
    bits .or .u64 (N : Int) ((o : Int) % 128 * 9223372036854775808) = ((N + o % 128 * 128 ^ 9 : Nat) : Int) := by
  have := or_shl' N 9 o hN (by omega) (fun _ => h9) (by omega)
  rw [IntWalk.u64_in _ ⟨by omega, by omega⟩] at this
  exact this
theorem or_shl0 (N o : Nat) (hN : N < 128 ^ 0) (ho : o < 256) :
    bits .or .u64 (N : Int) ((o : Int) % 128) = ((N + o % 128 * 128 ^ 0 : Nat) : Int) := by
  have := or_shl' N 0 o hN (by omega) (by omega) ho
  rw [IntWalk.u64_in _ ⟨by omega, by omega⟩] at this
  simpa using this

/-- How the octets of a number that are laid down already, and those that are not, make the whole. -/
def NumInv (tot pre acc : List UInt8) (x : Nat) : Prop := ∃ f, f ≤ 10 ∧ x < 128 ^ f ∧ 1 ≤ f ∧ acc.length + f ≤ pre.length + 10 ∧ tot = acc ++ numF f x
theorem num_begin (pre : List UInt8) (z : Nat) (h : z < 2 ^ 64) : NumInv (pre ++ num z) pre pre z :=
  ⟨10, by omega, by have : (128 : Nat) ^ 10 = 2 ^ 70 := by decide
                    omega, by omega, by omega, rfl⟩
theorem num_on {tot pre acc : List UInt8} {x : Nat} (h : NumInv tot pre acc x) (hx : 128 ≤ x) : NumInv tot pre (acc ++ [UInt8.ofNat (x % 128 + 128)]) (x / 128) := by
  obtain ⟨f, h1, h2, h3, h4, h5⟩ := h
  obtain ⟨f, rfl⟩ : ∃ g, f = g + 1 := ⟨f - 1, by omega⟩
  have hf : 1 ≤ f := by
    rcases Nat.eq_zero_or_pos f with h | h
    · subst h; simp at h2; omega
    · exact h
  refine ⟨f, by omega, by rw [Nat.pow_succ] at h2; omega, hf, by simp; omega, ?_⟩
  rw [h5, numF, if_neg (by omega)]
  simp
theorem num_stop {tot pre acc : List UInt8} {x : Nat} (h : NumInv tot pre acc x) (hx : x < 128) : tot = acc ++ [UInt8.ofNat x] := by
  obtain ⟨f, h1, h2, h3, h4, h5⟩ := h
  obtain ⟨f, rfl⟩ : ∃ g, f = g + 1 := ⟨f - 1, by omega⟩
  rw [h5, numF, if_pos hx]
theorem num_len {tot pre acc : List UInt8} {x : Nat} (h : NumInv tot pre acc x) : acc.length ≤ pre.length + 9 := by
  obtain ⟨f, h1, h2, h3, h4, h5⟩ := h
  omega
theorem numF_len (f : Nat) : ∀ n, (numF f n).length ≤ f := by
  induction f with
  | zero => intro n; simp [numF]
  | succ f ih =>
    intro n
    rw [numF]
    split
    · simp
    · have := ih (n / 128); simp; omega
theorem num_le (n : Nat) : (num n).length ≤ 10 := numF_len 10 n
theorem nums_len (l : List Nat) : (nums l).length ≤ 10 * l.length := by
  induction l with
  | nil => simp [nums]
  | cons n l ih => have := num_le n; simp [nums] at ih ⊢; omega
theorem nums_snoc (l : List Nat) (k : Nat) (h : k < l.length) : nums (l.take (k + 1)) = nums (l.take k) ++ num l[k] := by
  unfold nums
  rw [List.take_succ_eq_append_getElem h, List.map_append, List.flatten_append]; simp

theorem or_128 : ∀ m : Fin 256, (m.val ||| 128) = m.val % 128 + 128 := by decide +kernel
theorem octet_on (y : Nat) : bits .or .u8 ((y : Int) % 256) 128 = ((UInt8.ofNat (y % 128 + 128)).toNat : Int) := by
  rw [u8_or _ _ (by omega) (by omega) (by omega) (by omega)]
  have h := or_128 ⟨((y : Int) % 256).toNat, by omega⟩
  simp only at h
  rw [show (128 : Int).toNat = 128 from rfl, h, UInt8.toNat_ofNat']
  omega
theorem octet_last (y : Nat) (h : y < 128) : (y : Int) = ((UInt8.ofNat y).toNat : Int) := by
  rw [UInt8.toNat_ofNat']
  omega

end Go.Proofs.YtjeepmdklbfgeaaDoor.W.Pure

namespace Go.Proofs.YtjeepmdklbfgeaaDoor.W.Pure

theorem octet_mod (n : Nat) : (UInt8.ofNat (n % 128 + 128)).toNat = n % 128 + 128 := by rw [UInt8.toNat_ofNat']; omega
theorem octet_small (n : Nat) (h : n < 128) : (UInt8.ofNat n).toNat = n := by rw [UInt8.toNat_ofNat']; omega

theorem take_cut : ∀ (f n i acc j : Nat), j < (numF f n).length → i + j ≤ 9 → takeL ((numF f n).take j) i acc = (0, 0, 3) := by
  intro f
  induction f with
  | zero => intro n i acc j h; simp [numF] at h
  | succ f ih =>
    intro n i acc j h hij
    rw [numF] at h ⊢
    rcases j with _ | j
    · simp [takeL]
    · split at h
      · simp at h
      · rename_i h1
        rw [if_neg h1, List.take_succ_cons, takeL, octet_mod, if_neg (by omega), if_neg (by omega)]
        exact ih _ _ _ _ (by simpa using h) (by omega)

theorem take_whole : ∀ (f n i acc : Nat) (rest : List UInt8), n < 128 ^ f → 1 ≤ f → (0 < i → 0 < n) → n * 128 ^ i < 2 ^ 64 → i ≤ 9 →
    takeL (numF f n ++ rest) i acc = (acc + n * 128 ^ i, i + (numF f n).length, 0) := by
  intro f
  induction f with
  | zero => intro n i acc rest _ h; omega
  | succ f ih =>
    intro n i acc rest hn _ h0 h64 hi
    have h9 : i = 9 → n < 2 := by
      rintro rfl
      have h2 : (128 : Nat) ^ 9 = 2 ^ 63 := by decide
      omega
    rw [numF]
    by_cases h1 : n < 128
    · rw [if_pos h1]
      simp only [List.cons_append, List.nil_append, takeL]
      rw [octet_small n h1, if_neg (by omega), if_pos h1, Nat.mod_eq_of_lt h1]
      simp
    · rw [if_neg h1]
      simp only [List.cons_append, takeL]
      have hf : 1 ≤ f := by
        rcases Nat.eq_zero_or_pos f with h | h
        · subst h; simp at hn; omega
        · exact h
      rw [octet_mod, if_neg (by omega), if_neg (by omega)]
      have hq : n / 128 * 128 ^ (i + 1) ≤ n * 128 ^ i := by
        rw [Nat.pow_succ, Nat.mul_comm (128 ^ i) 128, ← Nat.mul_assoc]
        exact Nat.mul_le_mul_right _ (Nat.div_mul_le_self n 128)
      rw [ih (n / 128) (i + 1) _ rest (by rw [Nat.pow_succ] at hn; omega) hf (by omega) (by omega) (by omega)]
      refine Prod.ext ?_ (Prod.ext ?_ rfl)
      · show acc + (n % 128 + 128) % 128 * 128 ^ i + n / 128 * 128 ^ (i + 1) = acc + n * 128 ^ i
        rw [Nat.add_mod_right, Nat.mod_mod, Nat.pow_succ, Nat.mul_comm (128 ^ i) 128, ← Nat.mul_assoc, Nat.add_assoc, ← Nat.add_mul]
        congr 2; omega
      · simp; omega
theorem take_num (n : Nat) (rest : List UInt8) (h : n < 2 ^ 64) : takeL (num n ++ rest) 0 0 = (n, (num n).length, 0) := by
  have h10 : (128 : Nat) ^ 10 = 2 ^ 70 := by decide
  have := take_whole 10 n 0 0 rest (by omega) (by omega) (by omega) (by simpa using h) (by omega)
  simpa [num] using this

theorem numF_fuel (x : Nat) : ∀ (k f : Nat), 1 ≤ f → x < 128 ^ f → numF (f + k) x = numF f x := by
  intro k
  induction k with
  | zero => intro f _ _; rfl
  | succ k ih =>
    intro f hf hx
    obtain ⟨g, rfl⟩ : ∃ g, f = g + 1 := ⟨f - 1, by omega⟩
    rw [show g + 1 + (k + 1) = (g + k) + 2 by omega, numF_more (g + k) x (Nat.lt_of_lt_of_le hx (Nat.pow_le_pow_right (by decide) (by omega))), show g + k + 1 = g + 1 + k by omega]
    exact ih (g + 1) hf hx

theorem take_back : ∀ (l : List UInt8) (i acc m p : Nat), i ≤ 9 → takeL l i acc = (m, p, 0) →
    ∃ x, m = acc + x * 128 ^ i ∧ x < 128 ^ (p - i) ∧ l.take (p - i) = numF (p - i) x ∧ i < p ∧ p ≤ 10 ∧ p ≤ i + l.length ∧ (0 < i → 0 < x) := by
  intro l
  induction l with
  | nil => intro i acc m p _ h; simp [takeL] at h
  | cons o r ih =>
    intro i acc m p hi h
    have ho := o.toNat_lt
    rw [takeL] at h
    split at h
    · simp at h
    · rename_i hb
      split at h
      · rename_i hs
        simp only [Prod.mk.injEq] at h
        obtain ⟨rfl, rfl, _⟩ := h
        refine ⟨o.toNat, by rw [Nat.mod_eq_of_lt hs], by simpa using hs, ?_, by omega, by omega, by simp, by omega⟩
        rw [show i + 1 - i = 1 by omega, numF, if_pos hs]
        simp
      · rename_i hs
        obtain ⟨x, h1, h2, h3, h4, h5, h6, h7⟩ := ih (i + 1) _ m p (by omega) h
        have hx := h7 (by omega)
        have hp : p - i = (p - (i + 1)) + 1 := by omega
        refine ⟨o.toNat % 128 + 128 * x, ?_, ?_, ?_, by omega, h5, by simp; omega, by omega⟩
        · rw [h1, Nat.pow_succ, Nat.add_mul, Nat.add_assoc]
          congr 2
          rw [Nat.mul_comm 128 x, Nat.mul_assoc, Nat.mul_comm 128 (128 ^ i)]
        · rw [hp, Nat.pow_succ]; omega
        · rw [hp, List.take_succ_cons, h3, numF, if_neg (by omega)]
          congr 1
          · apply UInt8.toNat_inj.1
            rw [octet_mod]; omega
          · congr 1; omega
theorem back_num (l : List UInt8) (m p : Nat) (h : takeL l 0 0 = (m, p, 0)) : 0 < p ∧ p ≤ l.length ∧ num m = l.take p := by
  obtain ⟨x, h1, h2, h3, h4, h5, h6, _⟩ := take_back l 0 0 m p (by omega) h
  have hm : m = x := by simpa using h1
  subst hm
  refine ⟨h4, by omega, ?_⟩
  rw [Nat.sub_zero] at h2 h3
  rw [h3, num, show 10 = p + (10 - p) by omega]
  exact numF_fuel m (10 - p) p h4 h2
theorem take_bound : ∀ (l : List UInt8) (i acc m p : Nat), i ≤ 9 → acc < 128 ^ i → takeL l i acc = (m, p, 0) → m < 2 ^ 64 := by
  intro l
  induction l with
  | nil => intro i acc m p _ _ h; simp [takeL] at h
  | cons o r ih =>
    intro i acc m p hi ha h
    have ho := o.toNat_lt
    rw [takeL] at h
    split at h
    · simp at h
    · rename_i hb
      split at h
      · rename_i hs
        simp only [Prod.mk.injEq] at h
        obtain ⟨rfl, rfl, _⟩ := h
        rcases Nat.lt_or_ge i 9 with h9 | h9
        · have h8 : (128 : Nat) ^ 8 = 72057594037927936 := by decide
          have h1 : 128 ^ i ≤ 128 ^ 8 := Nat.pow_le_pow_right (by decide) (by omega)
          have h2 : o.toNat % 128 * 128 ^ i ≤ 127 * 128 ^ i := Nat.mul_le_mul_right _ (by omega)
          omega
        · obtain rfl : i = 9 := by omega
          have h9 : (128 : Nat) ^ 9 = 9223372036854775808 := by decide
          have h3 : o.toNat % 128 * 128 ^ 9 ≤ 1 * 128 ^ 9 := Nat.mul_le_mul_right _ (by omega)
          omega
      · refine ih (i + 1) _ m p (by omega) ?_ h
        rw [Nat.pow_succ]
        have h2 : o.toNat % 128 * 128 ^ i ≤ 127 * 128 ^ i := Nat.mul_le_mul_right _ (by omega)
        omega
theorem take_small (l : List UInt8) (m p : Nat) (h : takeL l 0 0 = (m, p, 0)) : m < 2 ^ 64 := take_bound l 0 0 m p (by omega) (by simp) h

theorem numF_size : ∀ (f n : Nat), n < 128 ^ (f + 1) → 1 ≤ (numF (f + 1) n).length ∧ n < 128 ^ (numF (f + 1) n).length ∧ (1 < (numF (f + 1) n).length → 128 ^ ((numF (f + 1) n).length - 1) ≤ n) := by
  intro f
  induction f with
  | zero =>
    intro n h
    have h1 : n < 128 := by simpa using h
    rw [numF, if_pos h1]; simpa using h1
  | succ f ih =>
    intro n h
    rw [numF]
    by_cases h1 : n < 128
    · rw [if_pos h1]; simpa using h1
    · rw [if_neg h1]
      obtain ⟨a, b, c⟩ := ih (n / 128) (by rw [Nat.pow_succ] at h; omega)
      simp only [List.length_cons]
      generalize (numF (f + 1) (n / 128)).length = L at *
      refine ⟨by omega, by rw [Nat.pow_succ]; omega, fun _ => ?_⟩
      rw [Nat.add_sub_cancel]
      obtain ⟨k, rfl⟩ : ∃ k, L = k + 1 := ⟨L - 1, by omega⟩
      rcases Nat.eq_zero_or_pos k with hk | hk
      · subst hk; simp; omega
      · have := c (by omega)
        rw [Nat.add_sub_cancel] at this
        rw [Nat.pow_succ]; omega
theorem num_size (n : Nat) (h : n < 2 ^ 64) : 1 ≤ (num n).length ∧ n < 128 ^ (num n).length ∧ (1 < (num n).length → 128 ^ ((num n).length - 1) ≤ n) :=
  numF_size 9 n (by have h10 : (128 : Nat) ^ 10 = 2 ^ 70 := by decide
                    omega)
theorem num_mono (n m : Nat) (h : n ≤ m) (hm : m < 2 ^ 64) : (num n).length ≤ (num m).length := by
  obtain ⟨a, b, c⟩ := num_size n (by omega)
  obtain ⟨a', b', c'⟩ := num_size m hm
  rcases Nat.lt_or_ge (num m).length (num n).length with hl | hl
  · have h1 := c (by omega)
    have h2 : 128 ^ (num m).length ≤ 128 ^ ((num n).length - 1) := Nat.pow_le_pow_right (by decide) (by omega)
    omega
  · exact hl
end Go.Proofs.YtjeepmdklbfgeaaDoor.W.Pure

namespace Go.Proofs.YtjeepmdklbfgeaaDoor.Crc

/-- One halving of the register. -/
def step (r : BitVec 32) : BitVec 32 := (r >>> 1) ^^^ (if r.getLsbD 0 then 0xedb88320#32 else 0#32)
def steps : Nat → BitVec 32 → BitVec 32
  | 0, r => r
  | n + 1, r => steps n (step r)
/-- An octet into the register. -/
def octet (r : BitVec 32) (o : UInt8) : BitVec 32 := steps 8 (r ^^^ BitVec.ofNat 32 o.toNat)
def reg (r : BitVec 32) (l : List UInt8) : BitVec 32 := l.foldl octet r
/-- The octets' sum. -/
def crc (l : List UInt8) : BitVec 32 := ~~~ reg 0xffffffff#32 l

theorem xor4 (a b c d : BitVec 32) : (a ^^^ b) ^^^ (c ^^^ d) = (a ^^^ c) ^^^ (b ^^^ d) := by
  ext i; simp; cases a[i] <;> cases b[i] <;> cases c[i] <;> cases d[i] <;> rfl
theorem step_xor (a b : BitVec 32) : step (a ^^^ b) = step a ^^^ step b := by
  unfold step
  rw [xor4]
  congr 1
  · ext i; simp
  · rw [BitVec.getLsbD_xor]
    cases a.getLsbD 0 <;> cases b.getLsbD 0 <;> simp
theorem steps_xor (n : Nat) : ∀ a b : BitVec 32, steps n (a ^^^ b) = steps n a ^^^ steps n b := by
  induction n with
  | zero => intro a b; rfl
  | succ n ih => intro a b; rw [steps, step_xor, ih]; rfl
theorem step_zero : step 0#32 = 0#32 := by decide
theorem steps_zero (n : Nat) : steps n 0#32 = 0#32 := by
  induction n with
  | zero => rfl
  | succ n ih => rw [steps, step_zero, ih]
theorem steps_add (n m : Nat) : ∀ a : BitVec 32, steps (n + m) a = steps m (steps n a) := by
  induction n with
  | zero => intro a; simp [steps]
  | succ n ih => intro a; rw [Nat.succ_add, steps, ih]; rfl
/-- Nothing but nought comes to nought. -/
theorem step_back (x : BitVec 32) (h : step x = 0#32) : x = 0#32 := by
  unfold step at h
  have h31 : (x >>> 1 ^^^ (if x.getLsbD 0 then 0xedb88320#32 else 0#32)).getLsbD 31 = false := by rw [h]; rfl
  have h0 : x.getLsbD 0 = false := by
    cases e : x.getLsbD 0 with
    | false => rfl
    | true => rw [e] at h31; simp at h31
  rw [h0] at h
  simp at h
  ext i hi
  rcases Nat.eq_zero_or_pos i with rfl | hp
  · simpa [BitVec.getLsbD_eq_getElem] using h0
  · have := congrArg (fun y => y.getLsbD (i - 1)) h
    simp at this
    rw [show 1 + (i - 1) = i by omega] at this
    simpa [BitVec.getLsbD_eq_getElem, hi] using this
theorem steps_back (n : Nat) : ∀ x : BitVec 32, steps n x = 0#32 → x = 0#32 := by
  induction n with
  | zero => intro x h; exact h
  | succ n ih => intro x h; exact step_back x (ih _ h)
theorem xor_eq_zero {a b : BitVec 32} : a ^^^ b = 0#32 ↔ a = b := by
  constructor
  · intro h
    have : a ^^^ b ^^^ b = 0#32 ^^^ b := by rw [h]
    rwa [BitVec.xor_assoc, BitVec.xor_self, BitVec.xor_zero, BitVec.zero_xor] at this
  · rintro rfl; exact BitVec.xor_self
theorem steps_inj (n : Nat) {a b : BitVec 32} (h : steps n a = steps n b) : a = b := by
  apply xor_eq_zero.1
  apply steps_back n
  rw [steps_xor, h, BitVec.xor_self]

/-- What the four lowest bits come to in four halvings. -/
theorem step_even (x : BitVec 32) (h : x.getLsbD 0 = false) : step x = x >>> 1 := by unfold step; rw [h]; simp
theorem steps_shl (y : BitVec 32) : steps 4 ((y >>> 4) <<< 4) = y >>> 4 := by
  rw [steps, step_even _ (by simp), steps, step_even _ (by simp), ← BitVec.shiftRight_add]
  rw [steps, step_even _ (by simp), ← BitVec.shiftRight_add, steps, step_even _ (by simp), ← BitVec.shiftRight_add, steps]
  ext i hi
  simp
  intro h
  exact BitVec.lt_of_getLsbD h
theorem split4 (q : BitVec 32) : q = ((q >>> 4) <<< 4) ^^^ BitVec.ofNat 32 (q.toNat % 16) := by
  apply BitVec.eq_of_toNat_eq
  have hq := q.isLt
  have h16 : q.toNat % 16 < 2 ^ 4 := by omega
  rw [BitVec.toNat_xor, BitVec.toNat_shiftLeft, BitVec.toNat_ushiftRight, BitVec.toNat_ofNat, Nat.shiftRight_eq_div_pow, Nat.shiftLeft_eq,
    Nat.mod_eq_of_lt (a := q.toNat % 16) (by omega), Nat.mod_eq_of_lt (a := q.toNat / 2 ^ 4 * 2 ^ 4) (by omega)]
  have h := nat_join 4 (q.toNat / 2 ^ 4 * 2 ^ 4) (q.toNat % 16) (Nat.mul_mod_left _ _) h16
  have hx : q.toNat / 2 ^ 4 * 2 ^ 4 ^^^ q.toNat % 16 = q.toNat / 2 ^ 4 * 2 ^ 4 ||| q.toNat % 16 := by
    apply Nat.eq_of_testBit_eq
    intro i
    rw [Nat.testBit_xor, Nat.testBit_or]
    by_cases hi : i < 4
    · have : (q.toNat / 2 ^ 4 * 2 ^ 4).testBit i = false := by rw [Nat.mul_comm, Nat.testBit_two_pow_mul]; simp; omega
      rw [this]; simp
    · have : (q.toNat % 16).testBit i = false := Nat.testBit_lt_two_pow (Nat.lt_of_lt_of_le h16 (Nat.pow_le_pow_right (by decide) (by omega)))
      rw [this]; simp
  rw [hx, h]
  omega
def tabv (i : Nat) : BitVec 32 := steps 4 (BitVec.ofNat 32 i)
theorem steps4 (q : BitVec 32) : steps 4 q = (q >>> 4) ^^^ tabv (q.toNat % 16) := by
  conv => lhs; rw [split4 q]
  rw [steps_xor, steps_shl]; rfl
def tabl : List Int := [0, 498536548, 997073096, 651767980, 1994146192, 1802195444, 1303535960, 1342533948, 3988292384, 4027552580, 3604390888, 3412177804, 2607071920, 2262029012, 2685067896, 3183342108]
theorem tabl_at : ∀ i : Fin 16, tabl.getD i.val 0 = ((tabv i.val).toNat : Int) := by decide

theorem reg_snoc (r : BitVec 32) (l : List UInt8) (o : UInt8) : reg r (l ++ [o]) = octet (reg r l) o := by simp [reg]
theorem reg_append (r : BitVec 32) (l m : List UInt8) : reg r (l ++ m) = reg (reg r l) m := by simp [reg]

theorem u32_xor_bv (a b : BitVec 32) : bits .xor .u32 (a.toNat : Int) (b.toNat : Int) = ((a ^^^ b).toNat : Int) := by
  rw [u32_xor_nat _ _ a.isLt b.isLt, BitVec.toNat_xor]
theorem u32_xor_octet (r : BitVec 32) (o : UInt8) : bits .xor .u32 (r.toNat : Int) ((o.toNat : Int) % 4294967296) = ((r ^^^ BitVec.ofNat 32 o.toNat).toNat : Int) := by
  have ho := o.toNat_lt
  rw [Int.emod_eq_of_lt (by omega) (by omega)]
  rw [u32_xor_nat _ _ r.isLt (by omega), BitVec.toNat_xor, BitVec.toNat_ofNat, Nat.mod_eq_of_lt (by omega)]
theorem u32_and15 (q : BitVec 32) : bits .and .u32 (q.toNat : Int) 15 = ((q.toNat % 16 : Nat) : Int) := by
  have := q.isLt
  rw [u32_and _ _ (by omega) (by omega) (by omega) (by omega)]
  simp only [Int.toNat_natCast]
  rw [show (15 : Int).toNat = 15 from rfl, nat_mask4]
theorem u32_step4 (q : BitVec 32) : bits .xor .u32 ((q.toNat : Int) / 16) ((tabv (q.toNat % 16)).toNat : Int) = ((steps 4 q).toNat : Int) := by
  have hq := q.isLt
  have e : ((q.toNat : Int) / (16 : Int)) = ((q >>> 4).toNat : Int) := by
    rw [BitVec.toNat_ushiftRight, Nat.shiftRight_eq_div_pow]; omega
  rw [e, u32_xor_bv, steps4]
theorem tabl_at' (q : BitVec 32) : tabl.getD (q.toNat % 16) 0 = ((tabv (q.toNat % 16)).toNat : Int) := tabl_at ⟨q.toNat % 16, Nat.mod_lt _ (by decide)⟩
theorem octet_two (r : BitVec 32) (o : UInt8) : octet r o = steps 4 (steps 4 (r ^^^ BitVec.ofNat 32 o.toNat)) := by
  rw [← steps_add]; rfl
theorem reg_take (r : BitVec 32) (s : ByteArray) (k : Nat) (h : k < s.size) : reg r (s.data.toList.take (k + 1)) = octet (reg r (s.data.toList.take k)) s[k] := by
  rw [List.take_succ_eq_append_getElem (by simpa using h), reg_snoc]; rfl
/-- '^r' of a register. -/
theorem not_nat (r : BitVec 32) : (4294967295 : Int) - (r.toNat : Int) = ((~~~ r).toNat : Int) := by
  have := r.isLt
  rw [BitVec.toNat_not]; omega

theorem u32_not (r : BitVec 32) : bits .xor .u32 IntKind.u32.max (r.toNat : Int) = ((~~~ r).toNat : Int) := by
  have h := u32_xor_bv 0xffffffff#32 r
  rw [show (0xffffffff#32 ^^^ r) = ~~~ r from BitVec.not_def.symm] at h
  exact h
theorem step_odd (c : BitVec 32) (h : c.toNat % 2 = 1) : bits .xor .u32 ((c.toNat : Int) / 2) 3988292384 = ((step c).toNat : Int) := by
  have e : ((c.toNat : Int) / (2 : Int)) = ((c >>> 1).toNat : Int) := by
    rw [BitVec.toNat_ushiftRight, Nat.shiftRight_eq_div_pow]; omega
  have hl : c.getLsbD 0 = true := by rw [BitVec.getLsbD, Nat.testBit_zero]; simpa using h
  rw [e, show (3988292384 : Int) = ((0xedb88320#32).toNat : Int) from rfl, u32_xor_bv, step, hl]
  rfl
theorem step_half (c : BitVec 32) (h : c.toNat % 2 = 0) : (c.toNat : Int) / 2 = ((step c).toNat : Int) := by
  have hl : c.getLsbD 0 = false := by rw [BitVec.getLsbD, Nat.testBit_zero]; simpa using h
  rw [step, hl]
  simp [Nat.shiftRight_eq_div_pow]
theorem steps_snoc (n : Nat) : ∀ c : BitVec 32, steps (n + 1) c = step (steps n c) := by
  intro c; rw [steps_add]; rfl

end Go.Proofs.YtjeepmdklbfgeaaDoor.Crc

namespace Go.Proofs.YtjeepmdklbfgeaaDoor.W
open Go.RowKit Go.Proofs.YtjeepmdklbfgeaaDoor.Crc

/-- The sum's table lies where the program lays it. -/
def Tab (w : World) : Prop := ∀ i, i < 16 → w.cell? ⟨0, i, none⟩ = some (.int .u32 (tabl.getD i 0))

theorem Tab.pos {w : World} (h : Tab w) : 0 < w.heap.size := World.block_lt_of_cell? w _ (h 0 (by decide))
theorem Tab.below {w w' : World} {B : Nat} (h : Tab w) (hb : Below B w w') (hB : 0 < B) : Tab w' := fun i hi => (hb.cell (p := ⟨0, i, none⟩) hB).trans (h i hi)
theorem Tab.alloc {w : World} (h : Tab w) (o : Obj) : Tab (w.alloc o) := h.below ((Below.refl w.heap.size w).alloc (Nat.le_refl _) o) h.pos
theorem Tab.drew {w : World} (h : Tab w) : Tab w.drew := h
theorem Tab.on {w w' : World} (h : Tab w) (hb : Below w.heap.size w w') : Tab w' := h.below hb h.pos

theorem ret_u32 {a b : Int} (h : a = b) : Ending.returned (.int .u32 a) = .returned (.int .u32 b) := by rw [h]

set_option maxRecDepth 100000 in
set_option maxHeartbeats 1000000 in
theorem sum_any (s : ByteArray) (w : World) (hs : s.size ≤ maxLen) (ht : Tab w) :
    Calls Tryd.prog 111 #[.string s] w fun e w' => e = .returned (.int .u32 ((crc s.data.toList).toNat : Int)) ∧ w = w' := by
  unfold maxLen at hs
  have HT := Lib.hid ht
  clear ht
  go_enter Tryd.func111, Tryd.ntmps111
  go_wp2
  go_loop [3, 7] (fun r i => ∃ k : Nat, k ≤ s.size ∧ i = .int .i64 k ∧ r = .int .u32 ((reg 0xffffffff#32 (s.data.toList.take k)).toNat : Int)) (fun _ i => s.size - (intOf i).toNat)
  case atStart => exact ⟨0, Nat.zero_le _, rfl, rfl⟩
  case round =>
    obtain ⟨k, hk, rfl, rfl⟩ := hrel
    by_cases hlt : k < s.size
    · have HR := Lib.hid (reg_take 0xffffffff#32 s k hlt)
      generalize reg 0xffffffff#32 (s.data.toList.take k) = r at *
      have hx0 := u32_xor_octet r s[k]
      have H2 := Lib.hid (octet_two r s[k])
      generalize r ^^^ BitVec.ofNat 32 s[k].toNat = q at *
      have hc0 := (HT.out (q.toNat % 16) (Nat.mod_lt _ (by decide))).trans (by rw [tabl_at'])
      have ha0 := u32_and15 q
      have hx1 := u32_step4 q
      generalize hq1 : steps 4 q = q1 at *
      have hc1 := (HT.out (q1.toNat % 16) (Nat.mod_lt _ (by decide))).trans (by rw [tabl_at'])
      have ha1 := u32_and15 q1
      have hx2 := u32_step4 q1
      generalize hq2 : steps 4 q1 = q2 at *
      have HQ1 := Lib.hid hq1
      have HQ2 := Lib.hid hq2
      clear hq1 hq2
      have b0 := q.isLt
      have b1 := q1.isLt
      have b2 := q2.isLt
      go_wp2
      go_round
      case rel => exact ⟨k + 1, by omega, by go_num, by rw [HR.out, H2.out]⟩
      case measure => simp [intOf]; omega
    · have hkl : k = s.size := by omega
      subst hkl
      go_wp2
      go_ret
      exact ⟨ret_u32 (by rw [List.take_of_length_le (by simp)]; exact u32_not _), rfl⟩

set_option maxRecDepth 100000 in
set_option maxHeartbeats 1000000 in
theorem rsum_any (s : ByteArray) (w : World) (hs : s.size ≤ maxLen) :
    Calls Tryd.prog 102 #[.string s] w fun e w' => e = .returned (.int .u32 ((crc s.data.toList).toNat : Int)) ∧ w = w' := by
  unfold maxLen at hs
  go_enter Tryd.func102, Tryd.ntmps102
  go_wp2
  go_loop [3, 4] (fun r i => ∃ k : Nat, k ≤ s.size ∧ i = .int .i64 k ∧ r = .int .u32 ((reg 0xffffffff#32 (s.data.toList.take k)).toNat : Int)) (fun _ i => s.size - (intOf i).toNat)
  case atStart => exact ⟨0, Nat.zero_le _, rfl, rfl⟩
  case round =>
    obtain ⟨k, hk, rfl, rfl⟩ := hrel
    by_cases hlt : k < s.size
    · have HR := Lib.hid (reg_take 0xffffffff#32 s k hlt)
      generalize reg 0xffffffff#32 (s.data.toList.take k) = r at *
      have hx0 := u32_xor_octet r s[k]
      have H2 : Hid (octet r s[k] = steps 8 (r ^^^ BitVec.ofNat 32 s[k].toNat)) := Lib.hid rfl
      generalize r ^^^ BitVec.ofNat 32 s[k].toNat = q at *
      go_wp2
      go_loop [3, 5] (fun r j => ∃ n : Nat, n ≤ 8 ∧ j = .int .i64 n ∧ r = .int .u32 ((steps n q).toNat : Int)) (fun _ j => 8 - (intOf j).toNat)
      case atStart => exact ⟨0, by omega, rfl, rfl⟩
      case round =>
        obtain ⟨n, hn, rfl, rfl⟩ := hrel
        by_cases h8 : n < 8
        · have HS := Lib.hid (steps_snoc n q)
          generalize steps n q = c at *
          have b0 := c.isLt
          rcases Nat.mod_two_eq_zero_or_one c.toNat with h | h
          · have hx := Lib.hid (step_half c h)
            have hm : (((c.toNat : Int) % 2) == 1) = false := by rw [beq_eq_false_iff_ne]; omega
            clear h
            go_wp2
            go_round
            case rel => exact ⟨n + 1, by omega, by go_num, by rw [HS.out, ← hx.out]⟩
            case measure => simp [intOf]; omega
          · have hx := Lib.hid (step_odd c h)
            have hm : (((c.toNat : Int) % 2) == 1) = true := by rw [beq_iff_eq]; omega
            clear h
            go_wp2
            go_round
            case rel => exact ⟨n + 1, by omega, by go_num, by rw [HS.out, ← hx.out]⟩
            case measure => simp [intOf]; omega
        · obtain rfl : n = 8 := by omega
          go_wp2
          go_round
          case rel => exact ⟨k + 1, by omega, by go_num, by rw [HR.out, H2.out]⟩
          case measure => simp [intOf]; omega
    · have hkl : k = s.size := by omega
      subst hkl
      have HN := Lib.hid (not_nat (reg 0xffffffff#32 s.data.toList))
      rw [List.take_of_length_le (by simp)]
      have b0 := (reg 0xffffffff#32 s.data.toList).isLt
      go_wp2
      go_ret
      exact ⟨ret_u32 HN.out, rfl⟩
end Go.Proofs.YtjeepmdklbfgeaaDoor.W

namespace Go.Proofs.YtjeepmdklbfgeaaDoor.W
open Go.RowKit Go.Proofs.YtjeepmdklbfgeaaDoor.W.Pure

/-- What is answered, of what is taken from a on. -/
def takeV (a : Nat) (r : Nat × Nat × Nat) : Value := .tuple #[.int .u64 (r.1 : Int), .int .i64 ((if r.2.2 = 0 then a + r.2.1 else 0 : Nat) : Int), .int .i64 (r.2.2 : Int)]

theorem ret_take {n n' p p' k k' : Int} (h1 : n = n') (h2 : p = p') (h3 : k = k') : Ending.returned (.tuple #[.int .u64 n, .int .i64 p, .int .i64 k]) = .returned (.tuple #[.int .u64 n', .int .i64 p', .int .i64 k']) := by rw [h1, h2, h3]

set_option maxRecDepth 100000 in
set_option maxHeartbeats 1000000 in
theorem take_in (s : ByteArray) (a : Nat) (w : World) (hs : s.size ≤ maxLen) (ha : a ≤ s.size) :
    Calls Tryd.prog 108 #[.string s, .int .i64 a] w fun e w' => e = .returned (takeV a (takeL (s.data.toList.drop a) 0 0)) ∧ w = w' := by
  unfold maxLen at hs
  have d1 : decide ((a : Int) < 0) = false := by simp
  have d2 : decide (s.size < a) = false := by simp; omega
  go_enter Tryd.func108, Tryd.ntmps108
  go_wp2
  go_loop [7, 8] (fun n i => ∃ k N : Nat, TakeInv s a k N ∧ i = .int .i64 k ∧ n = .int .u64 N) (fun _ i => s.size - (a + (intOf i).toNat))
  case atStart => exact ⟨0, 0, take_zero s a ha, rfl, rfl⟩
  case round =>
    obtain ⟨k, N, hI, rfl, rfl⟩ := hrel
    have hk9 : k ≤ 9 := hI.2.2.1
    have hka : a + k ≤ s.size := hI.2.2.2
    by_cases hlt : a + k < s.size
    · have hu : s[a + k].toNat < 256 := s[a + k].toNat_lt
      have hmask := mask_octet s[a + k]
      have HI := Lib.hid hI
      clear hI hka
      rcases (show (0 < k ∧ s[a + k].toNat = 0) ∨ (k = 9 ∧ 1 < s[a + k].toNat) ∨ (k = 9 ∧ s[a + k].toNat = 1) ∨ (0 < k ∧ k < 9 ∧ 0 < s[a + k].toNat ∧ s[a + k].toNat < 128) ∨ (0 < k ∧ k < 9 ∧ 128 ≤ s[a + k].toNat) ∨ (k = 0 ∧ s[a + k].toNat < 128) ∨ (k = 0 ∧ 128 ≤ s[a + k].toNat) from by omega) with h | h | h | h | h | h | h
      · have hv := Lib.hid (take_bad HI.out hlt (.inl h))
        clear HI
        obtain ⟨h0, h1⟩ := h
        have h1' : (s[a + k].toNat : Int) ≤ 0 := by omega
        clear h1 hmask
        go_wp2
        go_ret3
        exact ⟨by rw [hv.out]; rfl, rfl⟩
      · have hv := Lib.hid (take_bad HI.out hlt (.inr h))
        clear HI
        obtain ⟨rfl, h1⟩ := h
        clear hmask
        go_wp2
        go_ret3
        exact ⟨by rw [hv.out]; rfl, rfl⟩
      · have hv := Lib.hid (take_end HI.out hlt (by omega) (by omega))
        obtain ⟨rfl, h1⟩ := h
        have hn := Lib.hid (or_shl9 N _ HI.out.2.1 (Nat.le_of_eq h1))
        clear HI
        have h1' : 1 ≤ s[a + 9].toNat ∧ s[a + 9].toNat ≤ 1 := by omega
        have hz : ((s[a + 9].toNat : Int) == 0) = false := by rw [beq_eq_false_iff_ne]; omega
        clear h1
        go_wp2
        go_ret3
        exact ⟨by rw [hv.out]; exact ret_take hn.out (by simp; omega) rfl, rfl⟩
      · have hv := Lib.hid (take_end HI.out hlt (by omega) (by omega))
        have hn := Lib.hid (or_shl' N k _ HI.out.2.1 (by omega) (by omega) hu)
        clear HI
        obtain ⟨h0, h9, h1, h2⟩ := h
        have hz : ((s[a + k].toNat : Int) == 0) = false := by rw [beq_eq_false_iff_ne]; omega
        have h9' : ((k : Int) == 9) = false := by rw [beq_eq_false_iff_ne]; omega
        go_wp2
        go_ret3
        exact ⟨by rw [hv.out]; exact ret_take hn.out (by simp; omega) rfl, rfl⟩
      · have hv := Lib.hid (take_on HI.out hlt (by omega) (by omega))
        have hn := Lib.hid (or_shl' N k _ HI.out.2.1 (by omega) (by omega) hu)
        clear HI
        obtain ⟨h0, h9, h1⟩ := h
        have hz : ((s[a + k].toNat : Int) == 0) = false := by rw [beq_eq_false_iff_ne]; omega
        have h9' : ((k : Int) == 9) = false := by rw [beq_eq_false_iff_ne]; omega
        go_wp2
        go_round
        case rel => exact ⟨k + 1, _, hv.out, by go_num, by rw [← hn.out]⟩
        case measure => simp [intOf]; omega
      · have hv := Lib.hid (take_end HI.out hlt (by omega) (by omega))
        obtain ⟨rfl, h1⟩ := h
        have hn := Lib.hid (or_shl0 N _ HI.out.2.1 hu)
        clear HI
        simp only [Nat.add_zero] at hlt hu h1 hmask hn hv
        go_wp2
        go_ret3
        exact ⟨by rw [hv.out]; exact ret_take hn.out (by simp) rfl, rfl⟩
      · have hv := Lib.hid (take_on HI.out hlt (by omega) (by omega))
        obtain ⟨rfl, h1⟩ := h
        have hn := Lib.hid (or_shl0 N _ HI.out.2.1 hu)
        clear HI
        simp only [Nat.add_zero] at hlt hu h1 hmask hn hv
        go_wp2
        go_round
        case rel => exact ⟨1, _, hv.out, rfl, by rw [← hn.out]⟩
        case measure => simp [intOf]; omega
    · have hv := Lib.hid (take_out hI (by omega))
      clear hI
      go_wp2
      go_ret3
      exact ⟨by rw [hv.out]; rfl, rfl⟩

theorem take_not (s : ByteArray) (a : Int) (w : World) (hs : s.size ≤ maxLen) (ha : a < 0 ∨ (s.size : Int) < a) :
    Calls Tryd.prog 108 #[.string s, .int .i64 a] w fun e w' => e = .returned (takeV 0 (0, 0, 1)) ∧ w = w' := by
  unfold maxLen at hs
  rcases ha with h | h
  all_goals
    go_enter Tryd.func108, Tryd.ntmps108
    go_wp2
    go_ret3
    exact ⟨rfl, rfl⟩
end Go.Proofs.YtjeepmdklbfgeaaDoor.W

namespace Go.Proofs.YtjeepmdklbfgeaaDoor.W
open Go.RowKit Go.Proofs.YtjeepmdklbfgeaaDoor.W.Pure

theorem Tryd.infoOctet : (Tryd.prog.info? 5).map (fun i => (i.zero, i.size, i.bytes)) = some (some (.int .u8 0), 1, 1) := by kernel_rfl

/-- The slice value v is the call's own, and holds these octets. -/
def Own (w : World) (B : Nat) (v : Value) (l : List UInt8) : Prop := w.ownsRow B 5 1 v l.length (l.map fun o => Value.int .u8 (o.toNat : Int))
theorem own_nil (w : World) (B : Nat) : Own w B (.slice none 0 0) [] := World.ownsRow_nil _ _ _ _

theorem own_push {w wr w1 : World} {B : Nat} {v v' : Value} {acc : List UInt8} {X : Int} {o : UInt8} {obj : Obj} (hown : Own wr B v acc) (hB : B ≤ wr.heap.size) (hb : Below B w wr) (hX : X = (o.toNat : Int))
    (h1 : w1.ownsRow B 5 1 v' (acc.length + 1) (acc.map (fun o => Value.int .u8 (o.toNat : Int)) ++ [.int .u8 X])) (hg : (wr.alloc obj).grownBy w1 v.ownBlock) : Own w1 B v' (acc ++ [o]) ∧ Below B w w1 := by
  subst hX
  refine ⟨by unfold Own; simpa using h1, (hb.alloc hB obj).grown hg (by simp; omega) fun k hk => (World.ownsRow.lt hown k hk).1⟩
theorem own_text {P : Program} {w : World} {B : Nat} {v : Value} {acc : List UInt8} (hown : Own w B v acc) (src dst : TypeId) (hs : P.underlying src = some (.slice 5)) (he : P.underlying 5 = some (.int .u8)) (hd : P.underlying dst = some .string) :
    (convert src dst v).run P w = .ok (.string ⟨acc.toArray⟩) w := by
  have hown0 := hown
  obtain ⟨hl, ⟨rfl, hn⟩ | ⟨g, cap, cur, rfl, _, hh, _⟩⟩ := hown
  · have : acc = [] := List.eq_nil_of_length_eq_zero hn
    subst this
    rw [run_convert_bytes_string w src dst 5 _ _ _ hs he hd]
    simp [Conv.bytesToString, Sem.run_pure]
    rfl
  · refine run_convert_bytes_back w src dst 5 ⟨g, 0, none⟩ cap acc hs he hd fun j hj => ?_
    have := World.ownsRow.cells (w := w) (base := B) (e := 5) (size := 1) (v := .slice (some ⟨g, 0, none⟩) acc.length cap) hown0 (g := g) rfl j (.int .u8 (acc[j].toNat : Int)) (by simp [hj])
    exact this

/-- The numbers that a slice of them holds. -/
def Nums64 (w : World) (A : Option Addr) (zs : List Nat) : Prop := ∀ j, j < zs.length → ∃ ad, A = some ad ∧ ad.block < w.heap.size ∧ w.cell? (ad.add j) = some (.int .u64 (zs.getD j 0 : Nat))

theorem block_of_add (a : Addr) (n : Nat) : (a.add n).block = a.block := by unfold Addr.add; split <;> rfl

set_option maxRecDepth 100000 in
set_option maxHeartbeats 1000000 in
theorem num_any (A : Option Addr) (cap : Nat) (zs : List Nat) (w : World) (hl : zs.length ≤ 1000) (hz : ∀ z ∈ zs, z < 2 ^ 64) (hc : Nums64 w A zs) :
    Calls Tryd.prog 22 #[.slice A zs.length cap] w fun e w' => e = .returned (.string ⟨(nums zs).toArray⟩) ∧ Below w.heap.size w w' := by
  obtain ⟨i0, hi, hz0, hz1, hz2⟩ := info_parts Tryd.infoOctet
  have Hz := Lib.hid hz
  have Hc := Lib.hid hc
  clear hz hc
  go_enter Tryd.func22, Tryd.ntmps22
  go_wp2
  go_loopw [3, 8] (fun v i wr => ∃ k : Nat, k ≤ zs.length ∧ i = .int .i64 k ∧ Own wr w.heap.size v (nums (zs.take k)) ∧ Below w.heap.size w wr) (fun _ i _ => zs.length - (intOf i).toNat)
  case atStart => exact ⟨0, Nat.zero_le _, rfl, own_nil _ _, Below.refl _ _⟩
  case round =>
    obtain ⟨k, hk, rfl, hown, hb⟩ := hrel
    by_cases hlt : k < zs.length
    · obtain ⟨ad, rfl, hbk, hcell⟩ := Hc.out k hlt
      have hcr := (hb.cell (p := ad.add k) (by rw [block_of_add]; exact hbk)).trans hcell
      have hs := nums_snoc zs k hlt
      have hz64 := Hz.out zs[k] (List.getElem_mem hlt)
      have hlen := nums_len (zs.take k)
      have hlen' : (zs.take k).length ≤ k := List.length_take_le _ _
      have hget : zs.getD k 0 = zs[k] := by simp [List.getD, hlt]
      rw [hget] at hcr
      have HS := Lib.hid hs
      generalize hzk : zs[k] = z at *
      have HK := Lib.hid hzk
      clear hs hget hcell hzk
      go_wp2
      go_loopw [3, 5] (fun v x wi => ∃ (acc : List UInt8) (y : Nat), x = .int .u64 y ∧ y < 2 ^ 64 ∧ Own wi w.heap.size v acc ∧ NumInv (nums (zs.take k) ++ num z) (nums (zs.take k)) acc y ∧ Below w.heap.size w wi) (fun _ x _ => (intOf x).toNat)
      case atStart => exact ⟨_, z, rfl, hz64, hown, num_begin _ z hz64, hb⟩
      case round =>
        clear hown hb
        obtain ⟨acc, y, rfl, hy, hown, hinv, hb⟩ := hrel
        have hal := num_len hinv
        have HI := Lib.hid hinv
        clear hinv
        by_cases h128 : 128 ≤ y
        · go_wp2_with (at_builtin; refine wpList_append_own _ rfl _ _ 83 rfl w.heap.size 5 i0 (.int .u8 0) 1 1 Tryd.underlying83 hi hz0 hz1 hz2 rfl (by decide) _ _ _ rfl (hown.alloc _) ⟨wr.heap.size, 0, none⟩ 1 1 [.int .u8 (bits .or .u8 ((y : Int) % 256) 128)] rfl rfl ?c1 ?c2 ?c3 ?c4 ?c5 ?_)
          case c1 =>
            intro j u hj
            match j, hj with
            | 0, hj => simp at hj; subst hj; simp [Addr.add]
          case c2 => intro u hu; simp at hu; subst hu; rfl
          case c3 => unfold maxLen; omega
          case c4 => omega
          case c5 => have := hb.size; simp; omega
          · intro v' w1 hown' hgrow _
            have R := own_push hown hb.size hb (octet_on y) hown' hgrow
            have hn := num_on HI.out h128
            clear hown' hgrow hown hb HI
            go_wp2
            go_roundw
            case rel => exact ⟨_, y / 128, by go_num, by omega, R.1, hn, R.2⟩
            case measure => simp [intOf]; omega
        · have hst := Lib.hid (num_stop HI.out (by omega))
          clear HI
          go_wp2_with (at_builtin; refine wpList_append_own _ rfl _ _ 83 rfl w.heap.size 5 i0 (.int .u8 0) 1 1 Tryd.underlying83 hi hz0 hz1 hz2 rfl (by decide) _ _ _ rfl (hown.alloc _) ⟨wr.heap.size, 0, none⟩ 1 1 [.int .u8 (y : Int)] rfl rfl ?d1 ?d2 ?d3 ?d4 ?d5 ?_)
          case d1 =>
            intro j u hj
            match j, hj with
            | 0, hj => simp at hj; subst hj; simp [Addr.add]; try omega
          case d2 => intro u hu; simp at hu; subst hu; rfl
          case d3 => unfold maxLen; omega
          case d4 => omega
          case d5 => have := hb.size; simp; omega
          · intro v' w1 hown' hgrow _
            have R := own_push hown hb.size hb (octet_last y (by omega)) hown' hgrow
            clear hown' hgrow hown hb
            go_wp2
            go_roundw
            case rel => exact ⟨k + 1, by omega, by go_num, by rw [HS.out, hst.out]; exact R.1, R.2⟩
            case measure => simp [intOf]; omega
    · have hkl : k = zs.length := by omega
      subst hkl
      rw [List.take_length] at hown
      have hconv := own_text (P := Tryd.prog) hown 83 9 Tryd.underlying83 Tryd.underlying5 Tryd.underlying9
      clear hown
      go_wp2
      go_ret
      exact ⟨rfl, hb⟩
/-- Of one number, which lies at the head of a block. -/
theorem num_one (n g : Nat) (w : World) (hn : n < 2 ^ 64) (hg : g < w.heap.size) (hc : w.cell? ⟨g, 0, none⟩ = some (.int .u64 n)) :
    Calls Tryd.prog 22 #[.slice (some ⟨g, 0, none⟩) 1 1] w fun e w' => e = .returned (.string ⟨(num n).toArray⟩) ∧ Below w.heap.size w w' := by
  have h := num_any (some ⟨g, 0, none⟩) 1 [n] w (by simp) (by simpa using hn) (fun j hj => ⟨⟨g, 0, none⟩, rfl, hg, by
    match j, hj with
    | 0, _ => simpa [Addr.add] using hc⟩)
  have e : nums [n] = num n := by simp [nums]
  rw [e] at h
  exact h
end Go.Proofs.YtjeepmdklbfgeaaDoor.W

namespace Go.Proofs.YtjeepmdklbfgeaaDoor.W
open Go.RowKit Go.Proofs.YtjeepmdklbfgeaaDoor.W.Pure

theorem pow_nine : (128 : Nat) ^ 9 = 9223372036854775808 := by decide
theorem mul_in (o W : Nat) (h : o % 128 * W < 2 ^ 64) : IntKind.u64.wrap ((o : Int) % 128 * (W : Int)) = ((o % 128 * W : Nat) : Int) := by
  rw [show ((o : Int) % 128 * (W : Int)) = ((o % 128 * W : Nat) : Int) by simp, IntWalk.u64_in _ ⟨by omega, by omega⟩]
theorem add_in (N o W : Nat) (h : N + o % 128 * W < 2 ^ 64) : IntKind.u64.wrap ((N : Int) + (o : Int) % 128 * (W : Int)) = ((N + o % 128 * W : Nat) : Int) := by
  rw [show ((N : Int) + (o : Int) % 128 * (W : Int)) = ((N + o % 128 * W : Nat) : Int) by simp, IntWalk.u64_in _ ⟨by omega, by omega⟩]
theorem num_whole (N k o : Nat) (hN : N < 128 ^ k) (hk : k ≤ 9) (h9 : k = 9 → o ≤ 1) (ho : o < 256) : N + o % 128 * 128 ^ k < 2 ^ 64 := by
  have h8 : (128 : Nat) ^ 8 = 72057594037927936 := by decide
  rcases Nat.lt_or_ge k 9 with h | h
  · have h1 : 128 ^ k ≤ 128 ^ 8 := Nat.pow_le_pow_right (by decide) (by omega)
    have h2 : o % 128 * 128 ^ k ≤ 127 * 128 ^ k := Nat.mul_le_mul_right _ (by omega)
    omega
  · obtain rfl : k = 9 := by omega
    have h1 := h9 rfl
    have h3 : o % 128 * 128 ^ 9 ≤ 1 * 128 ^ 9 := Nat.mul_le_mul_right _ (by omega)
    have := pow_nine
    omega

set_option maxRecDepth 100000 in
set_option maxHeartbeats 2000000 in
theorem rtake_in (s : ByteArray) (a : Nat) (w : World) (hs : s.size ≤ 140737488351232) (ha : a ≤ s.size) :
    Calls Tryd.prog 103 #[.string s, .int .i64 a] w fun e w' => e = .returned (takeV a (takeL (s.data.toList.drop a) 0 0)) ∧ w = w' := by
  have d1 : decide ((a : Int) < 0) = false := by simp
  have d2 : decide (s.size < a) = false := by simp; omega
  go_enter Tryd.func103, Tryd.ntmps103
  go_wp2
  go_loop [7, 8, 9] (fun n W i => ∃ k N : Nat, TakeInv s a k N ∧ i = .int .i64 ((a + k : Nat) : Int) ∧ n = .int .u64 N ∧ W = .int .u64 ((128 ^ k : Nat) : Int)) (fun _ _ i => s.size - (intOf i).toNat)
  case atStart => exact ⟨0, 0, take_zero s a ha, rfl, rfl, rfl⟩
  case round =>
    obtain ⟨k, N, hI, rfl, rfl, rfl⟩ := hrel
    have hk9 : k ≤ 9 := hI.2.2.1
    have hka : a + k ≤ s.size := hI.2.2.2
    have hN := hI.2.1
    have HW : Hid ((128 : Nat) ^ (k + 1) = 128 ^ k * 128) := Lib.hid (Nat.pow_succ ..)
    by_cases hlt : a + k < s.size
    · have hu : s[a + k].toNat < 256 := s[a + k].toNat_lt
      have HI := Lib.hid hI
      clear hI hka
      rcases (show (0 < k ∧ s[a + k].toNat = 0) ∨ (k = 9 ∧ 1 < s[a + k].toNat) ∨ (k = 9 ∧ s[a + k].toNat = 1) ∨ (0 < k ∧ k < 9 ∧ 0 < s[a + k].toNat ∧ s[a + k].toNat < 128) ∨ (0 < k ∧ k < 9 ∧ 128 ≤ s[a + k].toNat) ∨ (k = 0 ∧ s[a + k].toNat < 128) ∨ (k = 0 ∧ 128 ≤ s[a + k].toNat) from by omega) with h | h | h | h | h | h | h
      · have hv := Lib.hid (take_bad HI.out hlt (.inl h))
        clear HI hN HW
        generalize 128 ^ k = W at *
        obtain ⟨h0, h1⟩ := h
        have h1' : (s[a + k].toNat : Int) ≤ 0 := by omega
        clear h1
        go_wp2
        go_ret3
        exact ⟨by rw [hv.out]; rfl, rfl⟩
      · have hv := Lib.hid (take_bad HI.out hlt (.inr h))
        clear HI hN HW
        generalize 128 ^ k = W at *
        obtain ⟨rfl, h1⟩ := h
        have hz : ((s[a + 9].toNat : Int) == 0) = false := by rw [beq_eq_false_iff_ne]; omega
        go_wp2
        go_ret3
        exact ⟨by rw [hv.out]; rfl, rfl⟩
      · have hv := Lib.hid (take_end HI.out hlt (by omega) (by omega))
        have hw := num_whole N k _ hN hk9 (by omega) hu
        clear HI HW hN
        generalize 128 ^ k = W at *
        have hm := mul_in s[a + k].toNat W (by omega)
        have hp := Lib.hid (add_in N s[a + k].toNat W hw)
        clear hw
        obtain ⟨rfl, h1⟩ := h
        have h1' : 1 ≤ s[a + 9].toNat ∧ s[a + 9].toNat ≤ 1 := by omega
        have hz : ((s[a + 9].toNat : Int) == 0) = false := by rw [beq_eq_false_iff_ne]; omega
        clear h1
        go_wp2
        go_ret3
        exact ⟨by rw [hv.out]; exact ret_take hp.out (by simp; omega) rfl, rfl⟩
      · have hv := Lib.hid (take_end HI.out hlt (by omega) (by omega))
        have hw := num_whole N k _ hN hk9 (by omega) hu
        clear HI HW hN
        generalize 128 ^ k = W at *
        have hm := mul_in s[a + k].toNat W (by omega)
        have hp := Lib.hid (add_in N s[a + k].toNat W hw)
        clear hw
        obtain ⟨h0, h9, h1, h2⟩ := h
        have hz : ((s[a + k].toNat : Int) == 0) = false := by rw [beq_eq_false_iff_ne]; omega
        have h9' : ((a : Int) + (k : Int) == (a : Int) + 9) = false := by rw [beq_eq_false_iff_ne]; omega
        go_wp2
        go_ret3
        exact ⟨by rw [hv.out]; exact ret_take hp.out (by simp; omega) rfl, rfl⟩
      · have hv := Lib.hid (take_on HI.out hlt (by omega) (by omega))
        have hw := num_whole N k _ hN hk9 (by omega) hu
        have hW : IntKind.u64.wrap (((128 ^ k : Nat) : Int) * 128) = ((128 ^ k * 128 : Nat) : Int) := by
          have h1 : 128 ^ k ≤ 128 ^ 8 := Nat.pow_le_pow_right (by decide) (by omega)
          have h8 : (128 : Nat) ^ 8 = 72057594037927936 := by decide
          rw [IntWalk.u64_in _ ⟨by omega, by omega⟩]; omega
        clear HI hN
        rw [← HW.out] at hW
        have HP : Hid ((128 : Nat) ^ (k + 1) = 128 ^ (k + 1)) := Lib.hid rfl
        generalize hW1 : 128 ^ (k + 1) = W1 at *
        have HW1 := Lib.hid hW1
        generalize 128 ^ k = W at *
        have hm := mul_in s[a + k].toNat W (by omega)
        have hp := Lib.hid (add_in N s[a + k].toNat W hw)
        clear hw HW HP hW1
        obtain ⟨h0, h9, h1⟩ := h
        have hz : ((s[a + k].toNat : Int) == 0) = false := by rw [beq_eq_false_iff_ne]; omega
        have h9' : ((a : Int) + (k : Int) == (a : Int) + 9) = false := by rw [beq_eq_false_iff_ne]; omega
        go_wp2
        go_round
        case rel => exact ⟨k + 1, _, hv.out, by go_num, by rw [← hp.out], by rw [HW1.out]⟩
        case measure => simp [intOf]; omega
      · have hv := Lib.hid (take_end HI.out hlt (by omega) (by omega))
        have hw := num_whole N k _ hN hk9 (by omega) hu
        obtain ⟨rfl, h1⟩ := h
        have hp := Lib.hid (add_in N _ 1 hw)
        clear hw HI HW hN
        simp only [Nat.add_zero] at hlt hu h1 hp hv
        go_wp2
        go_ret3
        exact ⟨by rw [hv.out]; exact ret_take (by simpa using hp.out) (by simp) rfl, rfl⟩
      · have hv := Lib.hid (take_on HI.out hlt (by omega) (by omega))
        have hw := num_whole N k _ hN hk9 (by omega) hu
        obtain ⟨rfl, h1⟩ := h
        have hp := Lib.hid (add_in N _ 1 hw)
        clear hw HI HW hN
        simp only [Nat.add_zero] at hlt hu h1 hp hv
        go_wp2
        go_round
        case rel => exact ⟨1, _, hv.out, rfl, by simpa using hp.out, rfl⟩
        case measure => simp [intOf]; omega
    · have hv := Lib.hid (take_out hI (by omega))
      clear hI HW hN
      generalize 128 ^ k = W at *
      go_wp2
      go_ret3
      exact ⟨by rw [hv.out]; rfl, rfl⟩

theorem rtake_not (s : ByteArray) (a : Int) (w : World) (hs : s.size ≤ 140737488351232) (ha : a < 0 ∨ (s.size : Int) < a) :
    Calls Tryd.prog 103 #[.string s, .int .i64 a] w fun e w' => e = .returned (takeV 0 (0, 0, 1)) ∧ w = w' := by
  rcases ha with h | h
  all_goals
    go_enter Tryd.func103, Tryd.ntmps103
    go_wp2
    go_ret3
    exact ⟨rfl, rfl⟩
end Go.Proofs.YtjeepmdklbfgeaaDoor.W

namespace Go.Proofs.YtjeepmdklbfgeaaDoor.W
open Go.RowKit Go.Proofs.YtjeepmdklbfgeaaDoor.W.Pure

theorem ret_str {a b : ByteArray} (h : a = b) : Ending.returned (.string a) = .returned (.string b) := by rw [h]

/-- A slice of one octet as a text. -/
theorem one_text {P : Program} (X : Int) (o : UInt8) (hX : X = (o.toNat : Int)) (g : Nat) (src dst : TypeId) (hs : P.underlying src = some (.slice 5)) (he : P.underlying 5 = some (.int .u8)) (hd : P.underlying dst = some .string)
    (W : World) (hc : W.cell? ⟨g, 0, none⟩ = some (.int .u8 X)) : (convert src dst (.slice (some ⟨g, 0, none⟩) 1 1)).run P W = .ok (.string ⟨#[o]⟩) W := by
  subst hX
  exact run_convert_bytes_back W src dst 5 ⟨g, 0, none⟩ 1 [o] hs he hd fun j hj => by
    match j, hj with
    | 0, _ => simpa [Addr.add] using hc

theorem div_in (n : Nat) (h : n < 2 ^ 64) : IntKind.u64.wrap ((n : Int) / 128) = ((n / 128 : Nat) : Int) := by
  rw [IntWalk.u64_in _ ⟨by omega, by omega⟩]; omega
theorem octet_rem (n : Nat) : IntKind.u8.wrap (IntKind.u64.wrap ((n : Int).tmod 128 + 128)) = ((UInt8.ofNat (n % 128 + 128)).toNat : Int) := by
  rw [IntWalk.rem_in _ _ (by omega), IntWalk.u64_in _ ⟨by omega, by omega⟩, IntWalk.u8_in _ ⟨by omega, by omega⟩, UInt8.toNat_ofNat']; omega

theorem join_text (n f : Nat) (h : 128 ≤ n) : (ByteArray.mk #[UInt8.ofNat (n % 128) + 128] ++ ByteArray.mk (numF (f + 1) (n / 128)).toArray) = ⟨(numF (f + 1 + 1) n).toArray⟩ := by
  rw [ByteArray.mk_append_mk [UInt8.ofNat (n % 128) + 128] (numF (f + 1) (n / 128))]
  conv => rhs; rw [numF, if_neg (by omega)]
  simp

set_option maxRecDepth 100000 in
set_option maxHeartbeats 1000000 in
theorem rnum_any (f : Nat) : ∀ (n : Nat) (w : World), f ≤ 9 → n < 128 ^ (f + 1) → n < 2 ^ 64 →
    Calls Tryd.prog 43 #[.int .u64 n] w fun e w' => e = .returned (.string ⟨(numF (f + 1) n).toArray⟩) ∧ Below w.heap.size w w' := by
  induction f with
  | zero =>
    intro n w hf hn _
    have hn' : n < 128 := by simpa using hn
    have hconv := one_text (P := Tryd.prog) (n : Int) (UInt8.ofNat n) (octet_last n hn') w.heap.size 83 9 Tryd.underlying83 Tryd.underlying5 Tryd.underlying9
    clear hn
    go_enter Tryd.func43, Tryd.ntmps43
    go_wp2_with fail
    go_ret
    exact ⟨ret_str (by simp [numF, hn']), (Below.refl _ _).alloc (Nat.le_refl _) _⟩
  | succ f ih =>
    intro n w hf hn h64
    by_cases hn' : n < 128
    · have hconv := one_text (P := Tryd.prog) (n : Int) (UInt8.ofNat n) (octet_last n hn') w.heap.size 83 9 Tryd.underlying83 Tryd.underlying5 Tryd.underlying9
      clear hn ih
      go_enter Tryd.func43, Tryd.ntmps43
      go_wp2_with fail
      go_ret
      exact ⟨ret_str (by simp [numF, hn']), (Below.refl _ _).alloc (Nat.le_refl _) _⟩
    · have IH := Lib.hid ih
      clear ih
      have hlen := numF_len (f + 1) (n / 128)
      have hq : n / 128 < 128 ^ (f + 1) := by rw [Nat.pow_succ] at hn; omega
      clear hn
      have hdiv := div_in n h64
      have hconv := fun g => one_text (P := Tryd.prog) _ (UInt8.ofNat (n % 128 + 128)) (octet_rem n) g 83 9 Tryd.underlying83 Tryd.underlying5 Tryd.underlying9
      go_enter Tryd.func43, Tryd.ntmps43
      go_wp2_with fail
      go_region_with (go_at_call 43; refine (IH.out (n / 128) _ (by omega) hq (by omega)).mono ?_; rintro e w' ⟨rfl, hb⟩; have hcl := hb.cell (p := ⟨w.heap.size, 0, none⟩))
      all_goals
        go_wp2
        go_ret
        refine ⟨ret_str (join_text n f (by omega)), ?_⟩
        first
          | exact (((Below.refl _ _).alloc (Nat.le_refl _) _).drew).trans (hb.mono (by simp))
          | exact (((Below.refl _ _).drew).trans (hb.mono (Nat.le_refl _))).alloc hb.size _

theorem rnum_one (n : Nat) (w : World) (h : n < 2 ^ 64) :
    Calls Tryd.prog 43 #[.int .u64 n] w fun e w' => e = .returned (.string ⟨(num n).toArray⟩) ∧ Below w.heap.size w w' :=
  rnum_any 9 n w (by omega) (by have : (128 : Nat) ^ 10 = 2 ^ 70 := by decide
                                omega) h

theorem nums_join (a b : List UInt8) : (ByteArray.mk a.toArray ++ ByteArray.mk b.toArray) = ⟨(a ++ b).toArray⟩ := ByteArray.mk_append_mk a b

set_option maxRecDepth 100000 in
set_option maxHeartbeats 1000000 in
theorem rnums_any (A : Option Addr) (cap : Nat) (zs : List Nat) (w : World) (hl : zs.length ≤ 1000) (hz : ∀ z ∈ zs, z < 2 ^ 64) (hc : Nums64 w A zs) :
    Calls Tryd.prog 41 #[.slice A zs.length cap] w fun e w' => e = .returned (.string ⟨(nums zs).toArray⟩) ∧ Below w.heap.size w w' := by
  have Hz := Lib.hid hz
  have Hc := Lib.hid hc
  clear hz hc
  go_enter Tryd.func41, Tryd.ntmps41
  go_wp2
  go_loopw [3, 4] (fun v i wr => ∃ (k : Nat) (t : ByteArray), k ≤ zs.length ∧ i = .int .i64 k ∧ v = .string t ∧ t.size ≤ 10 * k ∧ Hid (t = ⟨(nums (zs.take k)).toArray⟩) ∧ Below w.heap.size w wr) (fun _ i _ => zs.length - (intOf i).toNat)
  case atStart => exact ⟨0, ⟨#[]⟩, Nat.zero_le _, rfl, rfl, Nat.le_refl _, Lib.hid rfl, Below.refl _ _⟩
  case round =>
    obtain ⟨k, t, hk, rfl, rfl, hts, ht, hb⟩ := hrel
    by_cases hlt : k < zs.length
    · obtain ⟨ad, rfl, hbk, hcell⟩ := Hc.out k hlt
      have hcr := (hb.cell (p := ad.add k) (by rw [block_of_add]; exact hbk)).trans hcell
      have hs := nums_snoc zs k hlt
      have hz64 := Hz.out zs[k] (List.getElem_mem hlt)
      have hget : zs.getD k 0 = zs[k] := by simp [List.getD, hlt]
      rw [hget] at hcr
      have HS := Lib.hid hs
      generalize hzk : zs[k] = z at *
      have HK := Lib.hid hzk
      clear hs hget hcell hzk
      obtain ⟨u, hu⟩ : ∃ u : ByteArray, u = ⟨(num z).toArray⟩ := ⟨_, rfl⟩
      have hul : u.size ≤ 10 := by rw [hu]; show (num z).toArray.size ≤ 10; simpa using num_le z
      have HU := Lib.hid hu
      have hcall := fun W => rnum_one z W hz64
      rw [← hu] at hcall
      have HC := Lib.hid hcall
      clear hu hcall
      go_wp2_with (go_at_call 43; refine (HC.out _).mono ?_; rintro e w' ⟨rfl, hb'⟩)
      go_roundw
      case rel => exact ⟨k + 1, t ++ u, by omega, by go_num, rfl, by simp; omega, Lib.hid (by rw [ht.out, HU.out, HS.out, nums_join]), hb.trans (hb'.mono hb.size)⟩
      case measure => simp [intOf]; omega
    · have hkl : k = zs.length := by omega
      subst hkl
      go_wp2
      go_ret
      exact ⟨ret_str (by rw [ht.out, List.take_length]), hb⟩
end Go.Proofs.YtjeepmdklbfgeaaDoor.W

namespace Go.Proofs.YtjeepmdklbfgeaaDoor.W
open Go.RowKit Go.Proofs.YtjeepmdklbfgeaaDoor.W.Pure

theorem ret_text {a b : ByteArray} {k l : Int} (h : a = b) (h' : k = l) : Ending.returned (.tuple #[.string a, .int .i64 k]) = .returned (.tuple #[.string b, .int .i64 l]) := by rw [h, h']
/-- A text's octets. -/
def textOf (t : ByteArray) : ByteArray := ⟨(num t.size).toArray⟩ ++ t

set_option maxRecDepth 100000 in
set_option maxHeartbeats 1000000 in
theorem text_in (t : ByteArray) (w : World) (ht : t.size ≤ 200) :
    Calls Tryd.prog 109 #[.string t] w fun e w' => e = .returned (.tuple #[.string (textOf t), .int .i64 0]) ∧ Below w.heap.size w w' := by
  have hn := num_le t.size
  obtain ⟨u, hu⟩ : ∃ u : ByteArray, u = ⟨(num t.size).toArray⟩ := ⟨_, rfl⟩
  have hul : u.size ≤ 10 := by rw [hu]; show (num t.size).toArray.size ≤ 10; simpa using hn
  have HC := Lib.hid (fun (W : World) => num_one t.size w.heap.size W (by omega))
  rw [← hu] at HC
  have HU := Lib.hid hu
  clear hu hn
  go_enter Tryd.func109, Tryd.ntmps109
  go_wp2_with fail
  refine (HC.out _ (by simp) (by go_simp)).mono ?_
  rintro e w' ⟨rfl, hb⟩
  go_wp2
  go_ret2
  exact ⟨ret_text (by rw [HU.out]; rfl) rfl, ((Below.refl _ _).alloc (Nat.le_refl _) _).trans (hb.mono (by simp))⟩

set_option maxRecDepth 100000 in
set_option maxHeartbeats 1000000 in
theorem text_not (t : ByteArray) (w : World) (hs : t.size ≤ 140737488351232) (ht : 200 < t.size) :
    Calls Tryd.prog 109 #[.string t] w fun e w' => e = .returned (.tuple #[.string ⟨#[]⟩, .int .i64 4]) ∧ w = w' := by
  go_enter Tryd.func109, Tryd.ntmps109
  go_wp2
  go_ret2
  exact ⟨rfl, rfl⟩

set_option maxRecDepth 100000 in
set_option maxHeartbeats 1000000 in
theorem rtext_in (t : ByteArray) (w : World) (ht : t.size ≤ 200) :
    Calls Tryd.prog 42 #[.string t] w fun e w' => e = .returned (.string (textOf t)) ∧ Below w.heap.size w w' := by
  have hn := num_le t.size
  obtain ⟨u, hu⟩ : ∃ u : ByteArray, u = ⟨(num t.size).toArray⟩ := ⟨_, rfl⟩
  have hul : u.size ≤ 10 := by rw [hu]; show (num t.size).toArray.size ≤ 10; simpa using hn
  have HC := Lib.hid (fun (W : World) => rnum_one t.size W (by omega))
  rw [← hu] at HC
  have HU := Lib.hid hu
  clear hu hn
  go_enter Tryd.func42, Tryd.ntmps42
  go_wp2_with (go_at_call 43; refine (HC.out _).mono ?_; rintro e w' ⟨rfl, hb⟩)
  go_ret
  exact ⟨ret_str (by rw [HU.out]; rfl), hb⟩

/-- What is taken of a text: of the octets s, from a on. -/
def textL (s : ByteArray) (a : Nat) (r : Nat × Nat × Nat) : ByteArray × Nat × Nat :=
  if r.2.2 ≠ 0 then (⟨#[]⟩, 0, r.2.2)
  else if 200 < r.1 then (⟨#[]⟩, 0, 4)
  else if s.size < a + r.2.1 + r.1 then (⟨#[]⟩, 0, 3)
  else (s.extract (a + r.2.1) (a + r.2.1 + r.1), a + r.2.1 + r.1, 0)
def textV (r : ByteArray × Nat × Nat) : Value := .tuple #[.string r.1, .int .i64 (r.2.1 : Int), .int .i64 (r.2.2 : Int)]

theorem takeL_fits : ∀ (l : List UInt8) (i n : Nat), (takeL l i n).2.2 = 0 → (takeL l i n).2.1 ≤ i + l.length ∧ 1 ≤ (takeL l i n).2.1 := by
  intro l
  induction l with
  | nil => intro i n h; simp [takeL] at h
  | cons o r ih =>
    intro i n h
    rw [takeL] at h ⊢
    split at h
    · simp at h
    · rename_i h1
      rw [if_neg h1]
      split at h
      · rename_i h2
        rw [if_pos h2]
        exact ⟨by simp only [List.length_cons]; omega, by show 1 ≤ i + 1; omega⟩
      · rename_i h2
        rw [if_neg h2]
        have := ih _ _ h
        exact ⟨by simp only [List.length_cons]; omega, this.2⟩

set_option maxRecDepth 100000 in
set_option maxHeartbeats 1000000 in
theorem taketext_in (s : ByteArray) (a : Nat) (w : World) (hs : s.size ≤ 140737488351232) (ha : a ≤ s.size) :
    Calls Tryd.prog 110 #[.string s, .int .i64 a] w fun e w' => e = .returned (textV (textL s a (takeL (s.data.toList.drop a) 0 0))) ∧ w = w' := by
  have hm : s.size ≤ maxLen := by unfold maxLen; omega
  have hfit := takeL_fits (s.data.toList.drop a) 0 0
  have HC := Lib.hid (fun W => take_in s a W hm ha)
  have hlen : (s.data.toList.drop a).length = s.size - a := by simp
  rw [hlen] at hfit
  generalize hr : takeL (s.data.toList.drop a) 0 0 = r at *
  obtain ⟨n, p, k⟩ := r
  clear hr hlen hm
  simp only [takeV] at HC
  simp only at hfit
  by_cases hk : k = 0
  · subst hk
    obtain ⟨hp, hp1⟩ := hfit rfl
    by_cases h200 : 200 < n
    · have hv : Hid (textL s a (n, p, 0) = (⟨#[]⟩, 0, 4)) := Lib.hid (by simp [textL, h200])
      clear hfit
      go_enter Tryd.func110, Tryd.ntmps110
      go_wp2_with fail
      refine (HC.out _).mono ?_
      rintro e w' ⟨rfl, rfl⟩
      go_wp2
      go_ret3
      exact ⟨by rw [hv.out]; rfl, rfl⟩
    · by_cases hsz : s.size < a + p + n
      · have hv : Hid (textL s a (n, p, 0) = (⟨#[]⟩, 0, 3)) := Lib.hid (by simp [textL, h200, hsz])
        clear hfit
        go_enter Tryd.func110, Tryd.ntmps110
        go_wp2_with fail
        refine (HC.out _).mono ?_
        rintro e w' ⟨rfl, rfl⟩
        go_wp2
        go_ret3
        exact ⟨by rw [hv.out]; rfl, rfl⟩
      · have hv : Hid (textL s a (n, p, 0) = (s.extract (a + p) (a + p + n), a + p + n, 0)) := Lib.hid (by simp [textL, h200, hsz])
        clear hfit
        go_enter Tryd.func110, Tryd.ntmps110
        go_wp2_with fail
        refine (HC.out _).mono ?_
        rintro e w' ⟨rfl, rfl⟩
        go_wp2
        go_ret3
        exact ⟨by rw [hv.out]; rfl, rfl⟩
  · have hv : Hid (textL s a (n, p, k) = (⟨#[]⟩, 0, k)) := Lib.hid (by simp [textL, hk])
    have hk' : ((k : Int) == 0) = false := by rw [beq_eq_false_iff_ne]; omega
    have hk'' : ((k : Int) != 0) = true := by rw [bne_iff_ne]; omega
    clear hfit
    go_enter Tryd.func110, Tryd.ntmps110
    go_wp2_with fail
    refine (HC.out _).mono ?_
    rintro e w' ⟨rfl, rfl⟩
    go_wp2
    go_ret3
    exact ⟨by rw [hv.out]; rfl, rfl⟩
set_option maxRecDepth 100000 in
set_option maxHeartbeats 1000000 in
theorem rtaketext_in (s : ByteArray) (a : Nat) (w : World) (hs : s.size ≤ 140737488351232) (ha : a ≤ s.size) :
    Calls Tryd.prog 46 #[.string s, .int .i64 a] w fun e w' => e = .returned (textV (textL s a (takeL (s.data.toList.drop a) 0 0))) ∧ w = w' := by
  have hfit := takeL_fits (s.data.toList.drop a) 0 0
  have HC := Lib.hid (fun W => rtake_in s a W hs ha)
  have hlen : (s.data.toList.drop a).length = s.size - a := by simp
  rw [hlen] at hfit
  generalize hr : takeL (s.data.toList.drop a) 0 0 = r at *
  obtain ⟨n, p, k⟩ := r
  clear hr hlen
  simp only [takeV] at HC
  simp only at hfit
  by_cases hk : k = 0
  · subst hk
    obtain ⟨hp, hp1⟩ := hfit rfl
    by_cases h200 : 200 < n
    · have hv : Hid (textL s a (n, p, 0) = (⟨#[]⟩, 0, 4)) := Lib.hid (by simp [textL, h200])
      clear hfit
      go_enter Tryd.func46, Tryd.ntmps46
      go_wp2_with fail
      refine (HC.out _).mono ?_
      rintro e w' ⟨rfl, rfl⟩
      go_wp2
      go_ret3
      exact ⟨by rw [hv.out]; rfl, rfl⟩
    · by_cases hsz : s.size < a + p + n
      · have hv : Hid (textL s a (n, p, 0) = (⟨#[]⟩, 0, 3)) := Lib.hid (by simp [textL, h200, hsz])
        clear hfit
        go_enter Tryd.func46, Tryd.ntmps46
        go_wp2_with fail
        refine (HC.out _).mono ?_
        rintro e w' ⟨rfl, rfl⟩
        go_wp2
        go_ret3
        exact ⟨by rw [hv.out]; rfl, rfl⟩
      · have hv : Hid (textL s a (n, p, 0) = (s.extract (a + p) (a + p + n), a + p + n, 0)) := Lib.hid (by simp [textL, h200, hsz])
        clear hfit
        go_enter Tryd.func46, Tryd.ntmps46
        go_wp2_with fail
        refine (HC.out _).mono ?_
        rintro e w' ⟨rfl, rfl⟩
        go_wp2
        go_ret3
        exact ⟨by rw [hv.out]; rfl, rfl⟩
  · have hv : Hid (textL s a (n, p, k) = (⟨#[]⟩, 0, k)) := Lib.hid (by simp [textL, hk])
    have hk' : ((k : Int) == 0) = false := by rw [beq_eq_false_iff_ne]; omega
    have hk'' : ((k : Int) != 0) = true := by rw [bne_iff_ne]; omega
    clear hfit
    go_enter Tryd.func46, Tryd.ntmps46
    go_wp2_with fail
    refine (HC.out _).mono ?_
    rintro e w' ⟨rfl, rfl⟩
    go_wp2
    go_ret3
    exact ⟨by rw [hv.out]; rfl, rfl⟩
set_option maxRecDepth 100000 in
set_option maxHeartbeats 1000000 in
theorem taketext_not (s : ByteArray) (a : Int) (w : World) (hs : s.size ≤ 140737488351232) (ha : a < 0 ∨ (s.size : Int) < a) :
    Calls Tryd.prog 110 #[.string s, .int .i64 a] w fun e w' => e = .returned (textV (⟨#[]⟩, 0, 1)) ∧ w = w' := by
  have HC := Lib.hid (fun W => take_not s a W (by unfold maxLen; omega) ha)
  simp only [takeV] at HC
  clear ha
  go_enter Tryd.func110, Tryd.ntmps110
  go_wp2_with fail
  refine (HC.out _).mono ?_
  rintro e w' ⟨rfl, rfl⟩
  go_wp2
  go_ret3
  exact ⟨rfl, rfl⟩

set_option maxRecDepth 100000 in
set_option maxHeartbeats 1000000 in
theorem rtaketext_not (s : ByteArray) (a : Int) (w : World) (hs : s.size ≤ 140737488351232) (ha : a < 0 ∨ (s.size : Int) < a) :
    Calls Tryd.prog 46 #[.string s, .int .i64 a] w fun e w' => e = .returned (textV (⟨#[]⟩, 0, 1)) ∧ w = w' := by
  have HC := Lib.hid (fun W => rtake_not s a W hs ha)
  simp only [takeV] at HC
  clear ha
  go_enter Tryd.func46, Tryd.ntmps46
  go_wp2_with fail
  refine (HC.out _).mono ?_
  rintro e w' ⟨rfl, rfl⟩
  go_wp2
  go_ret3
  exact ⟨rfl, rfl⟩

end Go.Proofs.YtjeepmdklbfgeaaDoor.W

namespace Go.Proofs.YtjeepmdklbfgeaaDoor.W
open Go.RowKit Go.Proofs.YtjeepmdklbfgeaaDoor.Crc

/-- A register's four octets, the lowest first. -/
def four (c : BitVec 32) : List UInt8 := [UInt8.ofNat c.toNat, UInt8.ofNat (c.toNat / 256), UInt8.ofNat (c.toNat / 65536), UInt8.ofNat (c.toNat / 16777216)]
def fourB (c : BitVec 32) : ByteArray := ⟨(four c).toArray⟩
theorem fourB_size (c : BitVec 32) : (fourB c).size = 4 := rfl
/-- Octets, sealed. -/
def sealB (s : ByteArray) : ByteArray := s ++ fourB (crc s.data.toList)

theorem octet_of (n : Nat) : (n : Int) % 256 = ((UInt8.ofNat n).toNat : Int) := by rw [UInt8.toNat_ofNat']; omega
theorem four_text {P : Program} (g : Nat) (src dst : TypeId) (hs : P.underlying src = some (.slice 5)) (he : P.underlying 5 = some (.int .u8)) (hd : P.underlying dst = some .string) (c : BitVec 32)
    (W : World) (h0 : W.cell? ⟨g, 0, none⟩ = some (.int .u8 ((c.toNat : Int) % 256))) (h1 : W.cell? ⟨g, 1, none⟩ = some (.int .u8 ((c.toNat : Int) / 256 % 256)))
    (h2 : W.cell? ⟨g, 2, none⟩ = some (.int .u8 ((c.toNat : Int) / 65536 % 256))) (h3 : W.cell? ⟨g, 3, none⟩ = some (.int .u8 ((c.toNat : Int) / 16777216))) :
    (convert src dst (.slice (some ⟨g, 0, none⟩) 4 4)).run P W = .ok (.string (fourB c)) W :=
  run_convert_bytes_back W src dst 5 ⟨g, 0, none⟩ 4 (four c) hs he hd fun j hj => by
    match j, hj with
    | 0, _ => rw [show ((⟨g, 0, none⟩ : Addr).add 0) = ⟨g, 0, none⟩ from rfl, h0, octet_of]; rfl
    | 1, _ => rw [show ((⟨g, 0, none⟩ : Addr).add 1) = ⟨g, 1, none⟩ from by simp [Addr.add], h1, show ((c.toNat : Int) / 256) = ((c.toNat / 256 : Nat) : Int) by omega, octet_of]; rfl
    | 2, _ => rw [show ((⟨g, 0, none⟩ : Addr).add 2) = ⟨g, 2, none⟩ from by simp [Addr.add], h2, show ((c.toNat : Int) / 65536) = ((c.toNat / 65536 : Nat) : Int) by omega, octet_of]; rfl
    | 3, _ => rw [show ((⟨g, 0, none⟩ : Addr).add 3) = ⟨g, 3, none⟩ from by simp [Addr.add], h3, show ((c.toNat : Int) / 16777216) = ((c.toNat / 16777216 : Nat) : Int) % 256 by have := c.isLt; omega, octet_of]; rfl

set_option maxRecDepth 100000 in
set_option maxHeartbeats 1000000 in
theorem sumtext_any (s : ByteArray) (w : World) (hs : s.size ≤ 140737488351232) (ht : Tab w) :
    Calls Tryd.prog 100 #[.string s] w fun e w' => e = .returned (.string (fourB (crc s.data.toList))) ∧ Below w.heap.size w w' := by
  have HC := Lib.hid (sum_any s w (by unfold maxLen; omega) ht)
  generalize crc s.data.toList = c at *
  clear ht
  have hc := c.isLt
  have hconv := fun g => four_text (P := Tryd.prog) g 83 9 Tryd.underlying83 Tryd.underlying5 Tryd.underlying9 c
  go_enter Tryd.func100, Tryd.ntmps100
  go_wp2_with fail
  refine HC.out.mono ?_
  rintro e w' ⟨rfl, rfl⟩
  go_wp2
  go_ret
  exact ⟨rfl, (Below.refl _ _).alloc (Nat.le_refl _) _⟩

set_option maxRecDepth 100000 in
set_option maxHeartbeats 1000000 in
theorem seal_in (s : ByteArray) (w : World) (hs : s.size ≤ 4096) (ht : Tab w) :
    Calls Tryd.prog 25 #[.string s] w fun e w' => e = .returned (.tuple #[.string (sealB s), .int .i64 0]) ∧ Below w.heap.size w w' := by
  have HC := Lib.hid (sumtext_any s w (by omega) ht)
  have hsz := fourB_size (crc s.data.toList)
  have HE : Hid (sealB s = s ++ fourB (crc s.data.toList)) := Lib.hid rfl
  generalize fourB (crc s.data.toList) = u at *
  have hul : u.size ≤ 4 := Nat.le_of_eq hsz
  clear ht hsz
  go_enter Tryd.func25, Tryd.ntmps25
  go_wp2_with fail
  refine HC.out.mono ?_
  rintro e w' ⟨rfl, hb⟩
  go_wp2
  go_ret2
  exact ⟨ret_text HE.out.symm rfl, hb⟩

set_option maxRecDepth 100000 in
set_option maxHeartbeats 1000000 in
theorem seal_not (s : ByteArray) (w : World) (hs : s.size ≤ 140737488351232) (hl : 4096 < s.size) :
    Calls Tryd.prog 25 #[.string s] w fun e w' => e = .returned (.tuple #[.string ⟨#[]⟩, .int .i64 4]) ∧ w = w' := by
  go_enter Tryd.func25, Tryd.ntmps25
  go_wp2
  go_ret2
  exact ⟨rfl, rfl⟩

theorem slice_from {P : Program} (t : TypeId) (h : P.underlying t = some .string) (s : ByteArray) (h4 : 4 ≤ s.size) (W : World) :
    (Instr.slice t (.string s) (some (.int .i64 ((s.size : Int) - 4))) none none).run P W = .ok (.string (s.extract (s.size - 4) s.size)) W := by
  rw [run_slice_string_from_if (w := W) t s .i64 _ h]
  rw [if_pos ⟨by omega, by omega⟩, show ((s.size : Int) - 4).toNat = s.size - 4 by omega]
theorem slice_to {P : Program} (t : TypeId) (h : P.underlying t = some .string) (s : ByteArray) (h4 : 4 ≤ s.size) (W : World) :
    (Instr.slice t (.string s) none (some (.int .i64 ((s.size : Int) - 4))) none).run P W = .ok (.string (s.extract 0 (s.size - 4))) W := by
  rw [run_slice_string_to_if (w := W) t s .i64 _ h]
  rw [if_pos ⟨by omega, by omega⟩, show ((s.size : Int) - 4).toNat = s.size - 4 by omega]

/-- What opens: the octets without the last four, if these are their sum's. -/
def Opens (s : ByteArray) : Prop := s.extract (s.size - 4) s.size = fourB (crc (s.extract 0 (s.size - 4)).data.toList)

set_option maxRecDepth 100000 in
set_option maxHeartbeats 1000000 in
theorem open_short (s : ByteArray) (w : World) (hs : s.size < 4) :
    Calls Tryd.prog 39 #[.string s] w fun e w' => e = .returned (.tuple #[.string ⟨#[]⟩, .int .i64 3]) ∧ w = w' := by
  go_enter Tryd.func39, Tryd.ntmps39
  go_wp2
  go_ret2
  exact ⟨rfl, rfl⟩
set_option maxRecDepth 100000 in
set_option maxHeartbeats 1000000 in
theorem open_large (s : ByteArray) (w : World) (hs : s.size ≤ 140737488351232) (hl : 4100 < s.size) :
    Calls Tryd.prog 39 #[.string s] w fun e w' => e = .returned (.tuple #[.string ⟨#[]⟩, .int .i64 4]) ∧ w = w' := by
  go_enter Tryd.func39, Tryd.ntmps39
  go_wp2
  go_ret2
  exact ⟨rfl, rfl⟩
theorem text_eq {a b : ByteArray} (h : a.toList = b.toList) : a = b := by
  rw [ByteArray.toList_eq, ByteArray.toList_eq] at h
  exact ByteArray.ext (Array.toList_inj.1 h)

set_option maxRecDepth 100000 in
set_option maxHeartbeats 1000000 in
theorem open_yes (s : ByteArray) (w : World) (h4 : 4 ≤ s.size) (hl : s.size ≤ 4100) (ht : Tab w) (ho : Opens s) :
    Calls Tryd.prog 39 #[.string s] w fun e w' => e = .returned (.tuple #[.string (s.extract 0 (s.size - 4)), .int .i64 0]) ∧ Below w.heap.size w w' := by
  have HC := fun W => sumtext_any (s.extract 0 (s.size - 4)) W (by simp; omega)
  have hfrom := fun W => slice_from (P := Tryd.prog) 9 Tryd.underlying9 s h4 W
  have hto := fun W => slice_to (P := Tryd.prog) 9 Tryd.underlying9 s h4 W
  unfold Opens at ho
  generalize s.extract (s.size - 4) s.size = p at *
  generalize s.extract 0 (s.size - 4) = q at *
  generalize fourB (crc q.data.toList) = u at *
  subst ho
  have hq : (p.toList == p.toList) = true := by simp
  have HC' := Lib.hid HC
  have HT := Lib.hid ht
  clear ht HC
  go_enter Tryd.func39, Tryd.ntmps39
  go_wp2_with fail
  go_region_with (go_at_call 100; refine (HC'.out _ (by exact HT.out)).mono ?_; rintro e w' ⟨rfl, hb⟩)
  all_goals
    go_wp2
    go_ret2
    exact ⟨rfl, (Below.refl _ _).drew.trans hb⟩

set_option maxRecDepth 100000 in
set_option maxHeartbeats 1000000 in
theorem open_no (s : ByteArray) (w : World) (h4 : 4 ≤ s.size) (hl : s.size ≤ 4100) (ht : Tab w) (ho : ¬ Opens s) :
    Calls Tryd.prog 39 #[.string s] w fun e w' => e = .returned (.tuple #[.string ⟨#[]⟩, .int .i64 10]) ∧ Below w.heap.size w w' := by
  have HC := fun W => sumtext_any (s.extract 0 (s.size - 4)) W (by simp; omega)
  have hfrom := fun W => slice_from (P := Tryd.prog) 9 Tryd.underlying9 s h4 W
  have hto := fun W => slice_to (P := Tryd.prog) 9 Tryd.underlying9 s h4 W
  unfold Opens at ho
  generalize s.extract (s.size - 4) s.size = p at *
  generalize s.extract 0 (s.size - 4) = q at *
  generalize fourB (crc q.data.toList) = u at *
  have hq : (p.toList == u.toList) = false := by rw [beq_eq_false_iff_ne]; exact fun h => ho (text_eq h)
  have HC' := Lib.hid HC
  have HT := Lib.hid ht
  clear ht HC ho
  go_enter Tryd.func39, Tryd.ntmps39
  go_wp2_with fail
  go_region_with (go_at_call 100; refine (HC'.out _ (by exact HT.out)).mono ?_; rintro e w' ⟨rfl, hb⟩)
  all_goals
    go_wp2
    go_ret2
    exact ⟨rfl, (Below.refl _ _).drew.trans hb⟩

/-! ### The document's -/
theorem rem_four (c : BitVec 32) : c.toNat / 256 / 256 = c.toNat / 65536 ∧ c.toNat / 256 / 256 / 256 = c.toNat / 16777216 := by omega
/-- The first j of a register's octets. -/
def firstB (c : BitVec 32) (j : Nat) : ByteArray := ⟨((four c).take j).toArray⟩
theorem first_snoc (c : BitVec 32) (j : Nat) (h : j < 4) (s : ByteArray) : s ++ firstB c j ++ ⟨#[UInt8.ofNat (c.toNat / 256 ^ j)]⟩ = s ++ firstB c (j + 1) := by
  rw [ByteArray.append_assoc]
  congr 1
  unfold firstB
  rw [ByteArray.mk_append_mk ((four c).take j) [UInt8.ofNat (c.toNat / 256 ^ j)]]
  congr 2
  rcases (show j = 0 ∨ j = 1 ∨ j = 2 ∨ j = 3 by omega) with rfl | rfl | rfl | rfl <;> simp [four]

set_option maxRecDepth 100000 in
set_option maxHeartbeats 1000000 in
theorem rseal_any (s : ByteArray) (w : World) (hs : s.size ≤ 140737488351232) :
    Calls Tryd.prog 38 #[.string s] w fun e w' => e = .returned (.string (sealB s)) ∧ Below w.heap.size w w' := by
  have HC := Lib.hid (fun W => rsum_any s W (by unfold maxLen; omega))
  have HE : Hid (sealB s = s ++ firstB (crc s.data.toList) 4) := Lib.hid rfl
  generalize crc s.data.toList = c at *
  have hc := c.isLt
  go_enter Tryd.func38, Tryd.ntmps38
  go_wp2_with fail
  refine (HC.out _).mono ?_
  rintro e w' ⟨rfl, rfl⟩
  go_wp2
  go_loopw [0, 3, 4] (fun v r i wr => ∃ (j m : Nat) (t : ByteArray), j ≤ 4 ∧ i = .int .i64 j ∧ r = .int .u32 m ∧ m < 4294967296 ∧ Hid (m = c.toNat / 256 ^ j) ∧ v = .string t ∧ t.size ≤ s.size + j ∧ Hid (t = s ++ firstB c j) ∧ Below w.heap.size w wr) (fun _ _ i _ => 4 - (intOf i).toNat)
  case atStart => exact ⟨0, c.toNat, s, by omega, rfl, rfl, by omega, Lib.hid (by simp), rfl, by omega, Lib.hid (by show s = s ++ ByteArray.empty; simp), Below.refl _ _⟩
  case round =>
    obtain ⟨j, m, t, hj, rfl, rfl, hm, hmj, rfl, ht, htj, hb⟩ := hrel
    by_cases hlt : j < 4
    · have hconv := fun g => one_text (P := Tryd.prog) _ (UInt8.ofNat m) (octet_of m) g 83 9 Tryd.underlying83 Tryd.underlying5 Tryd.underlying9
      have hs1 := Lib.hid (first_snoc c j hlt s)
      go_wp2
      go_roundw
      case rel => exact ⟨j + 1, m / 256, t ++ ⟨#[UInt8.ofNat m]⟩, by omega, by go_num, by go_num, by omega, Lib.hid (by rw [hmj.out, Nat.pow_succ, Nat.div_div_eq_div_mul]), rfl, by rw [ByteArray.size_append]; show t.size + 1 ≤ _; omega, Lib.hid (by rw [htj.out, hmj.out]; exact hs1.out), hb.alloc hb.size _⟩
      case measure => simp [intOf]; omega
    · have hj4 : j = 4 := by omega
      subst hj4
      go_wp2
      go_ret
      exact ⟨ret_str (by rw [HE.out, htj.out]), hb⟩

theorem seal_opens (s : ByteArray) : sealB (s.extract 0 (s.size - 4)) = s ↔ Opens s := by
  unfold sealB Opens
  have hcut : s.extract 0 (s.size - 4) ++ s.extract (s.size - 4) s.size = s := by
    rw [ByteArray.extract_append_extract]; simp
  generalize fourB (crc (s.extract 0 (s.size - 4)).data.toList) = u at *
  constructor
  · intro h
    have h2 := h.trans hcut.symm
    exact (ByteArray.append_right_inj _).1 h2 |>.symm
  · intro h
    rw [← h]; exact hcut

set_option maxRecDepth 100000 in
set_option maxHeartbeats 1000000 in
theorem ropen_short (s : ByteArray) (w : World) (hs : s.size < 4) :
    Calls Tryd.prog 44 #[.string s] w fun e w' => e = .returned (.tuple #[.string ⟨#[]⟩, .int .i64 3]) ∧ w = w' := by
  go_enter Tryd.func44, Tryd.ntmps44
  go_wp2
  go_ret2
  exact ⟨rfl, rfl⟩
set_option maxRecDepth 100000 in
set_option maxHeartbeats 1000000 in
theorem ropen_large (s : ByteArray) (w : World) (hs : s.size ≤ 140737488351232) (hl : 4100 < s.size) :
    Calls Tryd.prog 44 #[.string s] w fun e w' => e = .returned (.tuple #[.string ⟨#[]⟩, .int .i64 4]) ∧ w = w' := by
  go_enter Tryd.func44, Tryd.ntmps44
  go_wp2
  go_ret2
  exact ⟨rfl, rfl⟩
set_option maxRecDepth 100000 in
set_option maxHeartbeats 1000000 in
theorem ropen_yes (s : ByteArray) (w : World) (h4 : 4 ≤ s.size) (hl : s.size ≤ 4100) (ho : Opens s) :
    Calls Tryd.prog 44 #[.string s] w fun e w' => e = .returned (.tuple #[.string (s.extract 0 (s.size - 4)), .int .i64 0]) ∧ Below w.heap.size w w' := by
  have HC := fun W => rseal_any (s.extract 0 (s.size - 4)) W (by simp; omega)
  have hto := fun W => slice_to (P := Tryd.prog) 9 Tryd.underlying9 s h4 W
  have hq : ((sealB (s.extract 0 (s.size - 4))).toList == s.toList) = true := by rw [(seal_opens s).2 ho]; simp
  generalize sealB (s.extract 0 (s.size - 4)) = u at *
  generalize s.extract 0 (s.size - 4) = q at *
  have HC' := Lib.hid HC
  clear HC ho
  go_enter Tryd.func44, Tryd.ntmps44
  go_wp2_with fail
  refine (HC'.out _).mono ?_
  rintro e w' ⟨rfl, hb⟩
  go_wp2
  go_ret2
  exact ⟨rfl, hb⟩
set_option maxRecDepth 100000 in
set_option maxHeartbeats 1000000 in
theorem ropen_no (s : ByteArray) (w : World) (h4 : 4 ≤ s.size) (hl : s.size ≤ 4100) (ho : ¬ Opens s) :
    Calls Tryd.prog 44 #[.string s] w fun e w' => e = .returned (.tuple #[.string ⟨#[]⟩, .int .i64 10]) ∧ Below w.heap.size w w' := by
  have HC := fun W => rseal_any (s.extract 0 (s.size - 4)) W (by simp; omega)
  have hto := fun W => slice_to (P := Tryd.prog) 9 Tryd.underlying9 s h4 W
  have hq : ((sealB (s.extract 0 (s.size - 4))).toList == s.toList) = false := by
    rw [beq_eq_false_iff_ne]; exact fun h => ho ((seal_opens s).1 (text_eq h))
  generalize sealB (s.extract 0 (s.size - 4)) = u at *
  generalize s.extract 0 (s.size - 4) = q at *
  have HC' := Lib.hid HC
  clear HC ho
  go_enter Tryd.func44, Tryd.ntmps44
  go_wp2_with fail
  refine (HC'.out _).mono ?_
  rintro e w' ⟨rfl, hb⟩
  go_wp2
  go_ret2
  exact ⟨rfl, hb⟩
end Go.Proofs.YtjeepmdklbfgeaaDoor.W
