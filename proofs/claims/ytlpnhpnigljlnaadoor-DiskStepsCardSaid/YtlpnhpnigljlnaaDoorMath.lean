/-
  Plain mathematics for the package wire: numbers in octets, how they are taken, texts. No program stands here.
-/
import Derived.Laws.BitsAllLaws
import Derived.Laws.BitsLemmas
import Derived.Laws.Concat
import Derived.Laws.Strings
import Derived.Lib.Strings
import Derived.IntWalk
namespace Go.Proofs.YtlpnhpnigljlnaaDoor.Pure

/-- The octets of a number below 128 ^ f, f at least 1. -/
def numF : Nat → Nat → List UInt8
  | 0, _ => []
  | f + 1, n => if n < 128 then [UInt8.ofNat n] else UInt8.ofNat (n % 128 + 128) :: numF f (n / 128)
/-- The octets of a number of 64 bits. -/
def num (n : Nat) : List UInt8 := numF 10 n
/-- The octets of numbers, one behind the other. -/
def nums (l : List Nat) : List UInt8 := (l.map num).flatten

theorem numF_more (f : Nat) : ∀ (n : Nat), n < 128 ^ (f + 1) → numF (f + 2) n = numF (f + 1) n := by
  induction f with
  | zero =>
    intro n h
    have h1 : n < 128 := by simpa using h
    simp [numF, h1]
  | succ f ih =>
    intro n h
    rw [numF]
    by_cases h1 : n < 128
    · rw [if_pos h1, numF, if_pos h1]
    · rw [if_neg h1, ih (n / 128) (by rw [Nat.pow_succ] at h; omega)]
      conv => rhs; rw [numF]
      rw [if_neg h1]

/-- What is taken from the octets o :: r: the number n is there of the first i. The result: the number, how many octets, the error's number. -/
def takeL : List UInt8 → Nat → Nat → Nat × Nat × Nat
  | [], _, _ => (0, 0, 3)
  | o :: r, i, n =>
    if 0 < i ∧ o.toNat = 0 ∨ i = 9 ∧ 1 < o.toNat then (0, 0, 2)
    else if o.toNat < 128 then (n + o.toNat % 128 * 128 ^ i, i + 1, 0)
    else takeL r (i + 1) (n + o.toNat % 128 * 128 ^ i)

theorem drop_at (s : ByteArray) (i : Nat) (h : i < s.size) : s.data.toList.drop i = s[i] :: s.data.toList.drop (i + 1) := by
  rw [List.drop_eq_getElem_cons (by simpa using h)]; rfl
theorem drop_out (s : ByteArray) (i : Nat) (h : s.size ≤ i) : s.data.toList.drop i = [] := List.drop_eq_nil_of_le (by simpa using h)

/-- The first k octets from a on are taken, the number N is there of them. -/
def TakeInv (s : ByteArray) (a k N : Nat) : Prop :=
  takeL (s.data.toList.drop a) 0 0 = takeL (s.data.toList.drop (a + k)) k N ∧ N < 128 ^ k ∧ k ≤ 9 ∧ a + k ≤ s.size
theorem take_zero (s : ByteArray) (a : Nat) (h : a ≤ s.size) : TakeInv s a 0 0 := ⟨rfl, by simp, by omega, h⟩
theorem take_out {s : ByteArray} {a k N : Nat} (h : TakeInv s a k N) (hk : s.size ≤ a + k) : takeL (s.data.toList.drop a) 0 0 = (0, 0, 3) := by
  rw [h.1, drop_out _ _ hk, takeL]
theorem take_bad {s : ByteArray} {a k N : Nat} (h : TakeInv s a k N) (hk : a + k < s.size) (hb : 0 < k ∧ s[a + k].toNat = 0 ∨ k = 9 ∧ 1 < s[a + k].toNat) : takeL (s.data.toList.drop a) 0 0 = (0, 0, 2) := by
  rw [h.1, drop_at _ _ hk, takeL, if_pos hb]
theorem take_end {s : ByteArray} {a k N : Nat} (h : TakeInv s a k N) (hk : a + k < s.size) (hb : ¬ (0 < k ∧ s[a + k].toNat = 0 ∨ k = 9 ∧ 1 < s[a + k].toNat)) (ho : s[a + k].toNat < 128) :
    takeL (s.data.toList.drop a) 0 0 = (N + s[a + k].toNat % 128 * 128 ^ k, k + 1, 0) := by
  rw [h.1, drop_at _ _ hk, takeL, if_neg hb, if_pos ho]
theorem take_on {s : ByteArray} {a k N : Nat} (h : TakeInv s a k N) (hk : a + k < s.size) (hb : ¬ (0 < k ∧ s[a + k].toNat = 0 ∨ k = 9 ∧ 1 < s[a + k].toNat)) (ho : 128 ≤ s[a + k].toNat) :
    TakeInv s a (k + 1) (N + s[a + k].toNat % 128 * 128 ^ k) := by
  obtain ⟨h1, h2, h3, h4⟩ := h
  refine ⟨?_, ?_, by omega, by omega⟩
  · rw [h1, drop_at _ _ hk, takeL, if_neg hb, if_neg (by omega), Nat.add_assoc]
  · rw [Nat.pow_succ]
    have : s[a + k].toNat % 128 * 128 ^ k ≤ 127 * 128 ^ k := Nat.mul_le_mul_right _ (by omega)
    omega

theorem pow_128 (k : Nat) : 128 ^ k = 2 ^ (7 * k) := by rw [show (128 : Nat) = 2 ^ 7 from rfl, ← Nat.pow_mul]
theorem num_small (k o : Nat) (hk : k ≤ 9) (h9 : k = 9 → o ≤ 1) (ho : o < 256) : o % 128 * 128 ^ k < 2 ^ 64 := by
  have h8 : 128 ^ 8 = 2 ^ 56 := by decide
  rcases Nat.lt_or_ge k 9 with h | h
  · have h1 : 128 ^ k ≤ 128 ^ 8 := Nat.pow_le_pow_right (by decide) (by omega)
    have h2 : o % 128 * 128 ^ k ≤ 127 * 128 ^ 8 := Nat.mul_le_mul (by omega) h1
    omega
  · obtain rfl : k = 9 := by omega
    have h1 := h9 rfl
    have h2 : 128 ^ 9 = 2 ^ 63 := by decide
    have h3 : o % 128 * 128 ^ 9 ≤ 1 * 128 ^ 9 := Nat.mul_le_mul_right _ (by omega)
    omega
theorem mask127 {c : Int} (h0 : 0 ≤ c) (h1 : c ≤ 255) : bits .and .u8 c 127 = c % 128 := bits_mask .u8 8 (by decide) wraps_u8 7 (by decide) c h0 (by omega)
theorem mask_octet (o : UInt8) : bits .and .u8 (o.toNat : Int) 127 = ((o.toNat % 128 : Nat) : Int) := by
  have := o.toNat_lt
  rw [mask127 (by omega) (by omega)]; omega
/-- 'n |= uint64(o & 127) << (7 * i)', as the walk writes it. -/
theorem or_shl (N k o : Nat) (hN : N < 128 ^ k) (hk : k ≤ 9) (h9 : k = 9 → o ≤ 1) (ho : o < 256) :
    bits .or .u64 (N : Int) (IntKind.u64.wrap (((o % 128 : Nat) : Int) * 2 ^ (7 * k))) = ((N + o % 128 * 128 ^ k : Nat) : Int) := by
  have hs := num_small k o hk h9 ho
  have hk9 : 128 ^ k ≤ 128 ^ 9 := Nat.pow_le_pow_right (by decide) hk
  have h2 : 128 ^ 9 = 2 ^ 63 := by decide
  have e1 : (((o % 128 : Nat) : Int) * 2 ^ (7 * k)) = ((o % 128 * 128 ^ k : Nat) : Int) := by rw [pow_128]; norm_cast
  rw [e1, show IntKind.u64.wrap ((o % 128 * 128 ^ k : Nat) : Int) = ((o % 128 * 128 ^ k : Nat) : Int) from IntWalk.u64_in _ ⟨by omega, by omega⟩]
  rw [u64_or_nat _ _ (by omega) (by omega), Nat.or_comm, nat_join (7 * k) _ _ (by rw [pow_128]; exact Nat.mul_mod_left _ _) (by rw [← pow_128]; exact hN), Nat.add_comm]

theorem or_shl' (N k o : Nat) (hN : N < 128 ^ k) (hk : k ≤ 9) (h9 : k = 9 → o ≤ 1) (ho : o < 256) :
    bits .or .u64 (N : Int) (IntKind.u64.wrap ((o : Int) % 128 * 2 ^ (7 * k))) = ((N + o % 128 * 128 ^ k : Nat) : Int) := by
  have := or_shl N k o hN hk h9 ho
  rwa [Int.natCast_emod] at this
theorem or_shl9 (N o : Nat) (hN : N < 128 ^ 9) (h9 : o ≤ 1) :
    bits .or .u64 (N : Int) ((o : Int) % 128 * 9223372036854775808) = ((N + o % 128 * 128 ^ 9 : Nat) : Int) := by
  have := or_shl' N 9 o hN (by omega) (fun _ => h9) (by omega)
  rw [IntWalk.u64_in _ ⟨by omega, by omega⟩] at this
  exact this
theorem or_shl0 (N o : Nat) (hN : N < 128 ^ 0) (ho : o < 256) :
    bits .or .u64 (N : Int) ((o : Int) % 128) = ((N + o % 128 * 128 ^ 0 : Nat) : Int) := by
  have := or_shl' N 0 o hN (by omega) (by omega) ho
  rw [IntWalk.u64_in _ ⟨by omega, by omega⟩] at this
  simpa using this

/-- How the octets of a number that are laid down already, and those that are not, make the whole. -/
def NumInv (tot pre acc : List UInt8) (x : Nat) : Prop := ∃ f, f ≤ 10 ∧ x < 128 ^ f ∧ 1 ≤ f ∧ acc.length + f ≤ pre.length + 10 ∧ tot = acc ++ numF f x
theorem num_begin (pre : List UInt8) (z : Nat) (h : z < 2 ^ 64) : NumInv (pre ++ num z) pre pre z :=
  ⟨10, by omega, by have : (128 : Nat) ^ 10 = 2 ^ 70 := by decide
                    omega, by omega, by omega, rfl⟩
theorem num_on {tot pre acc : List UInt8} {x : Nat} (h : NumInv tot pre acc x) (hx : 128 ≤ x) : NumInv tot pre (acc ++ [UInt8.ofNat (x % 128 + 128)]) (x / 128) := by
  obtain ⟨f, h1, h2, h3, h4, h5⟩ := h
  obtain ⟨f, rfl⟩ : ∃ g, f = g + 1 := ⟨f - 1, by omega⟩
  have hf : 1 ≤ f := by
    rcases Nat.eq_zero_or_pos f with h | h
    · subst h; simp at h2; omega
    · exact h
  refine ⟨f, by omega, by rw [Nat.pow_succ] at h2; omega, hf, by simp; omega, ?_⟩
  rw [h5, numF, if_neg (by omega)]
  simp
theorem num_stop {tot pre acc : List UInt8} {x : Nat} (h : NumInv tot pre acc x) (hx : x < 128) : tot = acc ++ [UInt8.ofNat x] := by
  obtain ⟨f, h1, h2, h3, h4, h5⟩ := h
  obtain ⟨f, rfl⟩ : ∃ g, f = g + 1 := ⟨f - 1, by omega⟩
  rw [h5, numF, if_pos hx]
theorem num_len {tot pre acc : List UInt8} {x : Nat} (h : NumInv tot pre acc x) : acc.length ≤ pre.length + 9 := by
  obtain ⟨f, h1, h2, h3, h4, h5⟩ := h
  omega
theorem numF_len (f : Nat) : ∀ n, (numF f n).length ≤ f := by
  induction f with
  | zero => intro n; simp [numF]
  | succ f ih =>
    intro n
    rw [numF]
    split
    · simp
    · have := ih (n / 128); simp; omega
theorem num_le (n : Nat) : (num n).length ≤ 10 := numF_len 10 n
theorem nums_len (l : List Nat) : (nums l).length ≤ 10 * l.length := by
  induction l with
  | nil => simp [nums]
  | cons n l ih => have := num_le n; simp [nums] at ih ⊢; omega
theorem nums_snoc (l : List Nat) (k : Nat) (h : k < l.length) : nums (l.take (k + 1)) = nums (l.take k) ++ num l[k] := by
  unfold nums
  rw [List.take_succ_eq_append_getElem h, List.map_append, List.flatten_append]; simp

theorem or_128 : ∀ m : Fin 256, (m.val ||| 128) = m.val % 128 + 128 := by decide +kernel
theorem octet_on (y : Nat) : bits .or .u8 ((y : Int) % 256) 128 = ((UInt8.ofNat (y % 128 + 128)).toNat : Int) := by
  rw [u8_or _ _ (by omega) (by omega) (by omega) (by omega)]
  have h := or_128 ⟨((y : Int) % 256).toNat, by omega⟩
  simp only at h
  rw [show (128 : Int).toNat = 128 from rfl, h, UInt8.toNat_ofNat']
  omega
theorem octet_last (y : Nat) (h : y < 128) : (y : Int) = ((UInt8.ofNat y).toNat : Int) := by
  rw [UInt8.toNat_ofNat']
  omega

end Go.Proofs.YtlpnhpnigljlnaaDoor.Pure
