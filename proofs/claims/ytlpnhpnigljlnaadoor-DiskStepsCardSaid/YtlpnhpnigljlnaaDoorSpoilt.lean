/-
  Plain mathematics of what is spoilt: a turned bit's part in the sum, and when four octets are a sum. No program stands here.
-/
import Derived.Test.YtlpnhpnigljlnaaDoorCrc
namespace Go.Proofs.YtlpnhpnigljlnaaDoor.Crc

theorem ofNat_xor (x y : Nat) : BitVec.ofNat 32 (x ^^^ y) = BitVec.ofNat 32 x ^^^ BitVec.ofNat 32 y := by
  apply BitVec.eq_of_toNat_eq
  rw [BitVec.toNat_xor, BitVec.toNat_ofNat, BitVec.toNat_ofNat, BitVec.toNat_ofNat, Nat.xor_mod_two_pow]
theorem octet_xor (r d : BitVec 32) (o e : UInt8) : octet (r ^^^ d) (o ^^^ e) = octet r o ^^^ octet d e := by
  unfold octet
  rw [UInt8.toNat_xor, ofNat_xor, xor4, steps_xor]
theorem octet_zero (d : BitVec 32) : octet d 0 = steps 8 d := by unfold octet; simp
/-- What is turned in the register ahead goes through what follows by itself. -/
theorem reg_through : ∀ (l : List UInt8) (r d : BitVec 32), reg (r ^^^ d) l = reg r l ^^^ steps (8 * l.length) d := by
  intro l
  induction l with
  | nil => intro r d; rfl
  | cons o l ih =>
    intro r d
    show reg (octet (r ^^^ d) o) l = reg (octet r o) l ^^^ steps (8 * (l.length + 1)) d
    have h : octet (r ^^^ d) o = octet r o ^^^ steps 8 d := by
      have := octet_xor r d o 0
      rwa [octet_zero, UInt8.xor_zero] at this
    rw [h, ih, ← steps_add]
    congr 2; omega
/-- Octet by octet turned. -/
theorem reg_zip : ∀ (a b : List UInt8) (r d : BitVec 32), a.length = b.length → reg (r ^^^ d) (List.zipWith (· ^^^ ·) a b) = reg r a ^^^ reg d b := by
  intro a
  induction a with
  | nil =>
    intro b r d h
    obtain rfl : b = [] := List.eq_nil_of_length_eq_zero h.symm
    rfl
  | cons x a ih =>
    intro b r d h
    cases b with
    | nil => simp at h
    | cons y b =>
      show reg (octet (r ^^^ d) (x ^^^ y)) _ = reg (octet r x) a ^^^ reg (octet d y) b
      rw [octet_xor, ih b _ _ (by simpa using h)]
theorem not_xor (a b : BitVec 32) : ~~~ a ^^^ ~~~ b = a ^^^ b := by
  ext i; simp
theorem zip_zero (l : List UInt8) : List.zipWith (· ^^^ ·) l (List.replicate l.length 0) = l := by
  induction l with
  | nil => rfl
  | cons x l ih => simp [List.replicate_succ, ih]
/-- The sum is linear, but for how many octets there are. -/
theorem crc_linear (a b : List UInt8) (h : a.length = b.length) : crc a ^^^ crc b = crc (List.zipWith (· ^^^ ·) a b) ^^^ crc (List.replicate a.length 0) := by
  unfold crc
  rw [not_xor, not_xor, ← reg_zip a b _ _ h]
  have hl : (List.zipWith (· ^^^ ·) a b).length = a.length := by simp [h]
  rw [← reg_zip _ (List.replicate a.length 0) _ _ (by simp [h])]
  conv => rhs; rw [← hl, zip_zero]

/-- A number's octets, shifted out. -/
theorem step_twice (y : Nat) (h : 2 * y < 2 ^ 32) : step (BitVec.ofNat 32 (2 * y)) = BitVec.ofNat 32 y := by
  have h0 : (BitVec.ofNat 32 (2 * y)).getLsbD 0 = false := by
    rw [BitVec.getLsbD_ofNat, Nat.testBit_zero]; simp
  rw [step_even _ h0]
  apply BitVec.eq_of_toNat_eq
  rw [BitVec.toNat_ushiftRight, BitVec.toNat_ofNat, BitVec.toNat_ofNat, Nat.mod_eq_of_lt h, Nat.mod_eq_of_lt (by omega), Nat.shiftRight_eq_div_pow]
  omega
theorem steps_out : ∀ (j x : Nat), x * 2 ^ j < 2 ^ 32 → steps j (BitVec.ofNat 32 (x * 2 ^ j)) = BitVec.ofNat 32 x := by
  intro j
  induction j with
  | zero => intro x _; simp [steps]
  | succ j ih =>
    intro x h
    have e : x * 2 ^ (j + 1) = 2 * (x * 2 ^ j) := by rw [Nat.pow_succ, ← Nat.mul_assoc, Nat.mul_comm]
    rw [e] at h ⊢
    rw [steps, step_twice _ h]
    exact ih x (by omega)

/-- A bit's part in the register, so many bits ahead of the end. -/
theorem bit_part (j m : Nat) (hj : j < 32) (hm : j ≤ m) : steps m (BitVec.ofNat 32 (2 ^ j)) = steps (m - j) 1#32 := by
  have h := steps_out j 1 (by rw [Nat.one_mul]; exact Nat.pow_lt_pow_right (by decide) hj)
  rw [Nat.one_mul] at h
  obtain ⟨k, rfl⟩ : ∃ k, m = j + k := ⟨m - j, by omega⟩
  rw [steps_add, h, Nat.add_sub_cancel_left]

def turned (l : List UInt8) (b : Nat) : List UInt8 := l.set (b / 8) (l.getD (b / 8) 0 ^^^ UInt8.ofNat (2 ^ (b % 8)))
theorem reg_turned (l : List UInt8) (b : Nat) (r : BitVec 32) (hb : b < 8 * l.length) : reg r (turned l b) = reg r l ^^^ steps (8 * l.length - b) 1#32 := by
  have hq : b / 8 < l.length := by omega
  have hsplit : l = l.take (b / 8) ++ l[b / 8] :: l.drop (b / 8 + 1) := by
    rw [← List.drop_eq_getElem_cons hq, List.take_append_drop]
  have hget : l.getD (b / 8) 0 = l[b / 8] := by simp [List.getD, hq]
  have hset : turned l b = l.take (b / 8) ++ (l[b / 8] ^^^ UInt8.ofNat (2 ^ (b % 8))) :: l.drop (b / 8 + 1) := by
    unfold turned
    rw [hget, List.set_eq_take_append_cons_drop, if_pos hq]
  have hlen : (l.drop (b / 8 + 1)).length = l.length - (b / 8 + 1) := by simp
  rw [hset]
  conv => rhs; rw [hsplit]
  rw [reg_append, reg_append]
  generalize reg r (l.take (b / 8)) = q
  show reg (octet q (l[b / 8] ^^^ UInt8.ofNat (2 ^ (b % 8)))) _ = reg (octet q l[b / 8]) _ ^^^ _
  have h := octet_xor q 0#32 l[b / 8] (UInt8.ofNat (2 ^ (b % 8)))
  rw [BitVec.xor_zero] at h
  rw [h, reg_through, hlen]
  congr 1
  have hm : b % 8 < 8 := Nat.mod_lt _ (by decide)
  have he : (UInt8.ofNat (2 ^ (b % 8))).toNat = 2 ^ (b % 8) := by
    rw [UInt8.toNat_ofNat']
    exact Nat.mod_eq_of_lt (Nat.lt_of_lt_of_le (Nat.pow_lt_pow_right (by decide) hm) (by decide))
  unfold octet
  rw [he, BitVec.zero_xor, ← steps_add, bit_part (b % 8) _ (by omega) (by omega)]
  congr 1
  simp only [List.length_append, List.length_cons, List.length_take, hlen]
  omega

/-! ### Four octets that are a sum -/
theorem four_reg (r : BitVec 32) (x0 x1 x2 x3 : UInt8) : reg r [x0, x1, x2, x3] = steps 32 (r ^^^ BitVec.ofNat 32 (x0.toNat + 256 * x1.toNat + 65536 * x2.toNat + 16777216 * x3.toNat)) := by
  have h0 := x0.toNat_lt
  have h1 := x1.toNat_lt
  have h2 := x2.toNat_lt
  have h3 := x3.toNat_lt
  have hx : BitVec.ofNat 32 (x0.toNat + 256 * x1.toNat + 65536 * x2.toNat + 16777216 * x3.toNat) = BitVec.ofNat 32 x0.toNat ^^^ (BitVec.ofNat 32 (x1.toNat * 2 ^ 8) ^^^ (BitVec.ofNat 32 (x2.toNat * 2 ^ 16) ^^^ BitVec.ofNat 32 (x3.toNat * 2 ^ 24))) := by
    rw [← ofNat_xor, ← ofNat_xor, ← ofNat_xor]
    congr 1
    have join : ∀ (i hi lo : Nat), hi % 2 ^ i = 0 → lo < 2 ^ i → lo ^^^ hi = hi + lo := by
      intro i hi lo e l
      rw [← nat_join i hi lo e l]
      apply Nat.eq_of_testBit_eq
      intro j
      rw [Nat.testBit_xor, Nat.testBit_or]
      by_cases hj : j < i
      · have : hi.testBit j = false := by
          have := Nat.testBit_mod_two_pow hi i j
          rw [e] at this
          simpa [hj] using this.symm
        rw [this]; simp
      · have : lo.testBit j = false := Nat.testBit_lt_two_pow (Nat.lt_of_lt_of_le l (Nat.pow_le_pow_right (by decide) (by omega)))
        rw [this]; simp
    rw [join 24 (x3.toNat * 2 ^ 24) (x2.toNat * 2 ^ 16) (by omega) (by omega), join 16 _ (x1.toNat * 2 ^ 8) (by omega) (by omega), join 8 _ x0.toNat (by omega) (by omega)]
    omega
  rw [hx]
  show octet (octet (octet (octet r x0) x1) x2) x3 = _
  have e1 : steps 8 (BitVec.ofNat 32 (x1.toNat * 2 ^ 8)) = BitVec.ofNat 32 x1.toNat := steps_out 8 _ (by omega)
  have e2 : steps 16 (BitVec.ofNat 32 (x2.toNat * 2 ^ 16)) = BitVec.ofNat 32 x2.toNat := steps_out 16 _ (by omega)
  have e3 : steps 24 (BitVec.ofNat 32 (x3.toNat * 2 ^ 24)) = BitVec.ofNat 32 x3.toNat := steps_out 24 _ (by omega)
  unfold octet
  show _ = steps (8 + (8 + (8 + 8))) _
  rw [steps_add, steps_add, steps_add]
  congr 1
  have e3' : steps 8 (steps 8 (steps 8 (BitVec.ofNat 32 (x3.toNat * 2 ^ 24)))) = BitVec.ofNat 32 x3.toNat := by rw [← e3, ← steps_add, ← steps_add]
  have e2' : steps 8 (steps 8 (BitVec.ofNat 32 (x2.toNat * 2 ^ 16))) = BitVec.ofNat 32 x2.toNat := by rw [← e2, ← steps_add]
  rw [← e3', ← steps_xor]
  congr 1
  rw [← e2', ← steps_xor, ← steps_xor]
  congr 1
  rw [← e1, ← steps_xor, ← steps_xor, ← steps_xor]
  congr 1
  simp only [BitVec.xor_assoc]
/-- The register behind octets and their sum. -/
def done : BitVec 32 := steps 32 0xffffffff#32
theorem sum_is (body : List UInt8) (x0 x1 x2 x3 : UInt8) :
    reg 0xffffffff#32 (body ++ [x0, x1, x2, x3]) = done ↔ BitVec.ofNat 32 (x0.toNat + 256 * x1.toNat + 65536 * x2.toNat + 16777216 * x3.toNat) = crc body := by
  rw [reg_append, four_reg]
  unfold done crc
  generalize reg 0xffffffff#32 body = r
  generalize BitVec.ofNat 32 _ = t
  constructor
  · intro h
    have h := steps_inj 32 h
    have : r ^^^ (r ^^^ t) = r ^^^ 0xffffffff#32 := by rw [h]
    rw [← BitVec.xor_assoc, BitVec.xor_self, BitVec.zero_xor] at this
    rw [this, BitVec.xor_comm]
    exact BitVec.not_def.symm
  · rintro rfl
    congr 1
    rw [show ~~~ r = 0xffffffff#32 ^^^ r from BitVec.not_def, BitVec.xor_comm, BitVec.xor_assoc, BitVec.xor_self, BitVec.xor_zero]
end Go.Proofs.YtlpnhpnigljlnaaDoor.Crc
