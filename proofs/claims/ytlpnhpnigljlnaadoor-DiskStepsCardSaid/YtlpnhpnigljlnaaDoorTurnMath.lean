/-
  Plain mathematics of WireTurns: what a pattern of turned bits does to the register, and when it is found. No program stands here.
-/
import Derived.Test.YtlpnhpnigljlnaaDoorSpoilt
namespace Go.Proofs.YtlpnhpnigljlnaaDoor.Crc

/-- What is turned so far: of the pattern's lowest k bits those that lie ahead of the end. 'len' octets, 'start' the first bit. -/
def part (p k m : Nat) : Nat := p % 2 ^ (min k m)

structure Spoilt (x z : List UInt8) (p start k : Nat) : Prop where
  len : z.length = x.length
  regs : Crc.reg 0xffffffff#32 z = Crc.reg 0xffffffff#32 x ^^^ steps (8 * x.length - start) (BitVec.ofNat 32 (part p k (8 * x.length - start)))
  same : part p k (8 * x.length - start) = 0 → z = x

theorem Spoilt.begin (x : List UInt8) (p start : Nat) : Spoilt x x p start 0 := by
  refine ⟨rfl, ?_, fun _ => rfl⟩
  simp [part, Nat.mod_one, steps_zero]
theorem testBit_mod (p k : Nat) : p / 2 ^ k % 2 = 1 ↔ p.testBit k = true := by
  rw [Nat.testBit_eq_decide_div_mod_eq]; simp
theorem mod_next (p k : Nat) : p % 2 ^ (k + 1) = p % 2 ^ k + p / 2 ^ k % 2 * 2 ^ k := by
  rw [Nat.pow_succ, Nat.mod_mul, Nat.mul_comm (2 ^ k)]
theorem Spoilt.off {x z : List UInt8} {p start k : Nat} (h : Spoilt x z p start k) (hp : p / 2 ^ k % 2 = 0) : Spoilt x z p start (k + 1) := by
  have e : part p (k + 1) (8 * x.length - start) = part p k (8 * x.length - start) := by
    unfold part
    rcases Nat.lt_or_ge k (8 * x.length - start) with hk | hk
    · rw [Nat.min_eq_left (by omega), Nat.min_eq_left (by omega), mod_next, hp]; simp
    · rw [Nat.min_eq_right (by omega), Nat.min_eq_right (by omega)]
  exact ⟨h.len, by rw [e]; exact h.regs, by rw [e]; exact h.same⟩
theorem Spoilt.past {x z : List UInt8} {p start k : Nat} (h : Spoilt x z p start k) (hk : 8 * x.length ≤ start + k) : Spoilt x z p start (k + 1) := by
  have e : part p (k + 1) (8 * x.length - start) = part p k (8 * x.length - start) := by
    unfold part
    rw [Nat.min_eq_right (by omega), Nat.min_eq_right (by omega)]
  exact ⟨h.len, by rw [e]; exact h.regs, by rw [e]; exact h.same⟩
theorem add_bit (k lo : Nat) (h : lo < 2 ^ k) : lo + 2 ^ k = lo ^^^ 2 ^ k := by
  have h1 := nat_join k (2 ^ k) lo (Nat.mod_self _) h
  rw [Nat.add_comm, ← h1]
  apply Nat.eq_of_testBit_eq
  intro j
  rw [Nat.testBit_or, Nat.testBit_xor]
  by_cases hj : j < k
  · have : (2 ^ k).testBit j = false := by rw [Nat.testBit_two_pow]; simp; omega
    rw [this]; simp
  · have : lo.testBit j = false := Nat.testBit_lt_two_pow (Nat.lt_of_lt_of_le h (Nat.pow_le_pow_right (by decide) (by omega)))
    rw [this]; simp
theorem Spoilt.on {x z : List UInt8} {p start k : Nat} (h : Spoilt x z p start k) (hp : p / 2 ^ k % 2 = 1) (hk : start + k < 8 * x.length) (h32 : k < 32) : Spoilt x (turned z (start + k)) p start (k + 1) := by
  have hlo : p % 2 ^ k < 2 ^ k := Nat.mod_lt _ (Nat.pow_pos (by decide))
  have e0 : part p k (8 * x.length - start) = p % 2 ^ k := by unfold part; rw [Nat.min_eq_left (by omega)]
  have e1 : part p (k + 1) (8 * x.length - start) = p % 2 ^ k ^^^ 2 ^ k := by
    unfold part
    rw [Nat.min_eq_left (by omega), mod_next, hp, Nat.one_mul, add_bit k _ hlo]
  refine ⟨by simp [turned, h.len], ?_, fun e => ?_⟩
  · rw [reg_turned z (start + k) _ (by rw [h.len]; exact hk), h.regs, h.len, e0, e1, ofNat_xor, steps_xor, BitVec.xor_assoc]
    congr 2
    rw [bit_part k _ h32 (by omega)]
    congr 1; omega
  · exfalso
    rw [e1, ← add_bit k _ hlo] at e
    have := Nat.pow_pos (n := k) (show 0 < 2 by decide)
    omega
/-- It is found, unless nothing was turned. -/
theorem Spoilt.found {x z : List UInt8} {p start : Nat} (h : Spoilt x z p start 32) (hx : reg 0xffffffff#32 x = done) : reg 0xffffffff#32 z = done ↔ z = x := by
  constructor
  · intro hz
    apply h.same
    have hr := h.regs
    rw [hz, hx] at hr
    have h0 : steps (8 * x.length - start) (BitVec.ofNat 32 (part p 32 (8 * x.length - start))) = 0#32 := by
      have : done ^^^ done = done ^^^ (done ^^^ steps (8 * x.length - start) (BitVec.ofNat 32 (part p 32 (8 * x.length - start)))) := by rw [← hr]
      rw [BitVec.xor_self, ← BitVec.xor_assoc, BitVec.xor_self, BitVec.zero_xor] at this
      exact this.symm
    have h1 := steps_back _ _ h0
    have h2 : part p 32 (8 * x.length - start) < 2 ^ 32 := Nat.lt_of_lt_of_le (Nat.mod_lt _ (Nat.pow_pos (by decide))) (Nat.pow_le_pow_right (by decide) (Nat.min_le_left _ _))
    have h3 := congrArg BitVec.toNat h1
    rw [BitVec.toNat_ofNat, Nat.mod_eq_of_lt h2] at h3
    exact h3
  · rintro rfl; exact hx
end Go.Proofs.YtlpnhpnigljlnaaDoor.Crc
