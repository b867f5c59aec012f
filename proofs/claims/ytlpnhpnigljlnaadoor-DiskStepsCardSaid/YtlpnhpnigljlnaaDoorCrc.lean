/-
  Plain mathematics of the sum: it goes bit by bit, is linear, and undone; four bits at once by a table. No program stands here.
-/
import Derived.Laws.BitsAllLaws
import Derived.Laws.BitsLemmas
namespace Go.Proofs.YtlpnhpnigljlnaaDoor.Crc

/-- One halving of the register. -/
def step (r : BitVec 32) : BitVec 32 := (r >>> 1) ^^^ (if r.getLsbD 0 then 0xedb88320#32 else 0#32)
def steps : Nat → BitVec 32 → BitVec 32
  | 0, r => r
  | n + 1, r => steps n (step r)
/-- An octet into the register. -/
def octet (r : BitVec 32) (o : UInt8) : BitVec 32 := steps 8 (r ^^^ BitVec.ofNat 32 o.toNat)
def reg (r : BitVec 32) (l : List UInt8) : BitVec 32 := l.foldl octet r
/-- The octets' sum. -/
def crc (l : List UInt8) : BitVec 32 := ~~~ reg 0xffffffff#32 l

theorem xor4 (a b c d : BitVec 32) : (a ^^^ b) ^^^ (c ^^^ d) = (a ^^^ c) ^^^ (b ^^^ d) := by
  ext i; simp; cases a[i] <;> cases b[i] <;> cases c[i] <;> cases d[i] <;> rfl
theorem step_xor (a b : BitVec 32) : step (a ^^^ b) = step a ^^^ step b := by
  unfold step
  rw [xor4]
  congr 1
  · ext i; simp
  · rw [BitVec.getLsbD_xor]
    cases a.getLsbD 0 <;> cases b.getLsbD 0 <;> simp
theorem steps_xor (n : Nat) : ∀ a b : BitVec 32, steps n (a ^^^ b) = steps n a ^^^ steps n b := by
  induction n with
  | zero => intro a b; rfl
  | succ n ih => intro a b; rw [steps, step_xor, ih]; rfl
theorem step_zero : step 0#32 = 0#32 := by decide
theorem steps_zero (n : Nat) : steps n 0#32 = 0#32 := by
  induction n with
  | zero => rfl
  | succ n ih => rw [steps, step_zero, ih]
theorem steps_add (n m : Nat) : ∀ a : BitVec 32, steps (n + m) a = steps m (steps n a) := by
  induction n with
  | zero => intro a; simp [steps]
  | succ n ih => intro a; rw [Nat.succ_add, steps, ih]; rfl
/-- Nothing but nought comes to nought. -/
theorem step_back (x : BitVec 32) (h : step x = 0#32) : x = 0#32 := by
  unfold step at h
  have h31 : (x >>> 1 ^^^ (if x.getLsbD 0 then 0xedb88320#32 else 0#32)).getLsbD 31 = false := by rw [h]; rfl
  have h0 : x.getLsbD 0 = false := by
    cases e : x.getLsbD 0 with
    | false => rfl
    | true => rw [e] at h31; simp at h31
  rw [h0] at h
  simp at h
  ext i hi
  rcases Nat.eq_zero_or_pos i with rfl | hp
  · simpa [BitVec.getLsbD_eq_getElem] using h0
  · have := congrArg (fun y => y.getLsbD (i - 1)) h
    simp at this
    rw [show 1 + (i - 1) = i by omega] at this
    simpa [BitVec.getLsbD_eq_getElem, hi] using this
theorem steps_back (n : Nat) : ∀ x : BitVec 32, steps n x = 0#32 → x = 0#32 := by
  induction n with
  | zero => intro x h; exact h
  | succ n ih => intro x h; exact step_back x (ih _ h)
theorem xor_eq_zero {a b : BitVec 32} : a ^^^ b = 0#32 ↔ a = b := by
  constructor
  · intro h
    have : a ^^^ b ^^^ b = 0#32 ^^^ b := by rw [h]
    rwa [BitVec.xor_assoc, BitVec.xor_self, BitVec.xor_zero, BitVec.zero_xor] at this
  · rintro rfl; exact BitVec.xor_self
theorem steps_inj (n : Nat) {a b : BitVec 32} (h : steps n a = steps n b) : a = b := by
  apply xor_eq_zero.1
  apply steps_back n
  rw [steps_xor, h, BitVec.xor_self]

/-- What the four lowest bits come to in four halvings. -/
theorem step_even (x : BitVec 32) (h : x.getLsbD 0 = false) : step x = x >>> 1 := by unfold step; rw [h]; simp
theorem steps_shl (y : BitVec 32) : steps 4 ((y >>> 4) <<< 4) = y >>> 4 := by
  rw [steps, step_even _ (by simp), steps, step_even _ (by simp), ← BitVec.shiftRight_add]
  rw [steps, step_even _ (by simp), ← BitVec.shiftRight_add, steps, step_even _ (by simp), ← BitVec.shiftRight_add, steps]
  ext i hi
  simp
  intro h
  exact BitVec.lt_of_getLsbD h
theorem split4 (q : BitVec 32) : q = ((q >>> 4) <<< 4) ^^^ BitVec.ofNat 32 (q.toNat % 16) := by
  apply BitVec.eq_of_toNat_eq
  have hq := q.isLt
  have h16 : q.toNat % 16 < 2 ^ 4 := by omega
  rw [BitVec.toNat_xor, BitVec.toNat_shiftLeft, BitVec.toNat_ushiftRight, BitVec.toNat_ofNat, Nat.shiftRight_eq_div_pow, Nat.shiftLeft_eq,
    Nat.mod_eq_of_lt (a := q.toNat % 16) (by omega), Nat.mod_eq_of_lt (a := q.toNat / 2 ^ 4 * 2 ^ 4) (by omega)]
  have h := nat_join 4 (q.toNat / 2 ^ 4 * 2 ^ 4) (q.toNat % 16) (Nat.mul_mod_left _ _) h16
  have hx : q.toNat / 2 ^ 4 * 2 ^ 4 ^^^ q.toNat % 16 = q.toNat / 2 ^ 4 * 2 ^ 4 ||| q.toNat % 16 := by
    apply Nat.eq_of_testBit_eq
    intro i
    rw [Nat.testBit_xor, Nat.testBit_or]
    by_cases hi : i < 4
    · have : (q.toNat / 2 ^ 4 * 2 ^ 4).testBit i = false := by rw [Nat.mul_comm, Nat.testBit_two_pow_mul]; simp; omega
      rw [this]; simp
    · have : (q.toNat % 16).testBit i = false := Nat.testBit_lt_two_pow (Nat.lt_of_lt_of_le h16 (Nat.pow_le_pow_right (by decide) (by omega)))
      rw [this]; simp
  rw [hx, h]
  omega
def tabv (i : Nat) : BitVec 32 := steps 4 (BitVec.ofNat 32 i)
theorem steps4 (q : BitVec 32) : steps 4 q = (q >>> 4) ^^^ tabv (q.toNat % 16) := by
  conv => lhs; rw [split4 q]
  rw [steps_xor, steps_shl]; rfl
def tabl : List Int := [0, 498536548, 997073096, 651767980, 1994146192, 1802195444, 1303535960, 1342533948, 3988292384, 4027552580, 3604390888, 3412177804, 2607071920, 2262029012, 2685067896, 3183342108]
theorem tabl_at : ∀ i : Fin 16, tabl.getD i.val 0 = ((tabv i.val).toNat : Int) := by decide

theorem reg_snoc (r : BitVec 32) (l : List UInt8) (o : UInt8) : reg r (l ++ [o]) = octet (reg r l) o := by simp [reg]
theorem reg_append (r : BitVec 32) (l m : List UInt8) : reg r (l ++ m) = reg (reg r l) m := by simp [reg]

theorem u32_xor_bv (a b : BitVec 32) : bits .xor .u32 (a.toNat : Int) (b.toNat : Int) = ((a ^^^ b).toNat : Int) := by
  rw [u32_xor_nat _ _ a.isLt b.isLt, BitVec.toNat_xor]
theorem u32_xor_octet (r : BitVec 32) (o : UInt8) : bits .xor .u32 (r.toNat : Int) ((o.toNat : Int) % 4294967296) = ((r ^^^ BitVec.ofNat 32 o.toNat).toNat : Int) := by
  have ho := o.toNat_lt
  rw [Int.emod_eq_of_lt (by omega) (by omega)]
  rw [u32_xor_nat _ _ r.isLt (by omega), BitVec.toNat_xor, BitVec.toNat_ofNat, Nat.mod_eq_of_lt (by omega)]
theorem u32_and15 (q : BitVec 32) : bits .and .u32 (q.toNat : Int) 15 = ((q.toNat % 16 : Nat) : Int) := by
  have := q.isLt
  rw [u32_and _ _ (by omega) (by omega) (by omega) (by omega)]
  simp only [Int.toNat_natCast]
  rw [show (15 : Int).toNat = 15 from rfl, nat_mask4]
theorem u32_step4 (q : BitVec 32) : bits .xor .u32 ((q.toNat : Int) / 16) ((tabv (q.toNat % 16)).toNat : Int) = ((steps 4 q).toNat : Int) := by
  have hq := q.isLt
  have e : ((q.toNat : Int) / (16 : Int)) = ((q >>> 4).toNat : Int) := by
    rw [BitVec.toNat_ushiftRight, Nat.shiftRight_eq_div_pow]; omega
  rw [e, u32_xor_bv, steps4]
theorem tabl_at' (q : BitVec 32) : tabl.getD (q.toNat % 16) 0 = ((tabv (q.toNat % 16)).toNat : Int) := tabl_at ⟨q.toNat % 16, Nat.mod_lt _ (by decide)⟩
theorem octet_two (r : BitVec 32) (o : UInt8) : octet r o = steps 4 (steps 4 (r ^^^ BitVec.ofNat 32 o.toNat)) := by
  rw [← steps_add]; rfl
theorem reg_take (r : BitVec 32) (s : ByteArray) (k : Nat) (h : k < s.size) : reg r (s.data.toList.take (k + 1)) = octet (reg r (s.data.toList.take k)) s[k] := by
  rw [List.take_succ_eq_append_getElem (by simpa using h), reg_snoc]; rfl
/-- '^r' of a register. -/
theorem not_nat (r : BitVec 32) : (4294967295 : Int) - (r.toNat : Int) = ((~~~ r).toNat : Int) := by
  have := r.isLt
  rw [BitVec.toNat_not]; omega

theorem u32_not (r : BitVec 32) : bits .xor .u32 IntKind.u32.max (r.toNat : Int) = ((~~~ r).toNat : Int) := by
  have h := u32_xor_bv 0xffffffff#32 r
  rw [show (0xffffffff#32 ^^^ r) = ~~~ r from BitVec.not_def.symm] at h
  exact h
theorem step_odd (c : BitVec 32) (h : c.toNat % 2 = 1) : bits .xor .u32 ((c.toNat : Int) / 2) 3988292384 = ((step c).toNat : Int) := by
  have e : ((c.toNat : Int) / (2 : Int)) = ((c >>> 1).toNat : Int) := by
    rw [BitVec.toNat_ushiftRight, Nat.shiftRight_eq_div_pow]; omega
  have hl : c.getLsbD 0 = true := by rw [BitVec.getLsbD, Nat.testBit_zero]; simpa using h
  rw [e, show (3988292384 : Int) = ((0xedb88320#32).toNat : Int) from rfl, u32_xor_bv, step, hl]
  rfl
theorem step_half (c : BitVec 32) (h : c.toNat % 2 = 0) : (c.toNat : Int) / 2 = ((step c).toNat : Int) := by
  have hl : c.getLsbD 0 = false := by rw [BitVec.getLsbD, Nat.testBit_zero]; simpa using h
  rw [step, hl]
  simp [Nat.shiftRight_eq_div_pow]
theorem steps_snoc (n : Nat) : ∀ c : BitVec 32, steps (n + 1) c = step (steps n c) := by
  intro c; rw [steps_add]; rfl

end Go.Proofs.YtlpnhpnigljlnaaDoor.Crc
