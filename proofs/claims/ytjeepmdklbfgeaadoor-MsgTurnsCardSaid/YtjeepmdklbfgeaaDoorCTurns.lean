/-
  MsgTurns: what is spoilt is no message: the law returns true for every input.
-/
import Derived.Test.YtjeepmdklbfgeaaDoorVar
import Derived.Deep.MidRow
import Derived.Test.YtjeepmdklbfgeaaDoorRsameMA
import Derived.Test.YtjeepmdklbfgeaaDoorRsameMB
import Derived.Test.YtjeepmdklbfgeaaDoorRsameMC
import Derived.Test.YtjeepmdklbfgeaaDoorRsameMD
import Derived.Test.YtjeepmdklbfgeaaDoorRsameME
import Derived.Test.YtjeepmdklbfgeaaDoorFewA
import Derived.Test.YtjeepmdklbfgeaaDoorFewB
import Derived.Test.YtjeepmdklbfgeaaDoorFewC
import Derived.Test.YtjeepmdklbfgeaaDoorFewD
import Derived.Test.YtjeepmdklbfgeaaDoorRead
import Derived.Test.YtjeepmdklbfgeaaDoorReadMath
import Derived.Test.YtjeepmdklbfgeaaDoorWCrc
import Derived.Test.YtjeepmdklbfgeaaDoorRows
import Derived.WalkKit
import Derived.WalkLawsBesides
import Derived.Lib.Hide
import Derived.Laws.IdiomStrings
import Derived.RegionTactic
import Derived.Test.YtjeepmdklbfgeaaDoorMLaw
import Derived.Deep.CutBlock
import Derived.Test.YtjeepmdklbfgeaaDoorCards
import Derived.Test.YtjeepmdklbfgeaaDoorTie
namespace Go.Proofs.YtjeepmdklbfgeaaDoor
open Go.Sort Go.RowKit Go.Proofs.YtjeepmdklbfgeaaDoor.Pure

theorem row_range {w : World} {b : Nat} {cs : List Value} (h : Row w b cs) : w.rangeAt b 0 cs := fun j v hv => by
  rw [Nat.zero_add]
  exact h.at_ j v hv
theorem load_row {w : World} {b : Nat} {cs : List Value} (h : Row w b cs) (hl : cs.length = 15) : (Instr.loadAt 28 (.pointer (some ⟨b, 0, none⟩))).run Tryd.prog w = .ok (.agg cs.toArray) w :=
  run_loadAt_mid w b 0 28 cs _ (row_range h) Tryd.underlying28 rfl (by rw [hl]; kernel_rfl)
theorem row_regrown {w : World} {b : Nat} {cs : List Value} (h : Row w b cs) (hc : 0 < cs.length) (d : Nat) (os : Array Obj) : Row (grow (redrawn w d) os) b cs := h.on (below_regrown w d os) hc
theorem load_regrown {w : World} {b : Nat} {x0 x1 x2 x3 x4 x5 x6 x7 x8 x9 x10 x11 x12 x13 x14 : Value} (h : Row w b [x0, x1, x2, x3, x4, x5, x6, x7, x8, x9, x10, x11, x12, x13, x14]) (d : Nat) (os : Array Obj) :
    (Instr.loadAt 28 (.pointer (some ⟨b, 0, none⟩))).run Tryd.prog (grow (redrawn w d) os) = .ok (.agg #[x0, x1, x2, x3, x4, x5, x6, x7, x8, x9, x10, x11, x12, x13, x14]) (grow (redrawn w d) os) :=
  load_row (row_regrown h (by simp) d os) rfl
end Go.Proofs.YtjeepmdklbfgeaaDoor

namespace Go.Proofs.YtjeepmdklbfgeaaDoor
open Go.Sort Go.RowKit Go.Proofs.YtjeepmdklbfgeaaDoor.Pure Go.Proofs.YtjeepmdklbfgeaaDoor.W Go.Proofs.YtjeepmdklbfgeaaDoor.W.Pure

theorem rsame_msg (a b : Mg) (u v : Value) (w : World) (h : MsgV w u a) (h' : MsgV w v b) : Calls Tryd.prog 14 #[u, v] w fun e w' => e = .returned (.bool (decide (a = b))) ∧ Below w.heap.size w w' := by
  by_cases h0 : a.kd = b.kd
  rotate_left
  · rw [show decide (a = b) = false from decide_eq_false (fun e => h0 (by rw [e]))]
    exact rsame_msg_0 a b u v w h h'  h0
  by_cases h1 : a.fr = b.fr
  rotate_left
  · rw [show decide (a = b) = false from decide_eq_false (fun e => h1 (by rw [e]))]
    exact rsame_msg_1 a b u v w h h' h0 h1
  by_cases h2 : a.to = b.to
  rotate_left
  · rw [show decide (a = b) = false from decide_eq_false (fun e => h2 (by rw [e]))]
    exact rsame_msg_2 a b u v w h h' h0 h1 h2
  by_cases h3 : a.sq = b.sq
  rotate_left
  · rw [show decide (a = b) = false from decide_eq_false (fun e => h3 (by rw [e]))]
    exact rsame_msg_3 a b u v w h h' h0 h1 h2 h3
  by_cases h4 : a.wh = b.wh
  rotate_left
  · rw [show decide (a = b) = false from decide_eq_false (fun e => h4 (by rw [e]))]
    exact rsame_msg_4 a b u v w h h' h0 h1 h2 h3 h4
  by_cases h5 : a.k = b.k
  rotate_left
  · rw [show decide (a = b) = false from decide_eq_false (fun e => h5 (by rw [e]))]
    exact rsame_msg_5 a b u v w h h' h0 h1 h2 h3 h4 h5
  by_cases h6 : a.ns = b.ns
  rotate_left
  · rw [show decide (a = b) = false from decide_eq_false (fun e => h6 (by rw [e]))]
    exact rsame_msg_6 a b u v w h h' h0 h1 h2 h3 h4 h5 h6
  by_cases h7 : a.tb = b.tb
  rotate_left
  · rw [show decide (a = b) = false from decide_eq_false (fun e => h7 (by rw [e]))]
    exact rsame_msg_7 a b u v w h h' h0 h1 h2 h3 h4 h5 h6 h7
  by_cases h8 : a.ep = b.ep
  rotate_left
  · rw [show decide (a = b) = false from decide_eq_false (fun e => h8 (by rw [e]))]
    exact rsame_msg_8 a b u v w h h' h0 h1 h2 h3 h4 h5 h6 h7 h8
  by_cases h9 : a.bo = b.bo
  rotate_left
  · rw [show decide (a = b) = false from decide_eq_false (fun e => h9 (by rw [e]))]
    exact rsame_msg_9 a b u v w h h' h0 h1 h2 h3 h4 h5 h6 h7 h8 h9
  by_cases h10 : a.ak = b.ak
  rotate_left
  · rw [show decide (a = b) = false from decide_eq_false (fun e => h10 (by rw [e]))]
    exact rsame_msg_10 a b u v w h h' h0 h1 h2 h3 h4 h5 h6 h7 h8 h9 h10
  by_cases h11 : a.ts = b.ts
  rotate_left
  · rw [show decide (a = b) = false from decide_eq_false (fun e => h11 (by rw [e]))]
    exact rsame_msg_11 a b u v w h h' h0 h1 h2 h3 h4 h5 h6 h7 h8 h9 h10 h11
  by_cases h12 : a.tn = b.tn
  rotate_left
  · rw [show decide (a = b) = false from decide_eq_false (fun e => h12 (by rw [e]))]
    exact rsame_msg_12 a b u v w h h' h0 h1 h2 h3 h4 h5 h6 h7 h8 h9 h10 h11 h12
  by_cases h13 : a.gd = b.gd
  rotate_left
  · rw [show decide (a = b) = false from decide_eq_false (fun e => h13 (by rw [e]))]
    exact rsame_msg_13 a b u v w h h' h0 h1 h2 h3 h4 h5 h6 h7 h8 h9 h10 h11 h12 h13
  rw [show decide (a = b) = true from decide_eq_true (by cases a; cases b; simp only at *; subst h0 h1 h2 h3 h4 h5 h6 h7 h8 h9 h10 h11 h12 h13; rfl)]
  exact rsame_msg_14 a b u v w h h' h0 h1 h2 h3 h4 h5 h6 h7 h8 h9 h10 h11 h12 h13
end Go.Proofs.YtjeepmdklbfgeaaDoor

namespace Go.Proofs.YtjeepmdklbfgeaaDoor
open Go.Sort Go.RowKit Go.Proofs.YtjeepmdklbfgeaaDoor.Pure Go.Proofs.YtjeepmdklbfgeaaDoor.W Go.Proofs.YtjeepmdklbfgeaaDoor.W.Pure

theorem few_val (m : Mg) (A : Option Addr) (cA : Nat) (T : Option Addr) (cT : Nat) (w : World) (h : Lists w m A cA T cT) : Calls Tryd.prog 9 #[mvv m (.slice A m.ns.length cA) (.slice T m.tb.length cT)] w fun e w' => e = .returned (fewV m A cA T cT) ∧ Below w.heap.size w w' := by
  by_cases h1 : 9 < m.ns.length <;> by_cases h2 : 65 < m.tb.length <;> by_cases h3 : 21 < m.ts.size
  · exact few_111 m A cA T cT w h h1 h2 h3
  · exact few_110 m A cA T cT w h h1 h2 h3
  · exact few_101 m A cA T cT w h h1 h2 h3
  · exact few_100 m A cA T cT w h h1 h2 h3
  · exact few_011 m A cA T cT w h h1 h2 h3
  · exact few_010 m A cA T cT w h h1 h2 h3
  · exact few_001 m A cA T cT w h h1 h2 h3
  · exact few_000 m A cA T cT w h h1 h2 h3
theorem Lists.on {w w' : World} {m : Mg} {A T : Option Addr} {cA cT : Nat} (h : Lists w m A cA T cT) (hb : Below w.heap.size w w') : Lists w' m A cA T cT := ⟨h.1.on hb, h.2.1.on hb, h.2.2⟩
/-- What is left of a message that came in, as a value, in whatever world behind. -/
theorem Lists.few {w w' : World} {m : Mg} {A T : Option Addr} {cA cT : Nat} (h : Lists w m A cA T cT) (hb : Below w.heap.size w w') : MsgV w' (fewV m A cA T cT) (fewM m) :=
  ⟨A, cA, T, cT, rfl, (h.1.take 9).on hb, (h.2.1.take 65).on hb, by show (m.ns.take 9).length ≤ _; rw [List.length_take]; omega, by show (m.tb.take 65).length ≤ _; rw [List.length_take]; omega, by show (fewT m.ts).size ≤ _; have := fewT_size m.ts; omega⟩
end Go.Proofs.YtjeepmdklbfgeaaDoor

namespace Go.Proofs.YtjeepmdklbfgeaaDoor
open Go.Sort Go.RowKit Go.Proofs.YtjeepmdklbfgeaaDoor.Pure Go.Proofs.YtjeepmdklbfgeaaDoor.W Go.Proofs.YtjeepmdklbfgeaaDoor.W.Pure

theorem read_any (s : ByteArray) (w : World) (hs : s.size ≤ 140737488351232) (ht : Tab w) : Calls Tryd.prog 18 #[.string s] w (ReadV w (readM s)) := by
  unfold readM
  by_cases h1 : s.size < 4
  · rw [if_pos h1]
    exact read_err s ⟨#[]⟩ 3 w (by decide) ht (fun W _ => (open_short s W h1).mono (fun e w' h => ⟨h.1, h.2 ▸ Below.refl _ _⟩))
  rw [if_neg h1]
  by_cases h2 : 4100 < s.size
  · rw [if_pos h2]
    exact read_err s ⟨#[]⟩ 4 w (by decide) ht (fun W _ => (open_large s W hs h2).mono (fun e w' h => ⟨h.1, h.2 ▸ Below.refl _ _⟩))
  rw [if_neg h2]
  by_cases h3 : Opens s
  · rw [if_neg (fun h => h h3)]
    exact read_got s (inner s) w (by unfold inner; rw [ByteArray.size_extract]; omega) ht (fun W h => open_yes s W (by omega) (by omega) h h3)
  · rw [if_pos h3]
    exact read_err s ⟨#[]⟩ 10 w (by decide) ht (fun W h => open_no s W (by omega) (by omega) h h3)
end Go.Proofs.YtjeepmdklbfgeaaDoor

namespace Go.Proofs.YtjeepmdklbfgeaaDoor.Crc

theorem ofNat_xor (x y : Nat) : BitVec.ofNat 32 (x ^^^ y) = BitVec.ofNat 32 x ^^^ BitVec.ofNat 32 y := by
  apply BitVec.eq_of_toNat_eq
  rw [BitVec.toNat_xor, BitVec.toNat_ofNat, BitVec.toNat_ofNat, BitVec.toNat_ofNat, Nat.xor_mod_two_pow]
theorem octet_xor (r d : BitVec 32) (o e : UInt8) : octet (r ^^^ d) (o ^^^ e) = octet r o ^^^ octet d e := by
  unfold octet
  rw [UInt8.toNat_xor, ofNat_xor, xor4, steps_xor]
theorem octet_zero (d : BitVec 32) : octet d 0 = steps 8 d := by unfold octet; simp
/-- What is turned in the register ahead goes through what follows by itself. -/
theorem reg_through : ∀ (l : List UInt8) (r d : BitVec 32), reg (r ^^^ d) l = reg r l ^^^ steps (8 * l.length) d := by
  intro l
  induction l with
  | nil => intro r d; rfl
  | cons o l ih =>
    intro r d
    show reg (octet (r ^^^ d) o) l = reg (octet r o) l ^^^ steps (8 * (l.length + 1)) d
    have h : octet (r ^^^ d) o = octet r o ^^^ steps 8 d := by
      have := octet_xor r d o 0
      rwa [octet_zero, UInt8.xor_zero] at this
    rw [h, ih, ← steps_add]
    congr 2; omega
/-- Octet by octet turned. -/
theorem reg_zip : ∀ (a b : List UInt8) (r d : BitVec 32), a.length = b.length → reg (r ^^^ d) (List.zipWith (· ^^^ ·) a b) = reg r a ^^^ reg d b := by
  intro a
  induction a with
  | nil =>
    intro b r d h
    obtain rfl : b = [] := List.eq_nil_of_length_eq_zero h.symm
    rfl
  | cons x a ih =>
    intro b r d h
    cases b with
    | nil => simp at h
    | cons y b =>
      show reg (octet (r ^^^ d) (x ^^^ y)) _ = reg (octet r x) a ^^^ reg (octet d y) b
      rw [octet_xor, ih b _ _ (by simpa using h)]
theorem not_xor (a b : BitVec 32) : ~~~ a ^^^ ~~~ b = a ^^^ b := by
  ext i; simp
theorem zip_zero (l : List UInt8) : List.zipWith (· ^^^ ·) l (List.replicate l.length 0) = l := by
  induction l with
  | nil => rfl
  | cons x l ih => simp [List.replicate_succ, ih]
/-- The sum is linear, but for how many octets there are. -/
theorem crc_linear (a b : List UInt8) (h : a.length = b.length) : crc a ^^^ crc b = crc (List.zipWith (· ^^^ ·) a b) ^^^ crc (List.replicate a.length 0) := by
  unfold crc
  rw [not_xor, not_xor, ← reg_zip a b _ _ h]
  have hl : (List.zipWith (· ^^^ ·) a b).length = a.length := by simp [h]
  rw [← reg_zip _ (List.replicate a.length 0) _ _ (by simp [h])]
  conv => rhs; rw [← hl, zip_zero]

/-- A number's octets, shifted out. -/
theorem step_twice (y : Nat) (h : 2 * y < 2 ^ 32) : step (BitVec.ofNat 32 (2 * y)) = BitVec.ofNat 32 y := by
  have h0 : (BitVec.ofNat 32 (2 * y)).getLsbD 0 = false := by
    rw [BitVec.getLsbD_ofNat, Nat.testBit_zero]; simp
  rw [step_even _ h0]
  apply BitVec.eq_of_toNat_eq
  rw [BitVec.toNat_ushiftRight, BitVec.toNat_ofNat, BitVec.toNat_ofNat, Nat.mod_eq_of_lt h, Nat.mod_eq_of_lt (by omega), Nat.shiftRight_eq_div_pow]
  omega
theorem steps_out : ∀ (j x : Nat), x * 2 ^ j < 2 ^ 32 → steps j (BitVec.ofNat 32 (x * 2 ^ j)) = BitVec.ofNat 32 x := by
  intro j
  induction j with
  | zero => intro x _; simp [steps]
  | succ j ih =>
    intro x h
    have e : x * 2 ^ (j + 1) = 2 * (x * 2 ^ j) := by rw [Nat.pow_succ, ← Nat.mul_assoc, Nat.mul_comm]
    rw [e] at h ⊢
    rw [steps, step_twice _ h]
    exact ih x (by omega)

/-- A bit's part in the register, so many bits ahead of the end. -/
theorem bit_part (j m : Nat) (hj : j < 32) (hm : j ≤ m) : steps m (BitVec.ofNat 32 (2 ^ j)) = steps (m - j) 1#32 := by
  have h := steps_out j 1 (by rw [Nat.one_mul]; exact Nat.pow_lt_pow_right (by decide) hj)
  rw [Nat.one_mul] at h
  obtain ⟨k, rfl⟩ : ∃ k, m = j + k := ⟨m - j, by omega⟩
  rw [steps_add, h, Nat.add_sub_cancel_left]

def turned (l : List UInt8) (b : Nat) : List UInt8 := l.set (b / 8) (l.getD (b / 8) 0 ^^^ UInt8.ofNat (2 ^ (b % 8)))
theorem reg_turned (l : List UInt8) (b : Nat) (r : BitVec 32) (hb : b < 8 * l.length) : reg r (turned l b) = reg r l ^^^ steps (8 * l.length - b) 1#32 := by
  have hq : b / 8 < l.length := by omega
  have hsplit : l = l.take (b / 8) ++ l[b / 8] :: l.drop (b / 8 + 1) := by
    rw [← List.drop_eq_getElem_cons hq, List.take_append_drop]
  have hget : l.getD (b / 8) 0 = l[b / 8] := by simp [List.getD, hq]
  have hset : turned l b = l.take (b / 8) ++ (l[b / 8] ^^^ UInt8.ofNat (2 ^ (b % 8))) :: l.drop (b / 8 + 1) := by
    unfold turned
    rw [hget, List.set_eq_take_append_cons_drop, if_pos hq]
  have hlen : (l.drop (b / 8 + 1)).length = l.length - (b / 8 + 1) := by simp
  rw [hset]
  conv => rhs; rw [hsplit]
  rw [reg_append, reg_append]
  generalize reg r (l.take (b / 8)) = q
  show reg (octet q (l[b / 8] ^^^ UInt8.ofNat (2 ^ (b % 8)))) _ = reg (octet q l[b / 8]) _ ^^^ _
  have h := octet_xor q 0#32 l[b / 8] (UInt8.ofNat (2 ^ (b % 8)))
  rw [BitVec.xor_zero] at h
  rw [h, reg_through, hlen]
  congr 1
  have hm : b % 8 < 8 := Nat.mod_lt _ (by decide)
  have he : (UInt8.ofNat (2 ^ (b % 8))).toNat = 2 ^ (b % 8) := by
    rw [UInt8.toNat_ofNat']
    exact Nat.mod_eq_of_lt (Nat.lt_of_lt_of_le (Nat.pow_lt_pow_right (by decide) hm) (by decide))
  unfold octet
  rw [he, BitVec.zero_xor, ← steps_add, bit_part (b % 8) _ (by omega) (by omega)]
  congr 1
  simp only [List.length_append, List.length_cons, List.length_take, hlen]
  omega

/-! ### Four octets that are a sum -/
theorem four_reg (r : BitVec 32) (x0 x1 x2 x3 : UInt8) : reg r [x0, x1, x2, x3] = steps 32 (r ^^^ BitVec.ofNat 32 (x0.toNat + 256 * x1.toNat + 65536 * x2.toNat + 16777216 * x3.toNat)) := by
  have h0 := x0.toNat_lt
  have h1 := x1.toNat_lt
  have h2 := x2.toNat_lt
  have h3 := x3.toNat_lt
  have hx : BitVec.ofNat 32 (x0.toNat + 256 * x1.toNat + 65536 * x2.toNat + 16777216 * x3.toNat) = BitVec.ofNat 32 x0.toNat ^^^ (BitVec.ofNat 32 (x1.toNat * 2 ^ 8) ^^^ (BitVec.ofNat 32 (x2.toNat * 2 ^ 16) ^^^ BitVec.ofNat 32 (x3.toNat * 2 ^ 24))) := by
    rw [← ofNat_xor, ← ofNat_xor, ← ofNat_xor]
    congr 1
    have join : ∀ (i hi lo : Nat), hi % 2 ^ i = 0 → lo < 2 ^ i → lo ^^^ hi = hi + lo := by
      intro i hi lo e l
      rw [← nat_join i hi lo e l]
      apply Nat.eq_of_testBit_eq
      intro j
      rw [Nat.testBit_xor, Nat.testBit_or]
      by_cases hj : j < i
      · have : hi.testBit j = false := by
          have := Nat.testBit_mod_two_pow hi i j
          rw [e] at this
          simpa [hj] using this.symm
        rw [this]; simp
      · have : lo.testBit j = false := Nat.testBit_lt_two_pow (Nat.lt_of_lt_of_le l (Nat.pow_le_pow_right (by decide) (by omega)))
        rw [this]; simp
    rw [join 24 (x3.toNat * 2 ^ 24) (x2.toNat * 2 ^ 16) (by omega) (by omega), join 16 _ (x1.toNat * 2 ^ 8) (by omega) (by omega), join 8 _ x0.toNat (by omega) (by omega)]
    omega
  rw [hx]
  show octet (octet (octet (octet r x0) x1) x2) x3 = _
  have e1 : steps 8 (BitVec.ofNat 32 (x1.toNat * 2 ^ 8)) = BitVec.ofNat 32 x1.toNat := steps_out 8 _ (by omega)
  have e2 : steps 16 (BitVec.ofNat 32 (x2.toNat * 2 ^ 16)) = BitVec.ofNat 32 x2.toNat := steps_out 16 _ (by omega)
  have e3 : steps 24 (BitVec.ofNat 32 (x3.toNat * 2 ^ 24)) = BitVec.ofNat 32 x3.toNat := steps_out 24 _ (by omega)
  unfold octet
  show _ = steps (8 + (8 + (8 + 8))) _
  rw [steps_add, steps_add, steps_add]
  congr 1
  have e3' : steps 8 (steps 8 (steps 8 (BitVec.ofNat 32 (x3.toNat * 2 ^ 24)))) = BitVec.ofNat 32 x3.toNat := by rw [← e3, ← steps_add, ← steps_add]
  have e2' : steps 8 (steps 8 (BitVec.ofNat 32 (x2.toNat * 2 ^ 16))) = BitVec.ofNat 32 x2.toNat := by rw [← e2, ← steps_add]
  rw [← e3', ← steps_xor]
  congr 1
  rw [← e2', ← steps_xor, ← steps_xor]
  congr 1
  rw [← e1, ← steps_xor, ← steps_xor, ← steps_xor]
  congr 1
  simp only [BitVec.xor_assoc]
/-- The register behind octets and their sum. -/
def done : BitVec 32 := steps 32 0xffffffff#32
theorem sum_is (body : List UInt8) (x0 x1 x2 x3 : UInt8) :
    reg 0xffffffff#32 (body ++ [x0, x1, x2, x3]) = done ↔ BitVec.ofNat 32 (x0.toNat + 256 * x1.toNat + 65536 * x2.toNat + 16777216 * x3.toNat) = crc body := by
  rw [reg_append, four_reg]
  unfold done crc
  generalize reg 0xffffffff#32 body = r
  generalize BitVec.ofNat 32 _ = t
  constructor
  · intro h
    have h := steps_inj 32 h
    have : r ^^^ (r ^^^ t) = r ^^^ 0xffffffff#32 := by rw [h]
    rw [← BitVec.xor_assoc, BitVec.xor_self, BitVec.zero_xor] at this
    rw [this, BitVec.xor_comm]
    exact BitVec.not_def.symm
  · rintro rfl
    congr 1
    rw [show ~~~ r = 0xffffffff#32 ^^^ r from BitVec.not_def, BitVec.xor_comm, BitVec.xor_assoc, BitVec.xor_self, BitVec.xor_zero]
end Go.Proofs.YtjeepmdklbfgeaaDoor.Crc

namespace Go.Proofs.YtjeepmdklbfgeaaDoor.Crc

/-- What is turned so far: of the pattern's lowest k bits those that lie ahead of the end. 'len' octets, 'start' the first bit. -/
def part (p k m : Nat) : Nat := p % 2 ^ (min k m)

structure Spoilt (x z : List UInt8) (p start k : Nat) : Prop where
  len : z.length = x.length
  regs : Crc.reg 0xffffffff#32 z = Crc.reg 0xffffffff#32 x ^^^ steps (8 * x.length - start) (BitVec.ofNat 32 (part p k (8 * x.length - start)))
  same : part p k (8 * x.length - start) = 0 → z = x

theorem Spoilt.begin (x : List UInt8) (p start : Nat) : Spoilt x x p start 0 := by
  refine ⟨rfl, ?_, fun _ => rfl⟩
  simp [part, Nat.mod_one, steps_zero]
theorem testBit_mod (p k : Nat) : p / 2 ^ k % 2 = 1 ↔ p.testBit k = true := by
  rw [Nat.testBit_eq_decide_div_mod_eq]; simp
theorem mod_next (p k : Nat) : p % 2 ^ (k + 1) = p % 2 ^ k + p / 2 ^ k % 2 * 2 ^ k := by
  rw [Nat.pow_succ, Nat.mod_mul, Nat.mul_comm (2 ^ k)]
theorem Spoilt.off {x z : List UInt8} {p start k : Nat} (h : Spoilt x z p start k) (hp : p / 2 ^ k % 2 = 0) : Spoilt x z p start (k + 1) := by
  have e : part p (k + 1) (8 * x.length - start) = part p k (8 * x.length - start) := by
    unfold part
    rcases Nat.lt_or_ge k (8 * x.length - start) with hk | hk
    · rw [Nat.min_eq_left (by omega), Nat.min_eq_left (by omega), mod_next, hp]; simp
    · rw [Nat.min_eq_right (by omega), Nat.min_eq_right (by omega)]
  exact ⟨h.len, by rw [e]; exact h.regs, by rw [e]; exact h.same⟩
theorem Spoilt.past {x z : List UInt8} {p start k : Nat} (h : Spoilt x z p start k) (hk : 8 * x.length ≤ start + k) : Spoilt x z p start (k + 1) := by
  have e : part p (k + 1) (8 * x.length - start) = part p k (8 * x.length - start) := by
    unfold part
    rw [Nat.min_eq_right (by omega), Nat.min_eq_right (by omega)]
  exact ⟨h.len, by rw [e]; exact h.regs, by rw [e]; exact h.same⟩
theorem add_bit (k lo : Nat) (h : lo < 2 ^ k) : lo + 2 ^ k = lo ^^^ 2 ^ k := by
  have h1 := nat_join k (2 ^ k) lo (Nat.mod_self _) h
  rw [Nat.add_comm, ← h1]
  apply Nat.eq_of_testBit_eq
  intro j
  rw [Nat.testBit_or, Nat.testBit_xor]
  by_cases hj : j < k
  · have : (2 ^ k).testBit j = false := by rw [Nat.testBit_two_pow]; simp; omega
    rw [this]; simp
  · have : lo.testBit j = false := Nat.testBit_lt_two_pow (Nat.lt_of_lt_of_le h (Nat.pow_le_pow_right (by decide) (by omega)))
    rw [this]; simp
theorem Spoilt.on {x z : List UInt8} {p start k : Nat} (h : Spoilt x z p start k) (hp : p / 2 ^ k % 2 = 1) (hk : start + k < 8 * x.length) (h32 : k < 32) : Spoilt x (turned z (start + k)) p start (k + 1) := by
  have hlo : p % 2 ^ k < 2 ^ k := Nat.mod_lt _ (Nat.pow_pos (by decide))
  have e0 : part p k (8 * x.length - start) = p % 2 ^ k := by unfold part; rw [Nat.min_eq_left (by omega)]
  have e1 : part p (k + 1) (8 * x.length - start) = p % 2 ^ k ^^^ 2 ^ k := by
    unfold part
    rw [Nat.min_eq_left (by omega), mod_next, hp, Nat.one_mul, add_bit k _ hlo]
  refine ⟨by simp [turned, h.len], ?_, fun e => ?_⟩
  · rw [reg_turned z (start + k) _ (by rw [h.len]; exact hk), h.regs, h.len, e0, e1, ofNat_xor, steps_xor, BitVec.xor_assoc]
    congr 2
    rw [bit_part k _ h32 (by omega)]
    congr 1; omega
  · exfalso
    rw [e1, ← add_bit k _ hlo] at e
    have := Nat.pow_pos (n := k) (show 0 < 2 by decide)
    omega
/-- It is found, unless nothing was turned. -/
theorem Spoilt.found {x z : List UInt8} {p start : Nat} (h : Spoilt x z p start 32) (hx : reg 0xffffffff#32 x = done) : reg 0xffffffff#32 z = done ↔ z = x := by
  constructor
  · intro hz
    apply h.same
    have hr := h.regs
    rw [hz, hx] at hr
    have h0 : steps (8 * x.length - start) (BitVec.ofNat 32 (part p 32 (8 * x.length - start))) = 0#32 := by
      have : done ^^^ done = done ^^^ (done ^^^ steps (8 * x.length - start) (BitVec.ofNat 32 (part p 32 (8 * x.length - start)))) := by rw [← hr]
      rw [BitVec.xor_self, ← BitVec.xor_assoc, BitVec.xor_self, BitVec.zero_xor] at this
      exact this.symm
    have h1 := steps_back _ _ h0
    have h2 : part p 32 (8 * x.length - start) < 2 ^ 32 := Nat.lt_of_lt_of_le (Nat.mod_lt _ (Nat.pow_pos (by decide))) (Nat.pow_le_pow_right (by decide) (Nat.min_le_left _ _))
    have h3 := congrArg BitVec.toNat h1
    rw [BitVec.toNat_ofNat, Nat.mod_eq_of_lt h2] at h3
    exact h3
  · rintro rfl; exact hx
end Go.Proofs.YtjeepmdklbfgeaaDoor.Crc

namespace Go.Proofs.YtjeepmdklbfgeaaDoor.W
open Go.RowKit

/-- Octets with a bit turned. -/
def turnL (l : List UInt8) (b : Nat) : List UInt8 := l.set (b / 8) (l.getD (b / 8) 0 ^^^ UInt8.ofNat (2 ^ (b % 8)))

theorem turn_len (l : List UInt8) (b : Nat) : (turnL l b).length = l.length := by simp [turnL]
theorem octet_turn (o : UInt8) (k : Nat) (h : k < 8) : bits .xor .u8 (o.toNat : Int) (2 ^ k % 256) = ((o ^^^ UInt8.ofNat (2 ^ k)).toNat : Int) := by
  have ho := o.toNat_lt
  have hk : (2 : Nat) ^ k < 256 := Nat.lt_of_lt_of_le (Nat.pow_lt_pow_right (by decide) h) (by decide)
  have e : ((2 : Int) ^ k % 256) = ((2 ^ k : Nat) : Int) := by
    have h2 : ((2 ^ k : Nat) : Int) % 256 = ((2 ^ k % 256 : Nat) : Int) := by simp
    rw [Nat.mod_eq_of_lt hk] at h2
    rw [← h2]; simp
  rw [e, u8_xor_nat _ _ (by omega) hk, UInt8.toNat_xor, UInt8.toNat_ofNat', Nat.mod_eq_of_lt (b := 2 ^ 8) (by omega)]
theorem turn_at (s : ByteArray) (b j : Nat) (h : j < s.size) (h' : j < (turnL s.data.toList b).length) : (turnL s.data.toList b)[j] = if j = b / 8 then s[j] ^^^ UInt8.ofNat (2 ^ (b % 8)) else s[j] := by
  simp only [turnL, List.getElem_set]
  split
  · rename_i e
    have hl : b / 8 < s.data.toList.length := by rw [e]; simpa using h
    rw [if_pos e.symm, List.getD_eq_getElem?_getD, List.getElem?_eq_getElem hl]
    subst e
    rfl
  · rename_i e
    rw [if_neg (fun h => e h.symm)]
    rfl
theorem turn_text {P : Program} (W1 : World) (g b cap : Nat) (s : ByteArray) (hlt : b / 8 < s.size) (hc : ∀ j (h : j < s.size), W1.cell? ⟨g, j, none⟩ = some (.int .u8 (s[j].toNat : Int)))
    (hcell : W1.cell? ⟨g, b / 8, none⟩ = some (.int .u8 (s[b / 8].toNat : Int))) (src dst : TypeId) (hs : P.underlying src = some (.slice 5)) (he : P.underlying 5 = some (.int .u8)) (hd : P.underlying dst = some .string) :
    (convert src dst (.slice (some ⟨g, 0, none⟩) s.size cap)).run P (W1.setCell ⟨g, b / 8, none⟩ (.int .u8 (bits .xor .u8 (s[b / 8].toNat : Int) (2 ^ (b % 8) % 256)))).drew.drew =
      .ok (.string ⟨(turnL s.data.toList b).toArray⟩) (W1.setCell ⟨g, b / 8, none⟩ (.int .u8 (bits .xor .u8 (s[b / 8].toNat : Int) (2 ^ (b % 8) % 256)))).drew.drew := by
  have hl : (turnL s.data.toList b).length = s.size := by rw [turn_len]; simp
  have h := run_convert_bytes_back (P := P) (W1.setCell ⟨g, b / 8, none⟩ (.int .u8 (bits .xor .u8 (s[b / 8].toNat : Int) (2 ^ (b % 8) % 256)))).drew.drew src dst 5 ⟨g, 0, none⟩ cap (turnL s.data.toList b) hs he hd fun j hj => by
    have hj' : j < s.size := by rw [← hl]; exact hj
    rw [Addr.add_lit, Nat.zero_add]
    show (W1.setCell _ _).cell? _ = _
    by_cases e : j = b / 8
    · subst e
      rw [World.cell?_setCell_same _ _ _ hcell, octet_turn _ _ (Nat.mod_lt _ (by decide))]
      rw [turn_at s b (b / 8) hj' hj, if_pos rfl]
    · rw [World.cell?_setCell_other _ _ _ _ (by intro h; cases h; exact e rfl), hc j hj', turn_at s b j hj' hj, if_neg e]
  rw [hl] at h
  exact h

set_option maxRecDepth 100000 in
set_option maxHeartbeats 1000000 in
theorem turn_not (s : ByteArray) (b : Nat) (w : World) (hs : s.size ≤ 140737488351232) (hb : 8 * s.size ≤ b) :
    Calls Tryd.prog 21 #[.string s, .int .i64 b] w fun e w' => e = .returned (.string s) ∧ w = w' := by
  go_enter Tryd.func21, Tryd.ntmps21
  go_wp2
  go_ret
  exact ⟨rfl, rfl⟩

set_option maxRecDepth 100000 in
set_option maxHeartbeats 1000000 in
theorem turn_in (s : ByteArray) (b : Nat) (w : World) (hs : s.size ≤ 140737488351232) (hb : b < 8 * s.size) :
    Calls Tryd.prog 21 #[.string s, .int .i64 b] w fun e w' => e = .returned (.string ⟨(turnL s.data.toList b).toArray⟩) ∧ Below w.heap.size w w' := by
  have hconv := run_bytes_of_string (P := Tryd.prog) w 9 83 5 s Tryd.underlying9 Tryd.underlying83 Tryd.underlying5
  go_enter Tryd.func21, Tryd.ntmps21
  go_wp2
  clear hconv
  have hcap := grownCap_ge w s.size 0 5
  generalize grownCap w s.size 0 5 = cap at *
  have hrow : (bytesRow s cap).size = cap := by simp [bytesRow]; omega
  have hlt : b / 8 < s.size := by omega
  have hcell : (w.alloc (Obj.cells (bytesRow s cap) 5 ((bytesRow s cap).size, (bytesRow s cap).size + 1))).cell? ⟨w.heap.size, b / 8, none⟩ = some (.int .u8 (s[b / 8].toNat : Int)) := by
    rw [World.cell?_alloc_mark]; exact bytesRow_at s cap (b / 8) hlt
  have hfree : (w.alloc (Obj.cells (bytesRow s cap) 5 ((bytesRow s cap).size, (bytesRow s cap).size + 1))).frozen? ⟨w.heap.size, b / 8, none⟩ = false := by
    rw [World.frozen?_alloc_mark, hrow]; simp; omega
  have hbel : Below w.heap.size w (w.alloc (Obj.cells (bytesRow s cap) 5 ((bytesRow s cap).size, (bytesRow s cap).size + 1))) := (Below.refl _ _).alloc (Nat.le_refl _) _
  have hcells : ∀ j (h : j < s.size), (w.alloc (Obj.cells (bytesRow s cap) 5 ((bytesRow s cap).size, (bytesRow s cap).size + 1))).cell? ⟨w.heap.size, j, none⟩ = some (.int .u8 (s[j].toNat : Int)) := fun j h => by
    rw [World.cell?_alloc_mark]; exact bytesRow_at s cap j h
  generalize w.alloc (Obj.cells (bytesRow s cap) 5 ((bytesRow s cap).size, (bytesRow s cap).size + 1)) = W1 at *
  generalize hg : w.heap.size = g at *
  have HG := Lib.hid hg
  clear hg
  have HB := Lib.hid hbel
  have HS := Lib.hid hcells
  have hdiv : IntKind.i64.wrap ((b : Int).tdiv 8) = ((b / 8 : Nat) : Int) := by rw [IntWalk.i64_quo _ _ ⟨by omega, by omega, by omega⟩]; omega
  have hmod : (b : Int).tmod 8 = ((b % 8 : Nat) : Int) := by rw [IntWalk.rem_in _ _ (by omega)]; omega
  have hm8 : b % 8 < 8 := Nat.mod_lt _ (by decide)
  clear hrow hbel hcells
  go_region
  have hcv := turn_text (P := Tryd.prog) W1 g b cap s hlt HS.out hcell 83 9 Tryd.underlying83 Tryd.underlying5 Tryd.underlying9
  go_wp2
  go_ret
  exact ⟨rfl, by rw [HG.out]; exact ((HB.out.setCell (p := ⟨g, b / 8, none⟩) (Nat.le_refl g) _).drew).drew⟩
end Go.Proofs.YtjeepmdklbfgeaaDoor.W

namespace Go.Proofs.YtjeepmdklbfgeaaDoor.lawTurns
open Go.ChangeMaps (open_string)
open Go.Sort Go.ChangeShapes Go.WideShapes Go.ChangeAt Go.RowKit Go.Proofs.YtjeepmdklbfgeaaDoor.Pure Go.Proofs.YtjeepmdklbfgeaaDoor.W Go.Proofs.YtjeepmdklbfgeaaDoor.W.Pure

open Go.Proofs.YtjeepmdklbfgeaaDoor.Crc
theorem four_is (c : BitVec 32) (x0 x1 x2 x3 : UInt8) : [x0, x1, x2, x3] = four c ↔ BitVec.ofNat 32 (x0.toNat + 256 * x1.toNat + 65536 * x2.toNat + 16777216 * x3.toNat) = c := by
  have h0 := x0.toNat_lt
  have h1 := x1.toNat_lt
  have h2 := x2.toNat_lt
  have h3 := x3.toNat_lt
  have hc := c.isLt
  unfold four
  constructor
  · intro h
    simp only [List.cons.injEq, and_true] at h
    obtain ⟨e0, e1, e2, e3⟩ := h
    apply BitVec.eq_of_toNat_eq
    rw [BitVec.toNat_ofNat, Nat.mod_eq_of_lt (by omega), e0, e1, e2, e3, UInt8.toNat_ofNat', UInt8.toNat_ofNat', UInt8.toNat_ofNat', UInt8.toNat_ofNat']
    omega
  · intro h
    have e := congrArg BitVec.toNat h
    rw [BitVec.toNat_ofNat, Nat.mod_eq_of_lt (by omega)] at e
    rw [← e]
    simp only [List.cons.injEq, and_true]
    refine ⟨?_, ?_, ?_, ?_⟩ <;> (apply UInt8.toNat_inj.1; rw [UInt8.toNat_ofNat']; omega)
theorem tail_four (l : List UInt8) (h : l.length = 4) : ∃ x0 x1 x2 x3, l = [x0, x1, x2, x3] := by
  match l, h with
  | [x0, x1, x2, x3], _ => exact ⟨x0, x1, x2, x3, rfl⟩
/-- What opens is what leaves the register done. -/
theorem opens_iff (z : ByteArray) (h : 4 ≤ z.size) : Opens z ↔ reg 0xffffffff#32 z.data.toList = done := by
  obtain ⟨l, rfl⟩ : ∃ l : List UInt8, z = ⟨l.toArray⟩ := ⟨z.data.toList, by simp⟩
  have hl : (ByteArray.mk l.toArray).size = l.length := by show l.toArray.size = _; simp
  rw [hl] at h
  obtain ⟨x0, x1, x2, x3, ht⟩ := tail_four (l.drop (l.length - 4)) (by simp; omega)
  have hsplit : l = l.take (l.length - 4) ++ [x0, x1, x2, x3] := by rw [← ht, List.take_append_drop]
  unfold Opens fourB
  rw [hl, ByteArray.extract_mk, ByteArray.extract_mk, ht]
  simp only [List.drop_zero, Nat.sub_zero]
  rw [show l.length - (l.length - 4) = 4 by omega]
  conv => rhs; rw [hsplit]
  rw [sum_is, ← four_is]
  constructor
  · intro e
    have := congrArg (fun b : ByteArray => b.data.toList) e
    simpa using this
  · intro e
    rw [← e]; rfl
theorem bit_is (p k : Nat) (h : p < 2 ^ 32) : bits .and .u32 ((p : Int) / 2 ^ k) 1 = ((p / 2 ^ k % 2 : Nat) : Int) := by
  have e : ((p : Int) / 2 ^ k) = ((p / 2 ^ k : Nat) : Int) := by simp
  have hlt : p / 2 ^ k < 4294967296 := Nat.lt_of_le_of_lt (Nat.div_le_self _ _) h
  have := u32_and_nat (p / 2 ^ k) 1 hlt (by decide)
  rw [e]
  refine this.trans ?_
  rw [nat_mask1]

set_option maxRecDepth 100000 in
set_option maxHeartbeats 4000000 in
theorem walk (m : Mg) (A : Option Addr) (cA : Nat) (T : Option Addr) (cT : Nat) (t p : Nat) (w : World) (hm : Lists w m A cA T cT) (hw : Wf m) (ht16 : t < 65536) (hp : p < 2 ^ 32) (ht : Tab w) :
    Calls Tryd.prog 5 #[mvv m (.slice A m.ns.length cA) (.slice T m.tb.length cT), .int .u16 t, .int .u32 p] w fun e w' => e = .returned (.bool true) ∧ Below w.heap.size w w' := by
  obtain ⟨x, ex⟩ : ∃ x, x = fewM m := ⟨_, rfl⟩
  have hfv : fewV m A cA T cT = mvv x (.slice A x.ns.length cA) (.slice T x.tb.length cT) := by rw [ex]; rfl
  have HXx : Hid (∀ W : World, Below w.heap.size w W → MsgV W (mvv x (.slice A x.ns.length cA) (.slice T x.tb.length cT)) x) := Lib.hid (fun W hj => by rw [← hfv, ex]; exact hm.few hj)
  have hwx : Wf x := ex ▸ few_wf hw
  have HFx := Lib.hid (fun (W : World) (hj : Below w.heap.size w W) => few_val m A cA T cT W (hm.on hj))
  rw [hfv] at HFx
  have HTw : Hid (∀ W : World, Below w.heap.size w W → Tab W) := Lib.hid (fun W hb => ht.on hb)
  have HAw : Hid (∀ W : World, Below w.heap.size w W → Calls Tryd.prog 17 #[] W fun e w' => e = .returned (.bool true) ∧ Below W.heap.size W w') := Lib.hid (fun W hb => awake_any W (HTw.out W hb))
  have HB01 : Hid (Below w.heap.size w (w.alloc (.cells #[.int .i64 m.kd, .int .i64 m.fr, .int .i64 m.to, .int .u64 (m.sq : Int), .int .i64 m.wh, .int .u64 m.k.i, .int .i64 m.k.s, (.slice A m.ns.length cA), (.slice T m.tb.length cT), .int .u64 (m.ep : Int), .int .u64 (m.bo : Int), .int .i64 m.ak, .string m.ts, .int .u64 (m.tn : Int), .bool m.gd] 28))) := Lib.hid ((Below.refl _ _).alloc (Nat.le_refl _) _)
  have HRm : Hid (Row (w.alloc (.cells #[.int .i64 m.kd, .int .i64 m.fr, .int .i64 m.to, .int .u64 (m.sq : Int), .int .i64 m.wh, .int .u64 m.k.i, .int .i64 m.k.s, (.slice A m.ns.length cA), (.slice T m.tb.length cT), .int .u64 (m.ep : Int), .int .u64 (m.bo : Int), .int .i64 m.ak, .string m.ts, .int .u64 (m.tn : Int), .bool m.gd] 28)) w.heap.size [.int .i64 m.kd, .int .i64 m.fr, .int .i64 m.to, .int .u64 (m.sq : Int), .int .i64 m.wh, .int .u64 m.k.i, .int .i64 m.k.s, (.slice A m.ns.length cA), (.slice T m.tb.length cT), .int .u64 (m.ep : Int), .int .u64 (m.bo : Int), .int .i64 m.ak, .string m.ts, .int .u64 (m.tn : Int), .bool m.gd]) := Lib.hid (Row.new w _ _)
  have hlt1 : w.heap.size < (w.alloc (.cells #[.int .i64 m.kd, .int .i64 m.fr, .int .i64 m.to, .int .u64 (m.sq : Int), .int .i64 m.wh, .int .u64 m.k.i, .int .i64 m.k.s, (.slice A m.ns.length cA), (.slice T m.tb.length cT), .int .u64 (m.ep : Int), .int .u64 (m.bo : Int), .int .i64 m.ak, .string m.ts, .int .u64 (m.tn : Int), .bool m.gd] 28)).heap.size := by simp
  clear hfv ex hm hw ht
  unfold mvv at HFx ⊢
  go_enter Tryd.func5, Tryd.ntmps5
  go_upto_region 1 with (fail)
  generalize w.alloc (.cells #[.int .i64 m.kd, .int .i64 m.fr, .int .i64 m.to, .int .u64 (m.sq : Int), .int .i64 m.wh, .int .u64 m.k.i, .int .i64 m.k.s, (.slice A m.ns.length cA), (.slice T m.tb.length cT), .int .u64 (m.ep : Int), .int .u64 (m.bo : Int), .int .i64 m.ak, .string m.ts, .int .u64 (m.tn : Int), .bool m.gd] 28) = w1 at *
  have HF1 := Lib.hid (HFx.out w1 HB01.out)
  rcases hM : mayM x with _ | _
  · have HW1 := Lib.hid (fun (W : World) (hj : Below w.heap.size w W) => write_no x _ W (HXx.out W hj) hM)
    unfold mvv at HW1
    clear hM hwx HXx HFx HTw
    go_upto_region 2 with (first
      | (refine wpList_load_mid rfl 28 _ rfl w.heap.size 0 rfl [.int .i64 m.kd, .int .i64 m.fr, .int .i64 m.to, .int .u64 (m.sq : Int), .int .i64 m.wh, .int .u64 m.k.i, .int .i64 m.k.s, (.slice A m.ns.length cA), (.slice T m.tb.length cT), .int .u64 (m.ep : Int), .int .u64 (m.bo : Int), .int .i64 m.ak, .string m.ts, .int .u64 (m.tn : Int), .bool m.gd] _ (row_range HRm.out) Tryd.underlying28 rfl (by kernel_rfl) ?_)
      | (go_at_call 9; refine HF1.out.mono ?_; rintro e w2 ⟨rfl, hb2⟩; have HB2 := Lib.hid (HB01.out.trans (hb2.mono HB01.out.size)); clear hb2)
      | (go_at_call 10; refine (HW1.out _ HB2.out).mono ?_; rintro e w3 ⟨rfl, hb3⟩; have HB3 := Lib.hid (HB2.out.trans (hb3.mono HB2.out.size)); clear hb3))
    go_wp2_with fail
    refine (HAw.out _ HB3.out).mono ?_
    rintro e w4 ⟨rfl, hb4⟩
    go_wp2_with fail
    go_ret
    exact ⟨rfl, HB3.out.trans (hb4.mono HB3.out.size)⟩
  have HW1 := Lib.hid (fun (W : World) (hj : Below w.heap.size w W) => write_yes x _ W (HXx.out W hj) hwx hM (HTw.out W hj))
  unfold mvv at HW1
  obtain ⟨n, hn⟩ : ∃ n, tx (enc x) = n := ⟨_, rfl⟩
  have hel := enc_le hM
  have hns : n.size ≤ 2000 := by rw [← hn]; show (enc x).toArray.size ≤ _; simpa using hel
  have hrd : readM (sealB n) = (x, 0) := by rw [← hn]; exact readM_seal hM hwx hel
  rw [hn] at HW1
  have hx4 := seal_size n
  have HX := Lib.hid ((opens_iff (sealB n) (by omega)).1 (seal_open n))
  generalize sealB n = s at *
  have hxs : s.size ≤ 2004 ∧ 4 ≤ s.size := by omega
  have HRY : Hid (∀ W, Tab W → Calls Tryd.prog 18 #[.string s] W (ReadV W (x, 0))) := Lib.hid (fun W h => hrd ▸ read_any s W (by omega) h)
  have hxl : s.data.toList.length = s.size := by simp
  obtain ⟨fr, hfr⟩ : ∃ fr : Nat, fr = t % (8 * s.size) := ⟨_, rfl⟩
  have hmod : (t : Int) % (8 * (s.size : Int)) = (fr : Int) := by rw [hfr]; simp
  have hfrom : fr < 8 * s.size := by rw [hfr]; exact Nat.mod_lt _ (by omega)
  have hne : ((s.size : Int) == 0) = false := by rw [beq_eq_false_iff_ne]; omega
  have hsp := Spoilt.begin s.data.toList p fr
  have HP := Lib.hid hsp
  have HL := Lib.hid hxl
  clear hx4 hsp hxl hfr hrd hel hM hwx hns hn
  go_upto_region 5 with (first
    | (refine wpList_load_mid rfl 28 _ rfl w.heap.size 0 rfl [.int .i64 m.kd, .int .i64 m.fr, .int .i64 m.to, .int .u64 (m.sq : Int), .int .i64 m.wh, .int .u64 m.k.i, .int .i64 m.k.s, (.slice A m.ns.length cA), (.slice T m.tb.length cT), .int .u64 (m.ep : Int), .int .u64 (m.bo : Int), .int .i64 m.ak, .string m.ts, .int .u64 (m.tn : Int), .bool m.gd] _ (row_range HRm.out) Tryd.underlying28 rfl (by kernel_rfl) ?_)
    | (go_at_call 9; refine HF1.out.mono ?_; rintro e w2 ⟨rfl, hb2⟩; have HB2 := Lib.hid hb2; clear hb2)
    | (go_at_call 10; refine (HW1.out _ (HB01.out.trans (HB2.out.mono HB01.out.size))).mono ?_; rintro e w3 ⟨rfl, hb3⟩; have HB3 := Lib.hid (HB2.out.trans (hb3.mono HB2.out.size)); clear hb3))
  have HTb : Hid (∀ W : World, Below w1.heap.size w1 W → Tab W) := Lib.hid (fun W hb => HTw.out W (HB01.out.trans (hb.mono HB01.out.size)))
  clear HB2 HW1 HF1 HTw hne
  have HMod := Lib.hid hmod
  clear hmod
  go_wp2_with fail
  go_loopw [9, 10] (fun v i wr => ∃ (k : Nat) (z : ByteArray), k ≤ 32 ∧ i = .int .i64 k ∧ v = .string z ∧ z.size ≤ s.size ∧ s.size ≤ z.size ∧ Spoilt s.data.toList z.data.toList p fr k ∧ Below w1.heap.size w1 wr) (fun _ i _ => 32 - (intOf i).toNat)
  case atStart => exact ⟨0, s, by omega, rfl, rfl, by omega, by omega, HP.out, HB3.out⟩
  case round =>
    obtain ⟨k, z, hk, rfl, rfl, hz1, hz2, hsp, hb⟩ := hrel
    have HZ := Lib.hid hsp
    clear hsp
    by_cases h32 : k < 32
    · rcases Nat.mod_two_eq_zero_or_one (p / 2 ^ k) with h | h
      · have hbit : (bits .and .u32 ((p : Int) / 2 ^ k) 1 == 1) = false := by rw [bit_is p k hp, h]; rfl
        have hoff := Lib.hid (HZ.out.off h)
        clear h
        go_wp2_with fail
        go_roundw
        case rel => exact ⟨k + 1, z, by omega, by go_num, rfl, hz1, hz2, hoff.out, hb⟩
        case measure => simp [intOf]; omega
      · have hbit : (bits .and .u32 ((p : Int) / 2 ^ k) 1 == 1) = true := by rw [bit_is p k hp, h]; rfl
        have hmod : (t : Int) % (8 * (s.size : Int)) = (fr : Int) := HMod.out
        rcases Nat.lt_or_ge (fr + k) (8 * s.size) with hin | hout
        · have hon := Lib.hid (HZ.out.on h (by rw [HL.out]; exact hin) h32)
          have ht := fun W => turn_in z (fr + k) W (by omega) (by omega)
          have hsz : (⟨(turnL z.data.toList (fr + k)).toArray⟩ : ByteArray).size = z.size := by show (turnL z.data.toList (fr + k)).toArray.size = _; simp [turnL]
          have hls : (⟨(turnL z.data.toList (fr + k)).toArray⟩ : ByteArray).data.toList = turned z.data.toList (fr + k) := by simp; rfl
          generalize (⟨(turnL z.data.toList (fr + k)).toArray⟩ : ByteArray) = z' at *
          rw [← hls] at hon
          have hs1 := Nat.le_of_eq hsz
          have hs2 := Nat.le_of_eq hsz.symm
          simp only [Int.natCast_add] at ht
          have HU := Lib.hid ht
          clear h ht hsz hls
          go_wp2_with fail
          refine (HU.out _).mono ?_
          rintro e w4 ⟨rfl, hb4⟩
          go_wp2_with fail
          go_roundw
          case rel => exact ⟨k + 1, z', by omega, by go_num, rfl, by omega, by omega, hon.out, hb.trans (hb4.mono hb.size)⟩
          case measure => simp [intOf]; omega
        · have hpast := Lib.hid (HZ.out.past (k := k) (by rw [HL.out]; omega))
          have ht := fun W => turn_not z (fr + k) W (by omega) (by omega)
          simp only [Int.natCast_add] at ht
          have HU := Lib.hid ht
          clear h ht
          go_wp2_with fail
          refine (HU.out _).mono ?_
          rintro e w4 ⟨rfl, rfl⟩
          go_wp2_with fail
          go_roundw
          case rel => exact ⟨k + 1, z, by omega, by go_num, rfl, hz1, hz2, hpast.out, hb⟩
          case measure => simp [intOf]; omega
    · have hk32 : k = 32 := by omega
      subst hk32
      have hfound := HZ.out.found HX.out
      have hoi := opens_iff z (by omega)
      have HBr := Lib.hid hb
      clear hb h32
      by_cases hzx : z = s
      · subst hzx
        have hq : (z.toList == z.toList) = true := by simp
        have HRD := HRY
        clear hfound hoi HZ HX HP HL
        go_upto_region 11 with (first
          | (go_at_call 18; refine (HRD.out _ (HTb.out _ HBr.out)).mono ?_; rintro e w4 ⟨v, rfl, hv4, hb4⟩; obtain ⟨A2, cA2, T2, cT2, rfl, g1, g2, g3, g4, g5⟩ := hv4; have HV4 : Hid (MsgV w4 (mvv x (.slice A2 x.ns.length cA2) (.slice T2 x.tb.length cT2)) x) := Lib.hid ⟨A2, cA2, T2, cT2, rfl, g1, g2, g3, g4, g5⟩; have HB4 := Lib.hid (HBr.out.trans (hb4.mono HBr.out.size)); clear hb4 g1 g2 g3 g4 g5; unfold mvv))
        have hal : Below w4.heap.size w4 (w4.alloc (.cells #[.int .i64 x.kd, .int .i64 x.fr, .int .i64 x.to, .int .u64 (x.sq : Int), .int .i64 x.wh, .int .u64 x.k.i, .int .i64 x.k.s, (.slice A2 x.ns.length cA2), (.slice T2 x.tb.length cT2), .int .u64 (x.ep : Int), .int .u64 (x.bo : Int), .int .i64 x.ak, .string x.ts, .int .u64 (x.tn : Int), .bool x.gd] 28)) := (Below.refl _ _).alloc (Nat.le_refl _) _
        have HB5 : Hid (Below w1.heap.size w1 (w4.alloc (.cells #[.int .i64 x.kd, .int .i64 x.fr, .int .i64 x.to, .int .u64 (x.sq : Int), .int .i64 x.wh, .int .u64 x.k.i, .int .i64 x.k.s, (.slice A2 x.ns.length cA2), (.slice T2 x.tb.length cT2), .int .u64 (x.ep : Int), .int .u64 (x.bo : Int), .int .i64 x.ak, .string x.ts, .int .u64 (x.tn : Int), .bool x.gd] 28))) := Lib.hid (HB4.out.trans (hal.mono HB4.out.size))
        have HQ5 : Hid (Row (w4.alloc (.cells #[.int .i64 x.kd, .int .i64 x.fr, .int .i64 x.to, .int .u64 (x.sq : Int), .int .i64 x.wh, .int .u64 x.k.i, .int .i64 x.k.s, (.slice A2 x.ns.length cA2), (.slice T2 x.tb.length cT2), .int .u64 (x.ep : Int), .int .u64 (x.bo : Int), .int .i64 x.ak, .string x.ts, .int .u64 (x.tn : Int), .bool x.gd] 28)) w4.heap.size [.int .i64 x.kd, .int .i64 x.fr, .int .i64 x.to, .int .u64 (x.sq : Int), .int .i64 x.wh, .int .u64 x.k.i, .int .i64 x.k.s, (.slice A2 x.ns.length cA2), (.slice T2 x.tb.length cT2), .int .u64 (x.ep : Int), .int .u64 (x.bo : Int), .int .i64 x.ak, .string x.ts, .int .u64 (x.tn : Int), .bool x.gd]) := Lib.hid (Row.new w4 _ _)
        have HV5 := Lib.hid (HV4.out.on hal)
        generalize w4.alloc (.cells #[.int .i64 x.kd, .int .i64 x.fr, .int .i64 x.to, .int .u64 (x.sq : Int), .int .i64 x.wh, .int .u64 x.k.i, .int .i64 x.k.s, (.slice A2 x.ns.length cA2), (.slice T2 x.tb.length cT2), .int .u64 (x.ep : Int), .int .u64 (x.bo : Int), .int .i64 x.ak, .string x.ts, .int .u64 (x.tn : Int), .bool x.gd] 28) = w5 at *
        generalize w4.heap.size = q at *
        clear hal HV4 HB4 HRD
        have HRM5 : Hid (Row w5 w.heap.size [.int .i64 m.kd, .int .i64 m.fr, .int .i64 m.to, .int .u64 (m.sq : Int), .int .i64 m.wh, .int .u64 m.k.i, .int .i64 m.k.s, (.slice A m.ns.length cA), (.slice T m.tb.length cT), .int .u64 (m.ep : Int), .int .u64 (m.bo : Int), .int .i64 m.ak, .string m.ts, .int .u64 (m.tn : Int), .bool m.gd]) := Lib.hid (HRm.out.kp (Kp.of (S := []) HB5.out) hlt1 (by simp))
        have HS5 := Lib.hid (fun (W : World) (hj : Below w5.heap.size w5 W) => rsame_msg x x _ _ W (HV5.out.on hj) (HXx.out W (HB01.out.trans ((HB5.out.trans (hj.mono HB5.out.size)).mono HB01.out.size))))
        rw [show decide (x = x) = true from decide_eq_true rfl] at HS5
        have R1 := Lib.hid (fun q : Regrown => HFx.out (grow (redrawn w5 q.d) q.os) (HB01.out.trans ((HB5.out.trans ((below_regrown w5 q.d q.os).mono HB5.out.size)).mono HB01.out.size)))
        have R2 := Lib.hid (fun q : Regrown => HS5.out (grow (redrawn w5 q.d) q.os) (below_regrown w5 q.d q.os))
        have R3 := Lib.hid (fun q : Regrown => HAw.out (grow (redrawn w5 q.d) q.os) (HB01.out.trans ((HB5.out.trans ((below_regrown w5 q.d q.os).mono HB5.out.size)).mono HB01.out.size)))
        unfold mvv at R1 R2
        clear HS5
        go_upto_region 12 with (fail)
        have k0 := HQ5.out.at_ 0 _ rfl
        have k1 := HQ5.out.at_ 1 _ rfl
        have k2 := HQ5.out.at_ 2 _ rfl
        have k3 := HQ5.out.at_ 3 _ rfl
        have k4 := HQ5.out.at_ 4 _ rfl
        have k5 := HQ5.out.at_ 5 _ rfl
        have k6 := HQ5.out.at_ 6 _ rfl
        have k7 := HQ5.out.at_ 7 _ rfl
        have k8 := HQ5.out.at_ 8 _ rfl
        have k9 := HQ5.out.at_ 9 _ rfl
        have k10 := HQ5.out.at_ 10 _ rfl
        have k11 := HQ5.out.at_ 11 _ rfl
        have k12 := HQ5.out.at_ 12 _ rfl
        have k13 := HQ5.out.at_ 13 _ rfl
        have k14 := HQ5.out.at_ 14 _ rfl
        have l0 := HRM5.out.at_ 0 _ rfl
        have l1 := HRM5.out.at_ 1 _ rfl
        have l2 := HRM5.out.at_ 2 _ rfl
        have l3 := HRM5.out.at_ 3 _ rfl
        have l4 := HRM5.out.at_ 4 _ rfl
        have l5 := HRM5.out.at_ 5 _ rfl
        have l6 := HRM5.out.at_ 6 _ rfl
        have l7 := HRM5.out.at_ 7 _ rfl
        have l8 := HRM5.out.at_ 8 _ rfl
        have l9 := HRM5.out.at_ 9 _ rfl
        have l10 := HRM5.out.at_ 10 _ rfl
        have l11 := HRM5.out.at_ 11 _ rfl
        have l12 := HRM5.out.at_ 12 _ rfl
        have l13 := HRM5.out.at_ 13 _ rfl
        have l14 := HRM5.out.at_ 14 _ rfl
        have K0 := fun d os => cell_regrown k0 d os
        have K1 := fun d os => cell_regrown k1 d os
        have K2 := fun d os => cell_regrown k2 d os
        have K3 := fun d os => cell_regrown k3 d os
        have K4 := fun d os => cell_regrown k4 d os
        have K5 := fun d os => cell_regrown k5 d os
        have K6 := fun d os => cell_regrown k6 d os
        have K7 := fun d os => cell_regrown k7 d os
        have K8 := fun d os => cell_regrown k8 d os
        have K9 := fun d os => cell_regrown k9 d os
        have K10 := fun d os => cell_regrown k10 d os
        have K11 := fun d os => cell_regrown k11 d os
        have K12 := fun d os => cell_regrown k12 d os
        have K13 := fun d os => cell_regrown k13 d os
        have K14 := fun d os => cell_regrown k14 d os
        have L0 := fun d os => cell_regrown l0 d os
        have L1 := fun d os => cell_regrown l1 d os
        have L2 := fun d os => cell_regrown l2 d os
        have L3 := fun d os => cell_regrown l3 d os
        have L4 := fun d os => cell_regrown l4 d os
        have L5 := fun d os => cell_regrown l5 d os
        have L6 := fun d os => cell_regrown l6 d os
        have L7 := fun d os => cell_regrown l7 d os
        have L8 := fun d os => cell_regrown l8 d os
        have L9 := fun d os => cell_regrown l9 d os
        have L10 := fun d os => cell_regrown l10 d os
        have L11 := fun d os => cell_regrown l11 d os
        have L12 := fun d os => cell_regrown l12 d os
        have L13 := fun d os => cell_regrown l13 d os
        have L14 := fun d os => cell_regrown l14 d os
        refine q_enter (by kernel_rfl) (by kernel_rfl) ?_
        iterate 12 (refine q_step ?_; intro K hK; go_simp; first | (refine hK _ ?_; clear hK K) | (refine ⟨_, fun q => Calls.regrown_of (by with_reducible exact R1.out q), hK _ ?_⟩; clear hK K) | (refine ⟨_, fun q => Calls.regrown_of (by with_reducible exact R2.out q), hK _ ?_⟩; clear hK K) | (refine ⟨_, fun q => Calls.regrown_of (by with_reducible exact R3.out q), hK _ ?_⟩; clear hK K))
        refine q_nil ?_
        intro wz hbz
        go_wp2_with fail
        go_ret
        exact ⟨rfl, HB01.out.trans ((HB5.out.trans (hbz.mono HB5.out.size)).mono HB01.out.size)⟩
      · have hno : ¬ Opens z := by
          rw [hoi, hfound]
          intro e
          exact hzx (ByteArray.ext (Array.toList_inj.1 e))
        have hq : (z.toList == s.toList) = false := by rw [beq_eq_false_iff_ne]; exact fun h => hzx (text_eq h)
        have hq2 : ¬ z.toList = s.toList := fun h => hzx (text_eq h)
        have HRD := Lib.hid (fun W (h : Tab W) => read_err z ⟨#[]⟩ 10 W (by decide) h (fun W h => open_no z W (by omega) (by omega) h hno))
        clear hfound hoi hno hzx HZ HX HP HL
        go_upto_region 11 with (first
          | (go_at_call 18; refine (HRD.out _ (HTb.out _ HBr.out)).mono ?_; rintro e w4 ⟨v, rfl, hv4, hb4⟩; obtain ⟨A2, cA2, T2, cT2, rfl, g1, g2, g3, g4, g5⟩ := hv4; have HV4 : Hid (MsgV w4 (mvv zm (.slice A2 zm.ns.length cA2) (.slice T2 zm.tb.length cT2)) zm) := Lib.hid ⟨A2, cA2, T2, cT2, rfl, g1, g2, g3, g4, g5⟩; have HB4 := Lib.hid (HBr.out.trans (hb4.mono HBr.out.size)); clear hb4 g1 g2 g3 g4 g5; unfold mvv))
        have hal : Below w4.heap.size w4 (w4.alloc (.cells #[.int .i64 zm.kd, .int .i64 zm.fr, .int .i64 zm.to, .int .u64 (zm.sq : Int), .int .i64 zm.wh, .int .u64 zm.k.i, .int .i64 zm.k.s, (.slice A2 zm.ns.length cA2), (.slice T2 zm.tb.length cT2), .int .u64 (zm.ep : Int), .int .u64 (zm.bo : Int), .int .i64 zm.ak, .string zm.ts, .int .u64 (zm.tn : Int), .bool zm.gd] 28)) := (Below.refl _ _).alloc (Nat.le_refl _) _
        have HB5 : Hid (Below w1.heap.size w1 (w4.alloc (.cells #[.int .i64 zm.kd, .int .i64 zm.fr, .int .i64 zm.to, .int .u64 (zm.sq : Int), .int .i64 zm.wh, .int .u64 zm.k.i, .int .i64 zm.k.s, (.slice A2 zm.ns.length cA2), (.slice T2 zm.tb.length cT2), .int .u64 (zm.ep : Int), .int .u64 (zm.bo : Int), .int .i64 zm.ak, .string zm.ts, .int .u64 (zm.tn : Int), .bool zm.gd] 28))) := Lib.hid (HB4.out.trans (hal.mono HB4.out.size))
        have HQ5 : Hid (Row (w4.alloc (.cells #[.int .i64 zm.kd, .int .i64 zm.fr, .int .i64 zm.to, .int .u64 (zm.sq : Int), .int .i64 zm.wh, .int .u64 zm.k.i, .int .i64 zm.k.s, (.slice A2 zm.ns.length cA2), (.slice T2 zm.tb.length cT2), .int .u64 (zm.ep : Int), .int .u64 (zm.bo : Int), .int .i64 zm.ak, .string zm.ts, .int .u64 (zm.tn : Int), .bool zm.gd] 28)) w4.heap.size [.int .i64 zm.kd, .int .i64 zm.fr, .int .i64 zm.to, .int .u64 (zm.sq : Int), .int .i64 zm.wh, .int .u64 zm.k.i, .int .i64 zm.k.s, (.slice A2 zm.ns.length cA2), (.slice T2 zm.tb.length cT2), .int .u64 (zm.ep : Int), .int .u64 (zm.bo : Int), .int .i64 zm.ak, .string zm.ts, .int .u64 (zm.tn : Int), .bool zm.gd]) := Lib.hid (Row.new w4 _ _)
        have HV5 := Lib.hid (HV4.out.on hal)
        generalize w4.alloc (.cells #[.int .i64 zm.kd, .int .i64 zm.fr, .int .i64 zm.to, .int .u64 (zm.sq : Int), .int .i64 zm.wh, .int .u64 zm.k.i, .int .i64 zm.k.s, (.slice A2 zm.ns.length cA2), (.slice T2 zm.tb.length cT2), .int .u64 (zm.ep : Int), .int .u64 (zm.bo : Int), .int .i64 zm.ak, .string zm.ts, .int .u64 (zm.tn : Int), .bool zm.gd] 28) = w5 at *
        generalize w4.heap.size = q at *
        clear hal HV4 HB4 HRD
        have HSz := Lib.hid (rsame_msg zm zm _ _ w5 HV5.out (msgv_zero w5))
        rw [show decide (zm = zm) = true from decide_eq_true rfl] at HSz
        unfold mvv at HSz
        go_wp2_with (first
          | (refine wpList_load_mid rfl 28 _ rfl q 0 rfl [.int .i64 zm.kd, .int .i64 zm.fr, .int .i64 zm.to, .int .u64 (zm.sq : Int), .int .i64 zm.wh, .int .u64 zm.k.i, .int .i64 zm.k.s, (.slice A2 zm.ns.length cA2), (.slice T2 zm.tb.length cT2), .int .u64 (zm.ep : Int), .int .u64 (zm.bo : Int), .int .i64 zm.ak, .string zm.ts, .int .u64 (zm.tn : Int), .bool zm.gd] _ (row_range HQ5.out) Tryd.underlying28 rfl (by kernel_rfl) ?_)
          | (go_at_call 14; refine HSz.out.mono ?_; rintro e w6 ⟨rfl, hb6⟩; have HB6 := Lib.hid (HB01.out.trans ((HB5.out.trans (hb6.mono HB5.out.size)).mono HB01.out.size)); clear hb6)
          | (go_at_call 17; refine (HAw.out _ HB6.out).mono ?_; rintro e w7 ⟨rfl, hb7⟩; have HB7 := Lib.hid (HB6.out.trans (hb7.mono HB6.out.size)); clear hb7))
        go_ret
        exact ⟨rfl, HB7.out⟩

theorem run_walk (m : Mg) (A : Option Addr) (cA : Nat) (T : Option Addr) (cT : Nat) (t p : Int) (w : World) (hm : Lists w m A cA T cT) (hw : Wf m) (h16 : 0 ≤ t ∧ t ≤ 65535) (hp : 0 ≤ p ∧ p ≤ 4294967295) (ht : Tab w) :
    Calls Tryd.prog 5 #[mvv m (.slice A m.ns.length cA) (.slice T m.tb.length cT), .int .u16 t, .int .u32 p] w fun e w' => e = .returned (.bool true) ∧ Below w.heap.size w w' := by
  obtain ⟨t, rfl⟩ := Int.eq_ofNat_of_zero_le h16.1
  obtain ⟨p, rfl⟩ := Int.eq_ofNat_of_zero_le hp.1
  exact walk m A cA T cT t p w hm hw (by omega) (by omega) ht

theorem parOk : ∀ t ∈ (#[28, 44, 45] : Array TypeId).toList, Tryd.prog.readableRec t = true ∧ t < Tryd.prog.types.size := by
  have hall : ([28, 44, 45].all fun t => Tryd.prog.readableRec t && decide (t < Tryd.prog.types.size)) = true := by kernel_rfl
  intro t ht
  simpa using List.all_eq_true.1 hall t ht

set_option maxRecDepth 100000 in
/-- What the walk gives, for every argument and every world that holds the table. -/
theorem contract (H : Type) (enc : TypeId × Value → H) (W : World) (base : Nat) (args : Array Value) (ds gs : List (DataW H)) (before : List MemPlace)
    (hval : ∀ (j : Nat) t v, Tryd.f5.params[j]? = some t → args[j]? = some v → Value.okWide Tryd.prog W .any base t v)
    (hW : DataW.Whole enc Tryd.prog Tryd.f5.params.toList Rows.msgTurnsSpec.vars false W args.toList ds gs before) (hL : laidMetH Tryd.prog Rows.msgTurnsRow.laid W) :
    Calls Tryd.prog 5 args W fun e W' => ∃ v, e = .returned v ∧ Rows.msgTurnsSpec.post enc Tryd.prog Tryd.f5 false true false false W args v W' := by
  have hW' := hW
  obtain ⟨p, q, hA0, hV, rfl, hfz, hnd⟩ := hW
  have hA : DataW.TrodAll enc Tryd.prog W 0 (fun _ => true) true Tryd.f5.params.toList args.toList ds p := hA0
  rw [Tryd.params5] at hA hval
  obtain ⟨v0, vs0, d0, ds0, p0, q0, hargs, rfl, rfl, h0, r0⟩ := trodAll_cons hA
  obtain ⟨v1, vs1, d1, ds1, p1, q1, rfl, rfl, rfl, h1, r1⟩ := trodAll_cons r0
  obtain ⟨v2, vs2, d2, ds2, p2, q2, rfl, rfl, rfl, h2, r2⟩ := trodAll_cons r1
  obtain ⟨rfl, rfl, rfl⟩ := trodAll_nil r2
  obtain rfl : args = #[v0, v1, v2] := by cases args; simp_all
  obtain ⟨rfl, rfl⟩ := trodVars_none hV
  obtain ⟨m, ⟨A, cA, T, cT, rfl, hLm⟩, hw⟩ := open_msg (hval 0 28 v0 rfl rfl) h0
  obtain ⟨t, rfl, rfl, rfl, wt⟩ := open_int Tryd.underlying44 (hval 1 44 v1 rfl rfl) h1
  obtain ⟨p, rfl, rfl, rfl, wp⟩ := open_int Tryd.underlying45 (hval 2 45 v2 rfl rfl) h2
  clear hA0
  refine (run_walk m A cA T cT t p W hLm hw (by simpa [Lit.wf, IntKind.min, IntKind.max, IntKind.signed, IntKind.bits] using wt) (by simpa [Lit.wf, IntKind.min, IntKind.max, IntKind.signed, IntKind.bits] using wp) (tab_of_laid hL)).mono fun e W' ⟨he, hb⟩ => ?_
  subst he
  exact ⟨_, rfl, law_post rfl (by rw [Tryd.params5]; exact parOk) rfl hW' rfl rfl rfl hb⟩

set_option maxRecDepth 100000 in
theorem laid_met (os : Os) : laidMet Tryd.prog Rows.msgTurnsRow.laid ((laidWorld os).forCall (fun _ _ => 0) ⟨#[], #[.agg #[.int .i64 0, .int .i64 0, .int .i64 0, .int .u64 0, .int .i64 0, .int .u64 0, .int .i64 0, .slice none 0 0, .slice none 0 0, .int .u64 0, .int .u64 0, .int .i64 0, .string ⟨#[]⟩, .int .u64 0, .bool false], .int .u16 0, .int .u32 0], []⟩).memory :=
  laidMet_of_run' 8 (by kernel_rfl) (by kernel_rfl)
set_option maxRecDepth 100000 in
theorem reads (os : Os) {H : Type} (enc : TypeId × Value → H) : ∃ places, DataW.whole enc Tryd.prog ((laidWorld os).forCall (fun _ _ => 0) ⟨#[], #[.agg #[.int .i64 0, .int .i64 0, .int .i64 0, .int .u64 0, .int .i64 0, .int .u64 0, .int .i64 0, .slice none 0 0, .slice none 0 0, .int .u64 0, .int .u64 0, .int .i64 0, .string ⟨#[]⟩, .int .u64 0, .bool false], .int .u16 0, .int .u32 0], []⟩).memory Tryd.f5.params.toList Rows.msgTurnsSpec.vars false (#[.agg #[.int .i64 0, .int .i64 0, .int .i64 0, .int .u64 0, .int .i64 0, .int .u64 0, .int .i64 0, .slice none 0 0, .slice none 0 0, .int .u64 0, .int .u64 0, .int .i64 0, .string ⟨#[]⟩, .int .u64 0, .bool false], .int .u16 0, .int .u32 0] : Array Value).toList 8 = some ([.agg [.lit (.int .i64 0), .lit (.int .i64 0), .lit (.int .i64 0), .lit (.int .u64 0), .lit (.int .i64 0), .agg [.lit (.int .u64 0), .lit (.int .i64 0)], .nil, .nil, .lit (.int .u64 0), .lit (.int .u64 0), .lit (.int .i64 0), .lit (.string []), .lit (.int .u64 0), .lit (.bool false)], .lit (.int .u16 0), .lit (.int .u32 0)], [], places) :=
  ⟨[], by kernel_rfl⟩

set_option maxRecDepth 100000 in
theorem lifted (os : Os) (started : os.Started) (H : Type) (enc : TypeId × Value → H) (F : Stop.Interp) :
    ReturnsInHanded {} Tryd.checked os 5 .any ((OpenSpec.ofChange Rows.msgTurnsSpec).preRow enc Tryd.prog Tryd.f5 Rows.msgTurnsRow.domain false Rows.msgTurnsRow.laid) (((OpenSpec.ofChange Rows.msgTurnsSpec).at F).post enc Tryd.prog Tryd.f5 false true false false) := by
  obtain ⟨places, hx⟩ := reads os enc
  refine returnsInHanded_of_row (C := Tryd.checked) (s := OpenSpec.ofChange Rows.msgTurnsSpec) own started (by kernel_rfl) Tryd.func5
    (witness_row_at (enc := enc) (C := Tryd.checked) false (laidWorld os) #[.agg #[.int .i64 0, .int .i64 0, .int .i64 0, .int .u64 0, .int .i64 0, .int .u64 0, .int .i64 0, .slice none 0 0, .slice none 0 0, .int .u64 0, .int .u64 0, .int .i64 0, .string ⟨#[]⟩, .int .u64 0, .bool false], .int .u16 0, .int .u32 0] rfl (by kernel_rfl) (by kernel_rfl) (by kernel_rfl)
      (OpenSpec.preRow_of_cond 8 hx (by kernel_rfl) (fun k hk => by cases hk) (by kernel_rfl) (laid_met os))) ?_
  intro W base args ds gs before hval hW _ _ _ hL _ _
  exact contract H enc W base args ds gs before hval hW hL

theorem said : Rows.MsgTurnsSaid :=
  OpenClaim.holds_of_cond 5 Tryd.f5 rfl rfl rfl rfl rfl rfl rfl ⟨rfl, rfl, rfl, rfl, rfl⟩ rfl rfl rfl rfl rfl (by kernel_rfl) Tryd.func5 (by kernel_rfl)
    (of_decide_eq_true (by kernel_rfl)) (by unfold Func.isWrapper; first | (rw [if_pos (by decide +kernel)]; kernel_rfl) | (rw [if_neg (by decide +kernel)]; exact ⟨rfl, rfl⟩))
    (fun os started H enc _ F => by rw [OpenClaim.pre_eq_preRow]; exact lifted os started H enc F)

/-- No parameter wants a stand-in; the program's own looks are off. -/
theorem plain (f : FuncId) (fn : Func) (hf : Tryd.pinned.checked.prog.funcNamed "tattle/tattlelaw10.MsgTurns" = some f) (hfn : Tryd.pinned.checked.prog.funcs[f]? = some fn) :
    false = Tryd.pinned.checked.prog.looks [] ∧ ∀ (j : Nat) t, fn.params[j]? = some t → Tryd.pinned.checked.prog.wantsStandIn t = false := by
  obtain rfl : f = 5 := Option.some.inj ((show Tryd.prog.funcNamed "tattle/tattlelaw10.MsgTurns" = some 5 by kernel_rfl).symm.trans hf) |>.symm
  obtain rfl : fn = Tryd.f5 := (Option.some.inj (Tryd.func5.symm.trans hfn)).symm
  refine ⟨by kernel_rfl, fun j t ht => ?_⟩
  rw [Tryd.params5] at ht
  have hm : t ∈ [28, 44, 45] := by simpa using Array.mem_of_getElem? ht
  have hall : ([28, 44, 45].all fun u => !Tryd.prog.wantsStandIn u) = true := by kernel_rfl
  exact (show Tryd.prog.wantsStandIn t = false by simpa using List.all_eq_true.1 hall t hm)

/-- THE CARD. -/
theorem card : Rows.MsgTurnsCardSaid :=
  Claim7.holds_tied_plain_at .later [] _ _ _ _ said (fun _ h => by cases h) (by kernel_rfl) (fun _ h => by cases h) msgTurns_row_tie rfl ⟨rfl, rfl⟩ (by kernel_rfl) rfl plain (by kernel_rfl)
end Go.Proofs.YtjeepmdklbfgeaaDoor.lawTurns
