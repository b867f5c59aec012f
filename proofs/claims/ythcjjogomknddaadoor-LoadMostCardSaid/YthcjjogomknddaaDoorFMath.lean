/-
  Plain mathematics of FNV-1a: a number by octets, and back. No program stands here.
-/
import Derived.Laws.BitsAllLaws
import Derived.Laws.BitsLemmas
namespace Go.Proofs.YthcjjogomknddaaDoor.F.Pure

/-- One octet in. -/
def oct (h : BitVec 64) (o : UInt8) : BitVec 64 := (h ^^^ BitVec.ofNat 64 o.toNat) * 1099511628211#64
/-- One octet out. -/
def out (h : BitVec 64) (o : UInt8) : BitVec 64 := h * 14886173955864302971#64 ^^^ BitVec.ofNat 64 o.toNat
/-- What a number comes to by octets. -/
def on (h : BitVec 64) (l : List UInt8) : BitVec 64 := l.foldl oct h
/-- The number that comes to it. -/
def back (h : BitVec 64) (l : List UInt8) : BitVec 64 := l.foldr (fun o h => out h o) h
/-- The sum of nothing. -/
def first : BitVec 64 := 14695981039346656037#64

theorem mul_undo (a : BitVec 64) : a * 1099511628211#64 * 14886173955864302971#64 = a := by
  rw [BitVec.mul_assoc, show (1099511628211#64 * 14886173955864302971#64 : BitVec 64) = 1#64 by decide, BitVec.mul_one]
theorem undo_mul (a : BitVec 64) : a * 14886173955864302971#64 * 1099511628211#64 = a := by
  rw [BitVec.mul_assoc, show (14886173955864302971#64 * 1099511628211#64 : BitVec 64) = 1#64 by decide, BitVec.mul_one]
theorem xor_twice (a b : BitVec 64) : a ^^^ b ^^^ b = a := by rw [BitVec.xor_assoc, BitVec.xor_self, BitVec.xor_zero]
theorem out_oct (h : BitVec 64) (o : UInt8) : out (oct h o) o = h := by unfold out oct; rw [mul_undo, xor_twice]
theorem oct_out (h : BitVec 64) (o : UInt8) : oct (out h o) o = h := by unfold out oct; rw [xor_twice, undo_mul]

theorem on_nil (h : BitVec 64) : on h [] = h := rfl
theorem on_cons (h : BitVec 64) (o : UInt8) (l : List UInt8) : on h (o :: l) = on (oct h o) l := rfl
theorem on_append (h : BitVec 64) (a b : List UInt8) : on h (a ++ b) = on (on h a) b := List.foldl_append
theorem on_snoc (h : BitVec 64) (a : List UInt8) (o : UInt8) : on h (a ++ [o]) = oct (on h a) o := on_append h a [o]
theorem back_nil (h : BitVec 64) : back h [] = h := rfl
theorem back_cons (h : BitVec 64) (o : UInt8) (l : List UInt8) : back h (o :: l) = out (back h l) o := rfl
theorem back_append (h : BitVec 64) (a b : List UInt8) : back h (a ++ b) = back (back h b) a := List.foldr_append
theorem back_on (l : List UInt8) : ∀ h, back (on h l) l = h := by
  induction l with
  | nil => intro h; rfl
  | cons o r ih => intro h; rw [on_cons, back_cons, ih, out_oct]
theorem on_back (l : List UInt8) : ∀ h, on (back h l) l = h := by
  induction l with
  | nil => intro h; rfl
  | cons o r ih => intro h; rw [on_cons, back_cons, oct_out, ih]
theorem on_inj {h k : BitVec 64} {l : List UInt8} (e : on h l = on k l) : h = k := by
  rw [← back_on l h, e, back_on]
theorem on_same {h k : BitVec 64} {l : List UInt8} : on h l = on k l ↔ h = k := ⟨on_inj, fun e => by rw [e]⟩
theorem ofNat_octet {a b : UInt8} (e : BitVec.ofNat 64 a.toNat = BitVec.ofNat 64 b.toNat) : a = b := by
  have h := congrArg BitVec.toNat e
  have ha := a.toNat_lt
  have hb := b.toNat_lt
  simp only [BitVec.toNat_ofNat] at h
  rw [Nat.mod_eq_of_lt (by omega), Nat.mod_eq_of_lt (by omega)] at h
  exact UInt8.toNat_inj.1 h
theorem oct_inj {h : BitVec 64} {a b : UInt8} (e : oct h a = oct h b) : a = b := by
  have e2 := congrArg (fun x => x * 14886173955864302971#64) e
  simp only [oct, mul_undo] at e2
  have e3 := congrArg (fun x => h ^^^ x) e2
  simp only [← BitVec.xor_assoc, BitVec.xor_self, BitVec.zero_xor] at e3
  exact ofNat_octet e3
/-- One octet that is another one: another sum. -/
theorem on_set (h : BitVec 64) (l : List UInt8) (i : Nat) (c : UInt8) (hi : i < l.length) : on h (l.set i c) = on h l ↔ l = l.set i c := by
  constructor
  · intro e
    rw [List.set_eq_take_append_cons_drop, if_pos hi] at e ⊢
    rw [on_append, on_cons] at e
    have e0 : on h l = on (oct (on h (l.take i)) l[i]) (l.drop (i + 1)) := by
      rw [← on_cons, ← on_append, ← List.drop_eq_getElem_cons hi, List.take_append_drop]
    rw [e0] at e
    have := oct_inj (on_inj e)
    rw [this, ← List.drop_eq_getElem_cons hi, List.take_append_drop]
  · intro e
    rw [← e]
theorem xor_ofNat (a b : UInt8) : BitVec.ofNat 64 (a ^^^ b).toNat = BitVec.ofNat 64 a.toNat ^^^ BitVec.ofNat 64 b.toNat := by
  apply BitVec.eq_of_toNat_eq
  have ha := a.toNat_lt
  have hb := b.toNat_lt
  have hx := (a ^^^ b).toNat_lt
  rw [BitVec.toNat_xor]
  simp only [BitVec.toNat_ofNat]
  rw [Nat.mod_eq_of_lt (by omega), Nat.mod_eq_of_lt (by omega), Nat.mod_eq_of_lt (by omega), UInt8.toNat_xor]
/-- A number turned by b, and an octet turned by b, come to the same. -/
theorem oct_turn (h : BitVec 64) (a b : UInt8) : oct (h ^^^ BitVec.ofNat 64 b.toNat) (a ^^^ b) = oct h a := by
  unfold oct
  congr 1
  rw [xor_ofNat, BitVec.xor_assoc, BitVec.xor_comm (BitVec.ofNat 64 a.toNat), ← BitVec.xor_assoc (BitVec.ofNat 64 b.toNat), BitVec.xor_self, BitVec.zero_xor]
theorem on_zero (h : BitVec 64) (l : List UInt8) (n : Nat) : on h (l ++ List.replicate (n + 1) 0) = on h (l ++ List.replicate n 0) * 1099511628211#64 := by
  rw [List.replicate_succ', ← List.append_assoc, on_snoc]
  unfold oct
  simp
/-- Texts one behind the other. -/
theorem on_texts (l : List ByteArray) (k : Nat) (hk : k < l.length) (h : BitVec 64) :
    on h ((l.take (k + 1)).flatMap fun s => s.data.toList) = on (on h ((l.take k).flatMap fun s => s.data.toList)) (l.getD k ByteArray.empty).data.toList := by
  rw [List.take_succ_eq_append_getElem hk, List.flatMap_append, on_append]
  simp [List.getD, hk]

/-! ### as the program has the numbers -/
theorem xor_nat (a b : Nat) (ha : a < 2 ^ 64) (hb : b < 2 ^ 64) : bits .xor .u64 (a : Int) (b : Int) = ((a ^^^ b : Nat) : Int) := by
  exact u64_xor_nat a b (by omega) (by omega)
theorem xor_bv (a b : BitVec 64) : bits .xor .u64 (a.toNat : Int) (b.toNat : Int) = ((a ^^^ b).toNat : Int) := by
  rw [xor_nat _ _ a.isLt b.isLt, BitVec.toNat_xor]
theorem xor_octet (r : BitVec 64) (o : UInt8) : bits .xor .u64 (r.toNat : Int) (o.toNat : Int) = ((r ^^^ BitVec.ofNat 64 o.toNat).toNat : Int) := by
  have ho := o.toNat_lt
  rw [xor_nat _ _ r.isLt (by omega), BitVec.toNat_xor, BitVec.toNat_ofNat, Nat.mod_eq_of_lt (by omega)]
theorem mul_bv (r : BitVec 64) (k : Nat) : ((r.toNat : Int) * (k : Int)) % 18446744073709551616 = ((r * BitVec.ofNat 64 k).toNat : Int) := by
  rw [BitVec.toNat_mul, BitVec.toNat_ofNat, Nat.mul_mod_mod]
  omega
end Go.Proofs.YthcjjogomknddaaDoor.F.Pure
