/-
  What is spoilt, and a part, of a text of what is saved.
-/
import Derived.Test.YtlpnhpnigljlnaaDoorFl
import Derived.Test.YtlpnhpnigljlnaaDoorTurn
namespace Go.Proofs.YtlpnhpnigljlnaaDoor
open Go.RowKit Go.Proofs.YtlpnhpnigljlnaaDoor.Pure Go.Proofs.YtlpnhpnigljlnaaDoor.Crc

theorem four_is (c : BitVec 32) (x0 x1 x2 x3 : UInt8) : [x0, x1, x2, x3] = four c ↔ BitVec.ofNat 32 (x0.toNat + 256 * x1.toNat + 65536 * x2.toNat + 16777216 * x3.toNat) = c := by
  have h0 := x0.toNat_lt
  have h1 := x1.toNat_lt
  have h2 := x2.toNat_lt
  have h3 := x3.toNat_lt
  have hc := c.isLt
  unfold four
  constructor
  · intro h
    simp only [List.cons.injEq, and_true] at h
    obtain ⟨e0, e1, e2, e3⟩ := h
    apply BitVec.eq_of_toNat_eq
    rw [BitVec.toNat_ofNat, Nat.mod_eq_of_lt (by omega), e0, e1, e2, e3, UInt8.toNat_ofNat', UInt8.toNat_ofNat', UInt8.toNat_ofNat', UInt8.toNat_ofNat']
    omega
  · intro h
    have e := congrArg BitVec.toNat h
    rw [BitVec.toNat_ofNat, Nat.mod_eq_of_lt (by omega)] at e
    rw [← e]
    simp only [List.cons.injEq, and_true]
    refine ⟨?_, ?_, ?_, ?_⟩ <;> (apply UInt8.toNat_inj.1; rw [UInt8.toNat_ofNat']; omega)
theorem tail_four (l : List UInt8) (h : l.length = 4) : ∃ x0 x1 x2 x3, l = [x0, x1, x2, x3] := by
  match l, h with
  | [x0, x1, x2, x3], _ => exact ⟨x0, x1, x2, x3, rfl⟩
/-- What opens is what leaves the register done. -/
theorem opens_iff (z : ByteArray) (h : 4 ≤ z.size) : Opens z ↔ reg 0xffffffff#32 z.data.toList = done := by
  obtain ⟨l, rfl⟩ : ∃ l : List UInt8, z = ⟨l.toArray⟩ := ⟨z.data.toList, by simp⟩
  have hl : (ByteArray.mk l.toArray).size = l.length := by show l.toArray.size = _; simp
  rw [hl] at h
  obtain ⟨x0, x1, x2, x3, ht⟩ := tail_four (l.drop (l.length - 4)) (by simp; omega)
  have hsplit : l = l.take (l.length - 4) ++ [x0, x1, x2, x3] := by rw [← ht, List.take_append_drop]
  unfold Opens fourB
  rw [hl, ByteArray.extract_mk, ByteArray.extract_mk, ht]
  simp only [List.drop_zero, Nat.sub_zero]
  rw [show l.length - (l.length - 4) = 4 by omega]
  conv => rhs; rw [hsplit]
  rw [sum_is, ← four_is]
  constructor
  · intro e
    have := congrArg (fun b : ByteArray => b.data.toList) e
    simpa using this
  · intro e
    rw [← e]; rfl
theorem bit_is (p k : Nat) (h : p < 2 ^ 32) : bits .and .u32 ((p : Int) / 2 ^ k) 1 = ((p / 2 ^ k % 2 : Nat) : Int) := by
  have e : ((p : Int) / 2 ^ k) = ((p / 2 ^ k : Nat) : Int) := by simp
  have hlt : p / 2 ^ k < 4294967296 := Nat.lt_of_le_of_lt (Nat.div_le_self _ _) h
  have := u32_and_nat (p / 2 ^ k) 1 hlt (by decide)
  rw [e]
  refine this.trans ?_
  rw [nat_mask1]
theorem spoilt_read {s : Sv} (o : SvO s) {z : ByteArray} {p fr : Nat} (h : Spoilt (layC s).data.toList z.data.toList p fr 32) (h1 : z.size ≤ (layC s).size) (h2 : (layC s).size ≤ z.size) : (z = layC s ∧ parS z = s ∧ parE z = 0) ∨ (¬ z = layC s ∧ parS z = nilD ∧ parE z = 10) := by
  have hz := layC_size s
  have hp := layC_pos s
  have hd := (opens_iff (layC s) (by omega)).1 (opens_lay rfl)
  have hf := h.found hd
  by_cases e : z = layC s
  · refine .inl ⟨e, ?_⟩
    rw [e]
    exact lay_par o
  · refine .inr ⟨e, ?_⟩
    have hno : ¬ Opens z := by
      rw [opens_iff z (by omega), hf]
      intro e2
      exact e (ByteArray.ext (Array.toList_inj.1 e2))
    have hn : parC z = none := by
      cases hc : parC z with
      | none => rfl
      | some x => exact absurd (par_size hc).2.2 hno
    refine ⟨by unfold parS; rw [hn]; rfl, ?_⟩
    unfold parE
    rw [if_neg (by omega), if_neg (by omega), if_neg hno]
end Go.Proofs.YtlpnhpnigljlnaaDoor
