/-
  The text of what is saved: no two have one, no part of one is one: as mathematics. Math, Back: wire's.
-/
import Derived.Test.YtlpnhpnigljlnaaDoorBack
import Derived.Test.YtlpnhpnigljlnaaDoorDkM
namespace Go.Proofs.YtlpnhpnigljlnaaDoor.Pure

/-- What may be saved, of numbers of 64 bits. -/
structure SvO (s : Sv) : Prop where
  q : 0 ≤ s.q ∧ s.q < 2 ^ 64
  b : 0 ≤ s.b ∧ s.b < 2 ^ 64
  i : 0 ≤ s.i ∧ s.i < 2 ^ 64
  e : 0 ≤ s.e ∧ s.e < 2 ^ 64
  u : -1 ≤ s.u ∧ s.u ≤ 63
def bodD (s : Sv) : List UInt8 := num s.q.toNat ++ (num s.b.toNat ++ (num s.i.toNat ++ (num s.e.toNat ++ num (s.u + 1).toNat)))
theorem bodD_nums (s : Sv) : nums [s.q.toNat, s.b.toNat, s.i.toNat, s.e.toNat, (s.u + 1).toNat] = bodD s := by
  unfold nums bodD
  simp
theorem bodD_len (s : Sv) : (bodD s).length ≤ 50 := by
  have h1 := num_le s.q.toNat
  have h2 := num_le s.b.toNat
  have h3 := num_le s.i.toNat
  have h4 := num_le s.e.toNat
  have h5 := num_le (s.u + 1).toNat
  unfold bodD
  simp only [List.length_append]
  omega
/-- Ahead of it its length. -/
def insD (s : Sv) : List UInt8 := num (bodD s).length ++ bodD s
/-- A seal puts four octets behind. -/
def Seals (sl : List UInt8 → List UInt8) : Prop := ∀ l, ∃ x : List UInt8, x.length = 4 ∧ sl l = l ++ x
theorem lay_len {sl : List UInt8 → List UInt8} (h : Seals sl) (s : Sv) : (sl (insD s)).length = (num (bodD s).length).length + (bodD s).length + 4 := by
  obtain ⟨x, h1, h2⟩ := h (insD s)
  rw [h2]
  unfold insD
  simp only [List.length_append]
  omega
theorem lay_take {sl : List UInt8 → List UInt8} (h : Seals sl) (s : Sv) : ∃ r, sl (insD s) = num (bodD s).length ++ r ∧ takeL (sl (insD s)) 0 0 = ((bodD s).length, (num (bodD s).length).length, 0) := by
  obtain ⟨x, h1, h2⟩ := h (insD s)
  have hb := bodD_len s
  refine ⟨bodD s ++ x, ?_, ?_⟩
  · rw [h2]; unfold insD; rw [List.append_assoc]
  · rw [h2]; unfold insD; rw [List.append_assoc]
    exact take_num _ _ (by omega)
/-- Equal numbers ahead. -/
theorem num_front {a b : Nat} {r t : List UInt8} (ha : a < 2 ^ 64) (hb : b < 2 ^ 64) (h : num a ++ r = num b ++ t) : a = b ∧ r = t := by
  have h1 := take_num a r ha
  rw [h, take_num b t hb] at h1
  have e : b = a := congrArg Prod.fst h1
  subst e
  exact ⟨rfl, List.append_cancel_left h⟩
theorem lay_inj {sl : List UInt8 → List UInt8} (hs : Seals sl) {s u : Sv} (o : SvO s) (p : SvO u) (h : sl (insD s) = sl (insD u)) : s = u := by
  obtain ⟨x, h1, h2⟩ := hs (insD s)
  obtain ⟨y, h3, h4⟩ := hs (insD u)
  rw [h2, h4] at h
  have hl : (insD s).length = (insD u).length := by
    have := congrArg List.length h
    simp only [List.length_append] at this
    omega
  have h := List.append_inj_left h hl
  have b1 := bodD_len s
  have b2 := bodD_len u
  unfold insD at h
  have h := (num_front (by omega) (by omega) h).2
  unfold bodD at h
  have oq := o.q; have ob := o.b; have oi := o.i; have oe := o.e; have ot := o.u
  have pq := p.q; have pb := p.b; have pi := p.i; have pe := p.e; have pt := p.u
  obtain ⟨e1, h⟩ := num_front (by omega) (by omega) h
  obtain ⟨e2, h⟩ := num_front (by omega) (by omega) h
  obtain ⟨e3, h⟩ := num_front (by omega) (by omega) h
  obtain ⟨e4, h⟩ := num_front (by omega) (by omega) h
  have e5 : (s.u + 1).toNat = (u.u + 1).toNat := by
    have h5 : num (s.u + 1).toNat ++ [] = num (u.u + 1).toNat ++ [] := by rw [List.append_nil, List.append_nil]; exact h
    exact (num_front (by omega) (by omega) h5).1
  cases s; cases u
  simp only at *
  simp only [Sv.mk.injEq]
  omega
/-- No part of one is one. -/
theorem lay_part {sl : List UInt8 → List UInt8} (hs : Seals sl) {s u : Sv} {c : Nat} (hc : c < (sl (insD s)).length) (h : sl (insD u) = (sl (insD s)).take c) : False := by
  obtain ⟨r, h1, h2⟩ := lay_take hs s
  obtain ⟨t, h3, h4⟩ := lay_take hs u
  have b1 := bodD_len s
  rw [h] at h4
  rcases Nat.lt_or_ge c (num (bodD s).length).length with hd | hd
  · have e : (sl (insD s)).take c = (num (bodD s).length).take c := by
      rw [h1, List.take_append_of_le_length (by omega)]
    rw [e] at h4
    have hz := num_le (bodD s).length
    have := take_cut 10 (bodD s).length 0 0 c hd (by omega)
    have h5 : takeL ((num (bodD s).length).take c) 0 0 = (0, 0, 3) := this
    rw [h5] at h4
    have := congrArg (fun z : Nat × Nat × Nat => z.2.2) h4
    simp at this
  · have e : (sl (insD s)).take c = num (bodD s).length ++ r.take (c - (num (bodD s).length).length) := by
      rw [h1, List.take_append, List.take_of_length_le hd]
    rw [e, take_num _ _ (by omega)] at h4
    have e2 : (bodD s).length = (bodD u).length := congrArg Prod.fst h4
    have e3 := congrArg List.length h
    rw [lay_len hs u, List.length_take, ← e2, ← lay_len hs s] at e3
    omega
/-- To lay down, as text; to read. -/
def layB (sl : List UInt8 → List UInt8) (s : Sv) : ByteArray := ⟨(sl (insD s)).toArray⟩
open Classical in
noncomputable def parB (sl : List UInt8 → List UInt8) (t : ByteArray) : Option Sv := if h : ∃ s, SvO s ∧ t = layB sl s then some h.choose else none
theorem layB_inj {sl : List UInt8 → List UInt8} (hs : Seals sl) {s u : Sv} (o : SvO s) (p : SvO u) (h : layB sl s = layB sl u) : s = u := by
  refine lay_inj hs o p ?_
  have := congrArg (fun b : ByteArray => b.data.toList) h
  simpa [layB] using this
theorem parB_yes {sl : List UInt8 → List UInt8} (hs : Seals sl) {s : Sv} (o : SvO s) : parB sl (layB sl s) = some s := by
  have hx : ∃ u, SvO u ∧ layB sl s = layB sl u := ⟨s, o, rfl⟩
  unfold parB
  rw [dif_pos hx]
  exact congrArg some (layB_inj hs o hx.choose_spec.1 hx.choose_spec.2).symm
theorem parB_no {sl : List UInt8 → List UInt8} {t : ByteArray} (h : ∀ s, SvO s → ¬ t = layB sl s) : parB sl t = none := by
  unfold parB
  rw [dif_neg]
  rintro ⟨s, h1, h2⟩
  exact h s h1 h2
theorem wy_is {sl : List UInt8 → List UInt8} (hs : Seals sl) : Wy SvO (layB sl) (parB sl) where
  back s o := parB_yes hs o
  laid t s h := by
    unfold parB at h
    split at h
    · rename_i hx
      injection h with h
      rw [← h]
      exact hx.choose_spec
    · cases h
  part s c o hc := by
    refine parB_no fun u hu e => ?_
    have e2 := congrArg (fun b : ByteArray => b.data.toList) e
    have e3 : (sl (insD s)).take c = sl (insD u) := by simpa [layB] using e2
    exact lay_part hs (by simpa [layB, ByteArray.size] using hc) e3.symm
end Go.Proofs.YtlpnhpnigljlnaaDoor.Pure
