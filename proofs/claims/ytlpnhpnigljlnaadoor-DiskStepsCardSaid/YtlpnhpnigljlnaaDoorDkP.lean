/-
  What a text says, number by number: read, it is what was laid, or nothing: as mathematics.
-/
import Derived.Test.YtlpnhpnigljlnaaDoorDkT
import Derived.Test.YtlpnhpnigljlnaaDoorSeal
namespace Go.Proofs.YtlpnhpnigljlnaaDoor.Pure
open Go.Proofs.YtlpnhpnigljlnaaDoor Go.Proofs.YtlpnhpnigljlnaaDoor.Crc

/-- A seal. -/
def slC (l : List UInt8) : List UInt8 := l ++ four (crc l)
theorem seals_C : Seals slC := fun l => ⟨four (crc l), rfl, rfl⟩
/-- What is saved, as a text; what a text is. -/
def layC (s : Sv) : ByteArray := layB slC s
noncomputable def parC (t : ByteArray) : Option Sv := parB slC t
theorem wy_C : Wy SvO layC parC := wy_is seals_C
theorem layC_is (s : Sv) : sealB ⟨(insD s).toArray⟩ = layC s := by
  unfold sealB layC layB slC fourB
  rw [ByteArray.mk_append_mk]
  try simp
theorem layC_size (s : Sv) : (layC s).size ≤ 64 := by
  have h1 := bodD_len s
  have h2 := num_le (bodD s).length
  have h3 := lay_len seals_C s
  have h4 : (layC s).size = (slC (insD s)).length := by simp [layC, layB, ByteArray.size]
  omega
theorem layC_pos (s : Sv) : 4 < (layC s).size := by
  have h1 := num_size (bodD s).length (by have := bodD_len s; omega)
  have h3 := lay_len seals_C s
  have h4 : (layC s).size = (slC (insD s)).length := by simp [layC, layB, ByteArray.size]
  omega
/-- The numbers of it. -/
def nusD (s : Sv) : List Nat := [(bodD s).length, s.q.toNat, s.b.toNat, s.i.toNat, s.e.toNat, (s.u + 1).toNat]
theorem nusD_ins (s : Sv) : nums (nusD s) = insD s := by
  unfold nusD insD
  rw [← bodD_nums]
  simp [nums]
theorem nusD_lt {s : Sv} (o : SvO s) : ∀ z ∈ nusD s, z < 2 ^ 64 := by
  have h1 := bodD_len s
  have oq := o.q; have ob := o.b; have oi := o.i; have oe := o.e; have ot := o.u
  intro z hz
  simp only [nusD, List.mem_cons, List.not_mem_nil, or_false] at hz
  omega
theorem nums_cons (a : Nat) (l : List Nat) : nums (a :: l) = num a ++ nums l := by simp [nums]
theorem nums_app (l m : List Nat) : nums (l ++ m) = nums l ++ nums m := by simp [nums]
theorem nums_split : ∀ (l L : List Nat) (r : List UInt8), (∀ z ∈ l, z < 2 ^ 64) → (∀ z ∈ L, z < 2 ^ 64) → l.length ≤ L.length → nums l ++ r = nums L → l = L.take l.length ∧ r = nums (L.drop l.length) := by
  intro l
  induction l with
  | nil => intro L r _ _ _ h; exact ⟨by simp, by simpa [nums] using h⟩
  | cons a l ih =>
    intro L r hl hL hlen h
    cases L with
    | nil => simp at hlen
    | cons b L =>
      rw [nums_cons, nums_cons, List.append_assoc] at h
      obtain ⟨e, h⟩ := num_front (hl a (by simp)) (hL b (by simp)) h
      obtain ⟨e1, e2⟩ := ih L r (fun z hz => hl z (by simp [hz])) (fun z hz => hL z (by simp [hz])) (by simpa using hlen) h
      refine ⟨?_, e2⟩
      rw [List.length_cons, List.take_succ_cons, ← e1, e]
/-- So far taken: these numbers, up to this place. -/
structure Got (x : List UInt8) (l : List Nat) (p : Nat) : Prop where
  le : p ≤ x.length
  is : nums l = x.take p
  lt : ∀ z ∈ l, z < 2 ^ 64
theorem got_nil (x : List UInt8) : Got x [] 0 := ⟨by omega, by simp [nums], by simp⟩
theorem Got.more {x : List UInt8} {l : List Nat} {p m q : Nat} (h : Got x l p) (ht : takeL (x.drop p) 0 0 = (m, q, 0)) : Got x (l ++ [m]) (p + q) := by
  obtain ⟨h1, h2, h3⟩ := back_num _ _ _ ht
  rw [List.length_drop] at h2
  refine ⟨by have := h.le; omega, ?_, ?_⟩
  · rw [nums_app, h.is, List.take_add]
    congr 1
    rw [← h3]
    simp [nums]
  · intro z hz
    rcases List.mem_append.1 hz with hz | hz
    · exact h.lt z hz
    · rw [List.mem_singleton.1 hz]
      exact take_small _ _ _ ht
theorem Got.split {x : List UInt8} {l : List Nat} {p : Nat} (h : Got x l p) {s : Sv} (o : SvO s) (hx : x = insD s) (hl : l.length ≤ 6) : l = (nusD s).take l.length ∧ x.drop p = nums ((nusD s).drop l.length) := by
  refine nums_split l (nusD s) (x.drop p) h.lt (nusD_lt o) (by simpa [nusD] using hl) ?_
  rw [h.is, List.take_append_drop, nusD_ins]
  exact hx
theorem Got.bad {x : List UInt8} {l : List Nat} {p : Nat} (h : Got x l p) (hl : l.length ≤ 5) (ht : ¬ (takeL (x.drop p) 0 0).2.2 = 0) : ∀ s, SvO s → ¬ x = insD s := by
  intro s o hx
  obtain ⟨_, e⟩ := h.split o hx (by omega)
  have h6 : (nusD s).length = 6 := rfl
  have hc : (nusD s).drop l.length = (nusD s)[l.length] :: (nusD s).drop (l.length + 1) := List.drop_eq_getElem_cons (by omega)
  rw [e, hc, nums_cons, take_num _ _ (nusD_lt o _ (List.getElem_mem _))] at ht
  exact ht rfl
theorem Got.fin {x : List UInt8} {l : List Nat} {p : Nat} (h : Got x l p) (hl : l.length = 6) {s : Sv} (o : SvO s) (hx : x = insD s) : l = nusD s := by
  obtain ⟨e, _⟩ := h.split o hx (by omega)
  rw [hl] at e
  exact e
/-- The opened text. -/
def opnB (t : ByteArray) : ByteArray := t.extract 0 (t.size - 4)
theorem opn_lay {t : ByteArray} {s : Sv} (h : t = layC s) : (opnB t).data.toList = insD s := by
  have hs : t.size = (insD s).length + 4 := by
    rw [h, ← layC_is]
    unfold sealB
    rw [ByteArray.size_append, fourB_size]
    simp [ByteArray.size]
  have e : t.data.toList = insD s ++ four (crc (insD s)) := by rw [h]; simp [layC, layB, slC]
  unfold opnB
  rw [ByteArray.data_extract, Array.toList_extract, hs, Nat.add_sub_cancel, List.extract_eq_take_drop, List.drop_zero, Nat.sub_zero, e, List.take_left']
  rfl
theorem lay_opn {t : ByteArray} (ho : Opens t) {s : Sv} (h : (opnB t).data.toList = insD s) : t = layC s := by
  have e := (seal_opens t).2 ho
  rw [← layC_is, ← h]
  exact e.symm
theorem opens_lay {t : ByteArray} {s : Sv} (h : t = layC s) : Opens t := by
  refine (seal_opens t).1 ?_
  have e : t.extract 0 (t.size - 4) = ⟨(insD s).toArray⟩ := by
    have := opn_lay h
    unfold opnB at this
    rw [← this]
  rw [e, layC_is, h]
open Classical in
/-- Why nothing is read of a text. -/
noncomputable def parE (t : ByteArray) : Nat := if t.size < 4 then 3 else if 4100 < t.size then 4 else if Opens t then (if (parC t).isSome = true then 0 else 2) else 10
theorem par_size {t : ByteArray} {s : Sv} (h : parC t = some s) : 4 ≤ t.size ∧ t.size ≤ 4100 ∧ Opens t := by
  obtain ⟨o, e⟩ := wy_C.laid t s h
  have h1 := layC_size s
  have h2 := layC_pos s
  rw [← e] at h1 h2
  exact ⟨by omega, by omega, opens_lay e⟩
theorem parE_some {t : ByteArray} {s : Sv} (h : parC t = some s) : parE t = 0 := by
  obtain ⟨h1, h2, h3⟩ := par_size h
  unfold parE
  rw [if_neg (by omega), if_neg (by omega), if_pos h3, h]
  rfl
theorem parE_none {t : ByteArray} (h : parC t = none) : ¬ parE t = 0 := by
  unfold parE
  rw [h]
  split
  · decide
  · split
    · decide
    · split <;> decide
theorem parC_no {t : ByteArray} (h : ∀ s, SvO s → ¬ (opnB t).data.toList = insD s) : parC t = none := parB_no fun s o e => h s o (opn_lay e)
theorem parC_yes {s : Sv} (o : SvO s) : parC (layC s) = some s := parB_yes seals_C o
/-- All numbers there: what they say is saved, if it is laid so. -/
def sayD (l : List Nat) (n : Int) : Sv := ⟨l.getD 1 0, l.getD 2 0, l.getD 3 0, l.getD 4 0, n⟩
theorem Got.far {t : ByteArray} {l : List Nat} {p : Nat} (h : Got (opnB t).data.toList l p) (hl : l.length = 6) (hf : 64 < l.getD 5 0) : parC t = none := by
  refine parC_no fun s o e => ?_
  have e1 := h.fin hl o e
  have ot := o.u
  rw [e1] at hf
  have : (nusD s).getD 5 0 = (s.u + 1).toNat := rfl
  omega
theorem Got.svO {x : List UInt8} {l : List Nat} {p : Nat} (h : Got x l p) (hl : l.length = 6) (hf : l.getD 5 0 ≤ 64) : SvO (sayD l ((l.getD 5 0 : Nat) - 1)) := by
  have g : ∀ j, j < 6 → l.getD j 0 < 2 ^ 64 := fun j hj => by
    have hj' : j < l.length := by omega
    have e : l.getD j 0 = l[j] := by simp [List.getD, hj']
    rw [e]
    exact h.lt _ (List.getElem_mem _)
  have g1 := g 1 (by omega); have g2 := g 2 (by omega); have g3 := g 3 (by omega); have g4 := g 4 (by omega)
  exact ⟨by simp only [sayD]; omega, by simp only [sayD]; omega, by simp only [sayD]; omega, by simp only [sayD]; omega, by simp only [sayD]; omega⟩
theorem Got.same {t : ByteArray} {l : List Nat} {p : Nat} (h : Got (opnB t).data.toList l p) (hl : l.length = 6) (hf : l.getD 5 0 ≤ 64) (he : layC (sayD l ((l.getD 5 0 : Nat) - 1)) = t) : parC t = some (sayD l ((l.getD 5 0 : Nat) - 1)) := by
  rw [← he]
  exact parC_yes (h.svO hl hf)
theorem Got.other {t : ByteArray} {l : List Nat} {p : Nat} (h : Got (opnB t).data.toList l p) (hl : l.length = 6) (he : ¬ layC (sayD l ((l.getD 5 0 : Nat) - 1)) = t) : parC t = none := by
  refine parB_no fun s o e => he ?_
  have e1 := h.fin hl o (opn_lay e)
  have e2 : sayD l ((l.getD 5 0 : Nat) - 1) = s := by
    rw [e1]
    have oq := o.q; have ob := o.b; have oi := o.i; have oe := o.e; have ot := o.u
    unfold sayD
    cases s
    simp only [Sv.mk.injEq]
    simp only [nusD, List.getD_cons_zero, List.getD_cons_succ] at *
    omega
  rw [e2]
  exact e.symm
/-- What is read, and nothing. -/
def nilD : Sv := ⟨0, 0, 0, 0, 0⟩
noncomputable def parS (t : ByteArray) : Sv := (parC t).getD nilD
end Go.Proofs.YtlpnhpnigljlnaaDoor.Pure
