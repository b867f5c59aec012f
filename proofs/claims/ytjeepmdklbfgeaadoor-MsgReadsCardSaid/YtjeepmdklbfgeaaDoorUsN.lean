/-
  The numbers that news, and a table, are written as.
-/
import Derived.Test.YtjeepmdklbfgeaaDoorMsgD
import Derived.Test.YtjeepmdklbfgeaaDoorWire
namespace Go.Proofs.YtjeepmdklbfgeaaDoor.Pure
open Go.Proofs.YtjeepmdklbfgeaaDoor.W Go.Proofs.YtjeepmdklbfgeaaDoor.W.Pure

def nu (y : Nw) : List Nat := [y.w.toNat, y.i.toNat, y.s.toNat]
def ku (y : Kn) : List Nat := [y.i.toNat, y.s.toNat]
theorem nus_len (l : List Nw) : (l.flatMap nu).length = 3 * l.length := by
  induction l with
  | nil => rfl
  | cons y l ih => rw [List.flatMap_cons, List.length_append, ih, List.length_cons]; show 3 + _ = _; omega
theorem kus_len (l : List Kn) : (l.flatMap ku).length = 2 * l.length := by
  induction l with
  | nil => rfl
  | cons y l ih => rw [List.flatMap_cons, List.length_append, ih, List.length_cons]; show 2 + _ = _; omega
theorem nus_step (l : List Nw) (k : Nat) (h : k < l.length) : (l.take (k + 1)).flatMap nu = (l.take k).flatMap nu ++ nu (nw l k) := by
  rw [List.take_succ_eq_append_getElem h, List.flatMap_append]
  simp [nw, List.getD, List.getElem?_eq_getElem h]
theorem kus_step (l : List Kn) (k : Nat) (h : k < l.length) : (l.take (k + 1)).flatMap ku = (l.take k).flatMap ku ++ ku (kn l k) := by
  rw [List.take_succ_eq_append_getElem h, List.flatMap_append]
  simp [kn, List.getD, List.getElem?_eq_getElem h]
theorem kn_mem (l : List Kn) {k : Nat} (h : k < l.length) : kn l k ∈ l := by
  have e : kn l k = l[k] := by simp [kn, List.getD, List.getElem?_eq_getElem h]
  rw [e]; exact List.getElem_mem h
theorem nums_app (a b : List Nat) : nums (a ++ b) = nums a ++ nums b := by simp [nums]
theorem nums_nus (l : List Nw) : nums (l.flatMap nu) = l.flatMap layN := by
  induction l with
  | nil => rfl
  | cons y l ih => rw [List.flatMap_cons, nums_app, ih, List.flatMap_cons]; congr 1; simp [nums, nu, layN, layK]; rfl
theorem nums_kus (l : List Kn) : nums (l.flatMap ku) = l.flatMap layK := by
  induction l with
  | nil => rfl
  | cons y l ih => rw [List.flatMap_cons, nums_app, ih, List.flatMap_cons]; congr 1; simp [nums, ku, layK]
theorem nus_lt {l : List Nw} (h : ∀ y ∈ l, (0 ≤ y.w ∧ y.w < 64) ∧ Fit y.k ∧ 0 ≤ y.s ∧ y.s ≤ 3) : ∀ z ∈ l.flatMap nu, z < 2 ^ 64 := by
  intro z hz
  obtain ⟨y, hy, hz⟩ := List.mem_flatMap.1 hz
  obtain ⟨⟨a, b⟩, ⟨c, d⟩, e, f⟩ := h y hy
  have c' : 0 ≤ y.i := c
  have d' : y.i ≤ 18446744073709551615 := d
  simp only [nu, List.mem_cons, List.not_mem_nil, or_false] at hz
  omega
theorem kus_lt {l : List Kn} (h : ∀ y ∈ l, Fit y ∧ 0 ≤ y.s ∧ y.s ≤ 3) : ∀ z ∈ l.flatMap ku, z < 2 ^ 64 := by
  intro z hz
  obtain ⟨y, hy, hz⟩ := List.mem_flatMap.1 hz
  obtain ⟨⟨c, d⟩, e, f⟩ := h y hy
  simp only [ku, List.mem_cons, List.not_mem_nil, or_false] at hz
  omega
end Go.Proofs.YtjeepmdklbfgeaaDoor.Pure
