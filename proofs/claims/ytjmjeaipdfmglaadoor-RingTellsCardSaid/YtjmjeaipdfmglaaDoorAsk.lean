/-
  Whoever is asked, one behind the other, as mathematics: each in its time.
-/
import Derived.Test.YtjmjeaipdfmglaaDoorNums
namespace Go.Proofs.YtjmjeaipdfmglaaDoor.Pure

/-- An order, how many of it were asked, and the dice's place. -/
structure Tn where
  T : List Int
  p : Nat
  a : Nat
def who (L : List UInt8) (l : List Int) (s : Tn) : Int := (nx L l s.T s.p s.a).1
def stp (L : List UInt8) (l : List Int) (s : Tn) : Tn := ⟨(nx L l s.T s.p s.a).2.1, (nx L l s.T s.p s.a).2.2.1, (nx L l s.T s.p s.a).2.2.2⟩
def run (L : List UInt8) (l : List Int) : Nat → Tn → Tn
  | 0, s => s
  | k + 1, s => stp L l (run L l k s)
def asked (L : List UInt8) (l : List Int) (s : Tn) (k : Nat) : List Int := (List.range k).map fun i => who L l (run L l i s)
/-- Those of the order that are left. -/
def left (l : List Int) (s : Tn) : List Int := (s.T.drop s.p).filter (fun x => l.contains x)
def OkS (L : List UInt8) (s : Tn) : Prop := numsB s.T = true ∧ s.p ≤ s.T.length ∧ s.a ≤ L.length

section
variable {L : List UInt8} {l : List Int} {s : Tn}
theorem OkS.t (h : OkS L s) : okT s.T (s.p : Int) = true := by
  rw [okT_iff]
  exact ⟨h.1, by omega, by have := h.2.1; omega⟩
theorem order_perm (a : Nat) (l : List Int) : (shufAll L a l).1.Perm l := shufAll_perm L a l
theorem contains_of_mem {x : Int} (h : x ∈ l) : l.contains x = true := by simpa using h
/-- Nobody is left: the nodes are shuffled. -/
theorem left_nil (hq : left l s = []) : nx L l s.T s.p s.a = ((shufAll L s.a l).1.getD 0 0, (shufAll L s.a l).1, 1, (shufAll L s.a l).2) := by
  refine nx_none L l s.T s.p s.a fun j hj hlt => ?_
  unfold left at hq
  rw [List.filter_eq_nil_iff] at hq
  have e : s.T.getD j 0 = (s.T.drop s.p)[j - s.p]'(by simp; omega) := by
    rw [List.getElem_drop, List.getD, List.getElem?_eq_getElem hlt]; simp; congr 1; omega
  rw [e]
  have h1 := hq _ (List.getElem_mem (l := s.T.drop s.p) (n := j - s.p) (by simp; omega))
  simpa only [Bool.not_eq_true] using h1

/-- A whole order: one behind the other. -/
theorem whole (hq : left l s = []) : ∀ k, k < l.length → who L l (run L l k s) = (shufAll L s.a l).1.getD k 0 ∧ run L l (k + 1) s = ⟨(shufAll L s.a l).1, k + 1, (shufAll L s.a l).2⟩ := by
  intro k
  induction k with
  | zero =>
    intro _
    show who L l s = _ ∧ stp L l s = _
    unfold who stp
    rw [left_nil hq]
    exact ⟨rfl, rfl⟩
  | succ k ih =>
    intro hk
    obtain ⟨_, h2⟩ := ih (by omega)
    have hp := order_perm (L := L) s.a l
    have e : nx L l (shufAll L s.a l).1 (k + 1) (shufAll L s.a l).2 = ((shufAll L s.a l).1.getD (k + 1) 0, (shufAll L s.a l).1, k + 1 + 1, (shufAll L s.a l).2) := by
      refine nx_found L l _ (k + 1) _ (k + 1) (Nat.le_refl _) (by rw [hp.length_eq]; exact hk) ?_ (fun j h1 h2 => by omega)
      exact contains_of_mem (hp.subset (getD_mem _ _ (by rw [hp.length_eq]; exact hk)))
    constructor
    · rw [h2]; unfold who; rw [e]
    · show stp L l (run L l (k + 1) s) = _
      rw [h2]; unfold stp; rw [e]
end

/-! ### nodes without one -/
/-! ### what hangs on nothing that is behind -/
end Go.Proofs.YtjmjeaipdfmglaaDoor.Pure
