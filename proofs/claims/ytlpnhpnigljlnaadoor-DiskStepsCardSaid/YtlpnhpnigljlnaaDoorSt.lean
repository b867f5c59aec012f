/-
  What stays, whatever is written, and torn, one behind the other: as mathematics.
-/
import Derived.Test.YtlpnhpnigljlnaaDoorFl
import Derived.Test.YtlpnhpnigljlnaaDoorLw
namespace Go.Proofs.YtlpnhpnigljlnaaDoor
open Go.RowKit Go.Proofs.YtlpnhpnigljlnaaDoor.Pure

/-- One of them, where it lies. -/
def Itm (w : World) (a : Addr) (x : Sv) : Prop := a.block < w.heap.size ∧ WAt w a x
theorem Itm.on {w w' : World} {a : Addr} {x : Sv} (h : Itm w a x) (hb : Below w.heap.size w w') : Itm w' a x := ⟨Nat.lt_of_lt_of_le h.1 hb.size, h.2.keep fun p hp => hb.cell (by rw [hp]; exact h.1)⟩
theorem dka_other {w : World} {g : Nat} {d : Dk} {p : Addr} (h : DkA w g d) (hp : p.block ≠ g) (v : Value) : DkA (w.setCell p v) g d := by
  obtain ⟨h0, h1⟩ := h
  have n : ∀ o, ¬ p = (⟨g, o, none⟩ : Addr) := fun o e => hp (by rw [e])
  refine ⟨?_, ?_⟩
  · rw [World.cell?_setCell_other _ _ _ _ (n _)]; exact h0
  · rw [World.cell?_setCell_other _ _ _ _ (n _)]; exact h1
/-- Behind so many steps: what is read is the last one that was whole. -/
structure InvS (k : Nat) (d : Dk) (la : Sv) (is : Bool) : Prop where
  ok : hasO d = is
  q : (hasS d).q ≤ (k : Int)
  b : is = true → (hasS d).b = la.b
  i : is = true → (hasS d).i = la.i
  e : is = true → (hasS d).e = la.e
  u : is = true → (hasS d).u = la.u
theorem inv_zero : InvS 0 d0D nilD false := by
  obtain ⟨h1, h2, _⟩ := d0_has
  exact ⟨h1, by rw [h2]; decide, fun h => (by cases h), fun h => (by cases h), fun h => (by cases h), fun h => (by cases h)⟩
theorem InvS.more {k : Nat} {d : Dk} {la : Sv} {is : Bool} (h : InvS k d la is) : InvS (k + 1) d la is :=
  ⟨h.ok, by have := h.q; omega, h.b, h.i, h.e, h.u⟩
theorem InvS.rea {k : Nat} {d : Dk} {la : Sv} {is : Bool} (h : InvS k d la is) : reaE d = if is = true then 0 else 6 := by
  unfold reaE
  rw [h.ok]
theorem steps_facts {k : Nat} {d : Dk} {la s : Sv} {is : Bool} {c : Nat} (h : InvS k d la is) (hf : FitS s) (hm : mayB s = true) (hk : k < 20) (ha : d.a.size ≤ 64) (hb : d.b.size ≤ 64) :
    teE d s c = 0 ∧ teE d s 9223372036854775807 = 0 ∧ ((teR d s c).a.size ≤ 64 ∧ (teR d s c).b.size ≤ 64) ∧ 0 ≤ (hasS d).q ∧
    ((teR d s c = teR d s 9223372036854775807 ∧ hasS (teR d s c) = ⟨(hasS d).q + 1, s.b, s.i, s.e, s.u⟩ ∧ reaE (teR d s c) = 0 ∧ InvS (k + 1) (teR d s c) s true) ∨
     (((¬ (teR d s c).a = (teR d s 9223372036854775807).a) ∨ ((teR d s c).a = (teR d s 9223372036854775807).a ∧ ¬ (teR d s c).b = (teR d s 9223372036854775807).b)) ∧ hasS (teR d s c) = hasS d ∧ reaE (teR d s c) = reaE d ∧ InvS (k + 1) (teR d s c) la is)) := by
  have hq := h.q
  have hc : teE d s c = 0 := te_is (by omega) hm (by omega)
  obtain ⟨A, U, T, e1, e2, e3, u1, t1, t2, ⟨n0, n1, n2⟩, ho, hq0, hq1⟩ := step hf hc
  refine ⟨hc, e3, te_size hf ha hb (Nat.le_refl _), hq0, ?_⟩
  rcases ho with rfl | ⟨hne, m0, m1, m2⟩
  · refine .inl ⟨by rw [e1, e2], by rw [e1, n1], by rw [e1, n2], ?_⟩
    rw [e1]
    exact ⟨n0, by rw [n1]; simp only; omega, fun _ => by rw [n1], fun _ => by rw [n1], fun _ => by rw [n1], fun _ => by rw [n1]⟩
  · refine .inr ⟨?_, by rw [e1, m1], by rw [e1, m2], ?_⟩
    · rw [e1, e2]
      cases A with
      | true => exact .inl hne
      | false => exact .inr ⟨rfl, hne⟩
    · rw [e1]
      exact ⟨by rw [m0]; exact h.ok, by rw [m1]; omega, fun x => by rw [m1]; exact h.b x, fun x => by rw [m1]; exact h.i x, fun x => by rw [m1]; exact h.e x, fun x => by rw [m1]; exact h.u x⟩
end Go.Proofs.YtlpnhpnigljlnaaDoor
