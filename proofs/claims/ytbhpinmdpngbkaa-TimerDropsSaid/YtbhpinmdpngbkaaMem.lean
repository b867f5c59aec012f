/-
  What memory holds: timers of a slice.
-/
import Derived.Test.YtbhpinmdpngbkaaRows
import Derived.Test.YtbhpinmdpngbkaaMath
import Derived.Below
import Derived.WalkKit
import Derived.Lib.Hide
import Derived.Deep.Draws
import Derived.IntWalk
import Derived.Deep.RegionHeld3
import Derived.BigQuiet
import Derived.Deep.QuietTactic
import Derived.BigRegion
import Derived.RegionTactic
import Derived.Deep.DeepCutAuto
import Derived.StillTactics
import Derived.StillTailTactics
import Derived.OwnWalk
import Derived.Laws.AppendOwn
import Derived.Laws.OwnMore
import Derived.Lib.SliceRun
import Derived.Deep.AppendLies
import Derived.Deep.RegionLaw
namespace Go.Proofs.Ytbhpinmdpngbkaa
open Go.RowKit Go.Proofs.Ytbhpinmdpngbkaa.Pure

theorem block_add (a : Addr) (n : Nat) : (a.add n).block = a.block := by unfold Addr.add; split <;> rfl
theorem add_add (a : Addr) (i j : Nat) : (a.add i).add j = a.add (i + j) := by
  unfold Addr.add
  by_cases hi : i = 0 <;> by_cases hj : j = 0 <;> simp [hi, hj, Nat.add_assoc]

/-- The four cells from a on hold the timer x. -/
def At (w : World) (a : Addr) (x : Tm) : Prop :=
  w.cell? a = some (.int .i64 x.a) ∧ w.cell? (a.add 1) = some (.int .i64 x.k) ∧ w.cell? (a.add 2) = some (.int .i64 x.o) ∧ w.cell? (a.add 3) = some (.int .u64 x.n)

/-- The slice that begins at A holds the timers xs, in blocks from lo on, below hi. -/
def Has (w : World) (lo hi : Nat) (A : Option Addr) (xs : List Tm) : Prop :=
  ∀ j, j < xs.length → ∃ ad, A = some ad ∧ lo ≤ ad.block ∧ ad.block < hi ∧ At w (ad.add (j * 4)) (xs.getD j zt)

section
variable {w w' : World} {lo hi : Nat} {A : Option Addr} {xs : List Tm} {a : Addr} {x : Tm}
theorem At.keep (h : At w a x) (hk : ∀ p : Addr, p.block = a.block → w'.cell? p = w.cell? p) : At w' a x :=
  ⟨(hk _ rfl).trans h.1, (hk _ (block_add _ _)).trans h.2.1, (hk _ (block_add _ _)).trans h.2.2.1, (hk _ (block_add _ _)).trans h.2.2.2⟩
theorem Has.keep (h : Has w lo hi A xs) (hk : ∀ p : Addr, lo ≤ p.block → p.block < hi → w'.cell? p = w.cell? p) : Has w' lo hi A xs := fun j hj => by
  obtain ⟨ad, e, h1, h2, h3⟩ := h j hj
  exact ⟨ad, e, h1, h2, h3.keep fun p hp => hk p (by rw [hp, block_add]; exact h1) (by rw [hp, block_add]; exact h2)⟩
theorem Has.nil (w : World) (lo hi : Nat) (A : Option Addr) : Has w lo hi A [] := fun j hj => absurd hj (by simp)
theorem Has.on {B : Nat} (h : Has w lo hi A xs) (hb : Below B w w') (hB : hi ≤ B) : Has w' lo hi A xs := h.keep fun _ _ hp => hb.cell (by omega)
theorem Has.set (h : Has w lo hi A xs) {p : Addr} (hp : p.block < lo ∨ hi ≤ p.block) (u : Value) : Has (w.setCell p u) lo hi A xs :=
  h.keep fun q h1 h2 => World.cell?_setCell_other w p q u (fun e => by subst e; omega)
theorem Has.alloc (h : Has w lo hi A xs) (o : Obj) (hh : hi ≤ w.heap.size) : Has (w.alloc o) lo hi A xs := h.on ((Below.refl w.heap.size w).alloc (Nat.le_refl _) o) hh
theorem Has.drew (h : Has w lo hi A xs) : Has w.drew lo hi A xs := h
theorem Has.drewN (h : Has w lo hi A xs) (k : Nat) : Has (w.drewN k) lo hi A xs := h
theorem Has.wide (h : Has w lo hi A xs) {lo' hi' : Nat} (h1 : lo' ≤ lo) (h2 : hi ≤ hi') : Has w lo' hi' A xs := fun j hj => by
  obtain ⟨ad, e, a, b, c⟩ := h j hj
  exact ⟨ad, e, by omega, by omega, c⟩
theorem Has.take (h : Has w lo hi A xs) (k : Nat) : Has w lo hi A (xs.take k) := fun j hj => by
  have hj' : j < k ∧ j < xs.length := by rw [List.length_take] at hj; omega
  obtain ⟨ad, e, a, b, c⟩ := h j hj'.2
  refine ⟨ad, e, a, b, ?_⟩
  have : (xs.take k).getD j zt = xs.getD j zt := by simp [List.getD, hj'.1]
  rw [this]
  exact c
theorem Has.none_nil (h : Has w lo hi none xs) : xs = [] := by
  rcases xs with _ | ⟨x, r⟩
  · rfl
  · obtain ⟨ad, e, _⟩ := h 0 (by simp)
    cases e
end

theorem below_drewN {B : Nat} {a w : World} (h : Below B a w) (n : Nat) : Below B a (w.drewN n) := h.trans ⟨rfl, rfl, rfl, Nat.le_refl _, fun _ _ => rfl⟩
theorem ret_int {k : IntKind} {a b : Int} (h : a = b) : Ending.returned (.int k a) = .returned (.int k b) := by rw [h]

/-- A timer as a value. -/
def tv (x : Tm) : Value := .agg #[.int .i64 x.a, .int .i64 x.k, .int .i64 x.o, .int .u64 x.n]
/-- What was there is as it was. -/
theorem old {W w1 : World} (hb : Below W.heap.size W w1) : (∀ b o, b < W.heap.size → w1.cell? ⟨b, o, none⟩ = W.cell? ⟨b, o, none⟩) ∧ (∀ b o, b < W.heap.size → w1.frozen? ⟨b, o, none⟩ = W.frozen? ⟨b, o, none⟩) :=
  ⟨fun b _ h => World.cell?_of_block (hb.block b h), fun b _ h => World.frozen?_of_block (hb.block b h)⟩
end Go.Proofs.Ytbhpinmdpngbkaa
