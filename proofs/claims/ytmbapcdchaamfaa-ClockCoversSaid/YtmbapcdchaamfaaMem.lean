/-
  What memory holds: beats of a slice, counts.
-/
import Derived.Test.YtmbapcdchaamfaaRows
import Derived.Test.YtmbapcdchaamfaaMath
import Derived.Below
import Derived.WalkKit
import Derived.Lib.Hide
import Derived.Deep.Draws
import Derived.IntWalk
import Derived.Deep.RegionHeld3
import Derived.BigQuiet
import Derived.Deep.QuietTactic
import Derived.BigRegion
import Derived.RegionTactic
import Derived.Deep.DeepCutAuto
import Derived.StillTactics
import Derived.StillTailTactics
import Derived.OwnWalk
import Derived.Laws.AppendOwn
import Derived.Laws.OwnMore
import Derived.Maps.AppendAt
import Derived.Lib.SliceRun
import Derived.Lib.QuietBelow
import Derived.Deep.AppendLies
import Derived.Deep.RegionLaw
namespace Go.Proofs.Ytmbapcdchaamfaa
open Go.Sort Go.RowKit Go.Proofs.Ytmbapcdchaamfaa.Pure

theorem block_add (a : Addr) (n : Nat) : (a.add n).block = a.block := by unfold Addr.add; split <;> rfl
theorem add_add (a : Addr) (i j : Nat) : (a.add i).add j = a.add (i + j) := by
  unfold Addr.add
  by_cases hi : i = 0 <;> by_cases hj : j = 0 <;> simp [hi, hj, Nat.add_assoc]

/-- The two cells from a on hold the beat x. -/
def BAt (w : World) (a : Addr) (x : Bt) : Prop := w.cell? a = some (.int .i64 x.n) ∧ w.cell? (a.add 1) = some (.int .i64 x.k)
/-- The slice that begins at A holds the beats l. -/
def Lst (w : World) (A : Option Addr) (l : List Bt) : Prop := ∀ j, j < l.length → ∃ ad, A = some ad ∧ ad.block < w.heap.size ∧ BAt w (ad.add (j * 2)) (bt l j)
/-- The three cells from o on, in block b, hold the count c. -/
def CAt (w : World) (b o : Nat) (c : Ct) : Prop := w.cell? ⟨b, o, none⟩ = some (.int .i64 c.t) ∧ w.cell? ⟨b, o + 1, none⟩ = some (.int .i64 c.f) ∧ w.cell? ⟨b, o + 2, none⟩ = some (.bool c.d)
/-- A count as a value. -/
def cv (c : Ct) : Value := .agg #[.int .i64 c.t, .int .i64 c.f, .bool c.d]

section
variable {w w' : World} {A : Option Addr} {l : List Bt} {a : Addr} {x : Bt} {c : Ct} {b o : Nat}
theorem BAt.flat (h : BAt w a x) : w.cell? a = some (.int .i64 x.n) ∧ w.cell? ⟨a.block, a.off + 1, none⟩ = some (.int .i64 x.k) := h
theorem Lst.on (h : Lst w A l) (hb : Below w.heap.size w w') : Lst w' A l := fun j hj => by
  obtain ⟨ad, e, h1, h2, h3⟩ := h j hj
  have hs := hb.size
  exact ⟨ad, e, by omega, (hb.cell (by rw [block_add]; exact h1)).trans h2, (hb.cell (by rw [block_add, block_add]; exact h1)).trans h3⟩
theorem Lst.drew (h : Lst w A l) : Lst w.drew A l := h
theorem Lst.alloc (h : Lst w A l) (o : Obj) : Lst (w.alloc o) A l := h.on ((Below.refl _ _).alloc (Nat.le_refl _) o)
theorem Lst.take (h : Lst w A l) (k : Nat) : Lst w A (l.take k) := fun j hj => by
  rw [List.length_take] at hj
  obtain ⟨ad, e, h1, h2⟩ := h j (by omega)
  refine ⟨ad, e, h1, ?_⟩
  rw [bt_take l k j (by omega)]
  exact h2
theorem Lst.nil (w : World) (A : Option Addr) : Lst w A [] := fun j hj => absurd hj (by simp)
theorem CAt.lt (h : CAt w b o c) : b < w.heap.size := World.block_lt_of_cell? w _ h.1
theorem CAt.keep (h : CAt w b o c) (hk : w'.heap[b]? = w.heap[b]?) : CAt w' b o c :=
  ⟨(World.cell?_of_block (a := ⟨b, o, none⟩) hk).trans h.1, (World.cell?_of_block (a := ⟨b, o + 1, none⟩) hk).trans h.2.1, (World.cell?_of_block (a := ⟨b, o + 2, none⟩) hk).trans h.2.2⟩
end

theorem below_drewN {B : Nat} {a w : World} (h : Below B a w) (n : Nat) : Below B a (w.drewN n) := h.trans ⟨rfl, rfl, rfl, Nat.le_refl _, fun _ _ => rfl⟩
theorem ret_int {k : IntKind} {a b : Int} (h : a = b) : Ending.returned (.int k a) = .returned (.int k b) := by rw [h]
/-- What was there is as it was. -/
theorem old {W w1 : World} (hb : Below W.heap.size W w1) : (∀ b o, b < W.heap.size → w1.cell? ⟨b, o, none⟩ = W.cell? ⟨b, o, none⟩) ∧ (∀ b o, b < W.heap.size → w1.frozen? ⟨b, o, none⟩ = W.frozen? ⟨b, o, none⟩) :=
  ⟨fun b _ h => World.cell?_of_block (hb.block b h), fun b _ h => World.frozen?_of_block (hb.block b h)⟩
/-- OK, or ErrArg. -/
def okE (L : Bool) : Int := if L then 0 else 1

/-! ### regions that read, beside calls that make memory -/
/-- What is still to be walked, held shut: nothing reckons in it. -/
structure Shut (p : Prop) : Prop where
  out : p
theorem q_enter {P : Program} {id : Nat} {Q : Exit → Act → World → Prop} {a : Act} {w : World} {l : List Oper} (hm : P.follows .mixedOrders = true) (hB : Region.lexB .any l.toArray = true)
    (h : Shut (wpQuiet P l.toArray (fun w' => ∃ p : Regrown, w' = grow (redrawn w p.d) p.os) (fun a' => ∀ w', Below w.heap.size w w' → Q .normal a' w') l a)) : (Code.region id l.toArray true).wp P Q a w :=
  wp_region_quiet (C := fun w' => ∃ p : Regrown, w' = grow (redrawn w p.d) p.os) hm hB ⟨⟨w.drawn + 1, #[]⟩, by rw [grow_empty]; rfl⟩ (by
    have h' := h.out
    have : (fun a' => ∀ w', Below w.heap.size w w' → Q .normal a' w') = fun a' => ∀ w', (∃ p : Regrown, w' = grow (redrawn w p.d) p.os) → Q .normal a' w' := by
      funext a'
      apply propext
      exact ⟨fun h w' ⟨p, e⟩ => h w' (by rw [e]; exact below_regrown w p.d p.os), fun h w' hb => h w' (regrown_of_below hb)⟩
    rw [this] at h'
    simpa using h')
theorem q_step {P : Program} {ops : Array Oper} {C : World → Prop} {Q : Act → Prop} {a : Act} {o : Oper} {rest : List Oper}
    (h : ∀ K : Act → Prop, (∀ a, Shut (wpQuiet P ops C Q rest a) → K a) → if Region.wanted o (yielded ops a.tmps) then o.quiet P a C K else K (a.put o.dst undef)) : Shut (wpQuiet P ops C Q (o :: rest) a) :=
  ⟨wpQuiet_step fun K hK => h K fun a ha => hK a ha.out⟩
theorem q_nil {P : Program} {ops : Array Oper} {C : World → Prop} {Q : Act → Prop} {a : Act} (h : Q a) : Shut (wpQuiet P ops C Q [] a) := ⟨wpQuiet_nil h⟩
end Go.Proofs.Ytmbapcdchaamfaa
