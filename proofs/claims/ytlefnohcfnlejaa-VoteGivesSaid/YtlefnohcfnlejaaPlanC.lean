/-
  The same as XPlan, where three operations that make memory may come first.
-/
import Derived.Test.YtlefnohcfnlejaaPlan
namespace Go.Proofs.Ytlefnohcfnlejaa
open Go.Sort Go.RowKit

/-- A plan: what is taken, or run, and what follows; where two may come, either way. -/
inductive Plan3 where
  | done : Plan3
  | take : Nat → Plan3 → Plan3
  | one : Nat → Plan3 → Plan3
  | two : Nat → Plan3 → Nat → Plan3 → Plan3
  | three : Nat → Plan3 → Nat → Plan3 → Nat → Plan3 → Plan3
/-- The plan with the operations themselves. -/
inductive WPlanC where
  | done : WPlanC
  | take : Oper → WPlanC → WPlanC
  | one : Oper → WPlanC → WPlanC
  | two : Oper → WPlanC → Oper → WPlanC → WPlanC
  | three : Oper → WPlanC → Oper → WPlanC → Oper → WPlanC → WPlanC
def plan3B (ops : Array Oper) : Plan3 → Nat → Array Bool → Bool
  | .done, _, listed => decide (Region.ready .any ops listed = [])
  | .take _ _, 0, _ => false
  | .take i n, f + 1, listed => (Region.ready .any ops listed).contains i && Region.free .any ops listed i && plan3B ops n f (listed.setIfInBounds i true)
  | .one _ _, 0, _ => false
  | .one i n, f + 1, listed => decide (Region.ready .any ops listed = [i]) && plan3B ops n f (listed.setIfInBounds i true)
  | .two _ _ _ _, 0, _ => false
  | .two i n j m, f + 1, listed => decide (Region.ready .any ops listed = [i, j]) && plan3B ops n f (listed.setIfInBounds i true) && plan3B ops m f (listed.setIfInBounds j true)
  | .three _ _ _ _ _ _, 0, _ => false
  | .three i n j m k o, f + 1, listed => decide (Region.ready .any ops listed = [i, j, k]) && plan3B ops n f (listed.setIfInBounds i true) && plan3B ops m f (listed.setIfInBounds j true) && plan3B ops o f (listed.setIfInBounds k true)
def pick3 (l : List Oper) (d : Oper) : Plan3 → WPlanC
  | .done => .done
  | .take i n => .take (opAt l i d) (pick3 l d n)
  | .one i n => .one (opAt l i d) (pick3 l d n)
  | .two i n j m => .two (opAt l i d) (pick3 l d n) (opAt l j d) (pick3 l d m)
  | .three i n j m k o => .three (opAt l i d) (pick3 l d n) (opAt l j d) (pick3 l d m) (opAt l k d) (pick3 l d o)

section
variable {P : Program} {ops : Array Oper} {Q : Exit → Act → World → Prop} {S : World → Prop}
def wpPlan3 (P : Program) (ops : Array Oper) (Q : Exit → Act → World → Prop) (S : World → Prop) : WPlanC → Act → World → Prop
  | .done, a, w => Q .normal a w
  | .take o r, a, w => ∃ v, YieldsIf P ops S o v a ∧ wpPlan3 P ops Q S r (a.put o.dst v) w
  | .one o r, a, w => wpMem P ops Q S o (wpPlan3 P ops Q S r) a w
  | .two o r o' r', a, w => wpMem P ops Q S o (wpPlan3 P ops Q S r) a w ∧ wpMem P ops Q S o' (wpPlan3 P ops Q S r') a w
  | .three o r o' r' o2 r2, a, w => wpMem P ops Q S o (wpPlan3 P ops Q S r) a w ∧ wpMem P ops Q S o' (wpPlan3 P ops Q S r') a w ∧ wpMem P ops Q S o2 (wpPlan3 P ops Q S r2) a w

theorem plan3_held {l : List Oper} {d : Oper} (hops : ops = l.toArray) (hsel : Region.noSelect ops = true) (hQ : ∀ c a d v w, Q (.panic c) (a.put d v) w → Q (.panic c) a w) :
    ∀ (p : Plan3) (f : Nat) (listed : Array Bool) (a : Act) (w : World), plan3B ops p f listed = true → S w → wpPlan3 P ops Q S (pick3 l d p) a w → wpAnyH P .any ops Q S f listed a w := by
  intro p
  induction p with
  | done => exact fun f listed a w hB _ h => wpAnyH_done (by simpa [plan3B] using hB) h _
  | take i n ih =>
    intro f listed a w hB hS h
    cases f with
    | zero => simp [plan3B] at hB
    | succ f =>
      simp only [plan3B, Bool.and_eq_true] at hB
      obtain ⟨v, hy, h'⟩ := h
      exact wpAnyH_take (opAt_ready hops (by simpa using hB.1.1)) hsel hB.1.2 hB.1.1 (fun c a w => hQ c a _ _ w) hy hS (ih _ _ _ _ hB.2 hS h')
  | one i n ih =>
    intro f listed a w hB hS h
    cases f with
    | zero => simp [plan3B] at hB
    | succ f =>
      simp only [plan3B, Bool.and_eq_true, decide_eq_true_eq] at hB
      refine wpAnyH_all hB.1 (by simp) fun j hj => ?_
      obtain rfl : j = i := by simpa using hj
      exact mem_held (opAt_ready hops (by rw [hB.1]; simp)) hS (fun a w hS hk => ih _ _ _ _ hB.2 hS hk) h
  | two i n j m ih ih' =>
    intro f listed a w hB hS h
    cases f with
    | zero => simp [plan3B] at hB
    | succ f =>
      simp only [plan3B, Bool.and_eq_true, decide_eq_true_eq] at hB
      refine wpAnyH_all hB.1.1 (by simp) fun k hk => ?_
      have hk' : k = i ∨ k = j := by simpa using hk
      rcases hk' with rfl | rfl
      · exact mem_held (opAt_ready hops (by rw [hB.1.1]; simp)) hS (fun a w hS hk => ih _ _ _ _ hB.1.2 hS hk) h.1
      · exact mem_held (opAt_ready hops (by rw [hB.1.1]; simp)) hS (fun a w hS hk => ih' _ _ _ _ hB.2 hS hk) h.2
  | three i n j m k o ih ih' ih2 =>
    intro f listed a w hB hS h
    cases f with
    | zero => simp [plan3B] at hB
    | succ f =>
      simp only [plan3B, Bool.and_eq_true, decide_eq_true_eq] at hB
      refine wpAnyH_all hB.1.1.1 (by simp) fun x hx => ?_
      have hx' : x = i ∨ x = j ∨ x = k := by simpa using hx
      rcases hx' with rfl | rfl | rfl
      · exact mem_held (opAt_ready hops (by rw [hB.1.1.1]; simp)) hS (fun a w hS hk => ih _ _ _ _ hB.1.1.2 hS hk) h.1
      · exact mem_held (opAt_ready hops (by rw [hB.1.1.1]; simp)) hS (fun a w hS hk => ih' _ _ _ _ hB.1.2 hS hk) h.2.1
      · exact mem_held (opAt_ready hops (by rw [hB.1.1.1]; simp)) hS (fun a w hS hk => ih2 _ _ _ _ hB.2 hS hk) h.2.2

/-- The region, entered: a plan of its orders, and what the worlds on the way meet. -/
theorem p3_enter {id : Nat} {a : Act} {w : World} {o : Oper} {l : List Oper} (p : Plan3) (S : World → Prop) (hm : P.follows .mixedOrders = true) (hsel : Region.noSelect (o :: l).toArray = true)
    (hB : plan3B (o :: l).toArray p (o :: l).length (Array.replicate (o :: l).length false) = true) (hQ : ∀ c a d v w, Q (.panic c) (a.put d v) w → Q (.panic c) a w) (hS : S w.drew)
    (h : Shut (wpPlan3 P (o :: l).toArray Q S (pick3 (o :: l) o p) a w.drew)) : (Code.region id (o :: l).toArray true).wp P Q a w := by
  refine wp_region_held (S := S) hm ?_
  have := plan3_held (P := P) (Q := Q) (S := S) (l := o :: l) (d := o) rfl hsel hQ p (o :: l).length (Array.replicate (o :: l).length false) a w.drew hB hS h.out
  simpa using this
theorem p3_yes {a : Act} {w : World} {o : Oper} {r : WPlanC} (v : Value) (hw : Region.wanted o (yielded ops a.tmps) = true) (hy : ∀ w', S w' → (execOp a.eval o).run P w' = .ok (.value v) w')
    (h : Shut (wpPlan3 P ops Q S r (a.put o.dst v) w)) : Shut (wpPlan3 P ops Q S (.take o r) a w) := ⟨⟨v, .inl ⟨hw, hy⟩, h.out⟩⟩
theorem p3_no {a : Act} {w : World} {o : Oper} {r : WPlanC} (hw : Region.wanted o (yielded ops a.tmps) = false)
    (h : Shut (wpPlan3 P ops Q S r (a.put o.dst undef) w)) : Shut (wpPlan3 P ops Q S (.take o r) a w) := ⟨⟨undef, .inr ⟨hw, rfl⟩, h.out⟩⟩
theorem mem3 {a : Act} {w : World} {o : Oper} {r : WPlanC}
    (h : ∀ K : Act → World → Prop, Hid (∀ a w, S w → Shut (wpPlan3 P ops Q S r a w) → K a w) → if Region.wanted o (yielded ops a.tmps) = true then Oper.wp P o a w K Q else Shut (wpPlan3 P ops Q S r (a.put o.dst undef) w)) :
    wpMem P ops Q S o (wpPlan3 P ops Q S r) a w := by
  have h1 := h (fun a' w' => S w' ∧ wpPlan3 P ops Q S r a' w') (Lib.hid fun a w hS hh => ⟨hS, hh.out⟩)
  unfold wpMem
  split at h1
  · rename_i hw; rw [if_pos hw]; exact h1
  · rename_i hw; rw [if_neg hw]; exact h1.out
theorem p3_one {a : Act} {w : World} {o : Oper} {r : WPlanC}
    (h : ∀ K : Act → World → Prop, Hid (∀ a w, S w → Shut (wpPlan3 P ops Q S r a w) → K a w) → if Region.wanted o (yielded ops a.tmps) = true then Oper.wp P o a w K Q else Shut (wpPlan3 P ops Q S r (a.put o.dst undef) w)) :
    Shut (wpPlan3 P ops Q S (.one o r) a w) := ⟨mem3 h⟩
theorem p3_two {a : Act} {w : World} {o o' : Oper} {r r' : WPlanC}
    (h : ∀ K : Act → World → Prop, Hid (∀ a w, S w → Shut (wpPlan3 P ops Q S r a w) → K a w) → if Region.wanted o (yielded ops a.tmps) = true then Oper.wp P o a w K Q else Shut (wpPlan3 P ops Q S r (a.put o.dst undef) w))
    (h' : ∀ K : Act → World → Prop, Hid (∀ a w, S w → Shut (wpPlan3 P ops Q S r' a w) → K a w) → if Region.wanted o' (yielded ops a.tmps) = true then Oper.wp P o' a w K Q else Shut (wpPlan3 P ops Q S r' (a.put o'.dst undef) w)) :
    Shut (wpPlan3 P ops Q S (.two o r o' r') a w) := ⟨⟨mem3 h, mem3 h'⟩⟩
theorem p3_three {a : Act} {w : World} {o o' o2 : Oper} {r r' r2 : WPlanC}
    (h : ∀ K : Act → World → Prop, Hid (∀ a w, S w → Shut (wpPlan3 P ops Q S r a w) → K a w) → if Region.wanted o (yielded ops a.tmps) = true then Oper.wp P o a w K Q else Shut (wpPlan3 P ops Q S r (a.put o.dst undef) w))
    (h' : ∀ K : Act → World → Prop, Hid (∀ a w, S w → Shut (wpPlan3 P ops Q S r' a w) → K a w) → if Region.wanted o' (yielded ops a.tmps) = true then Oper.wp P o' a w K Q else Shut (wpPlan3 P ops Q S r' (a.put o'.dst undef) w))
    (h2 : ∀ K : Act → World → Prop, Hid (∀ a w, S w → Shut (wpPlan3 P ops Q S r2 a w) → K a w) → if Region.wanted o2 (yielded ops a.tmps) = true then Oper.wp P o2 a w K Q else Shut (wpPlan3 P ops Q S r2 (a.put o2.dst undef) w)) :
    Shut (wpPlan3 P ops Q S (.three o r o' r' o2 r2) a w) := ⟨⟨mem3 h, mem3 h', mem3 h2⟩⟩
theorem p3_done {a : Act} {w : World} (h : Q .normal a w) : Shut (wpPlan3 P ops Q S .done a w) := ⟨h⟩
end
end Go.Proofs.Ytlefnohcfnlejaa
