/-
  The same as XSeq, where two operations that make memory may come either first: a plan of the orders.
-/
import Derived.Test.YtlefnohcfnlejaaSeq
namespace Go.Proofs.Ytlefnohcfnlejaa
open Go.Sort Go.RowKit

/-- A plan: what is taken, or run, and what follows; where two may come, either way. -/
inductive Plan where
  | done : Plan
  | take : Nat → Plan → Plan
  | one : Nat → Plan → Plan
  | two : Nat → Plan → Nat → Plan → Plan
/-- The plan with the operations themselves. -/
inductive WPlan where
  | done : WPlan
  | take : Oper → WPlan → WPlan
  | one : Oper → WPlan → WPlan
  | two : Oper → WPlan → Oper → WPlan → WPlan
def planB (ops : Array Oper) : Plan → Nat → Array Bool → Bool
  | .done, _, listed => decide (Region.ready .any ops listed = [])
  | .take _ _, 0, _ => false
  | .take i n, f + 1, listed => (Region.ready .any ops listed).contains i && Region.free .any ops listed i && planB ops n f (listed.setIfInBounds i true)
  | .one _ _, 0, _ => false
  | .one i n, f + 1, listed => decide (Region.ready .any ops listed = [i]) && planB ops n f (listed.setIfInBounds i true)
  | .two _ _ _ _, 0, _ => false
  | .two i n j m, f + 1, listed => decide (Region.ready .any ops listed = [i, j]) && planB ops n f (listed.setIfInBounds i true) && planB ops m f (listed.setIfInBounds j true)
def opAt (l : List Oper) (i : Nat) (d : Oper) : Oper := match l.drop i with
  | o :: _ => o
  | [] => d
def pickP (l : List Oper) (d : Oper) : Plan → WPlan
  | .done => .done
  | .take i n => .take (opAt l i d) (pickP l d n)
  | .one i n => .one (opAt l i d) (pickP l d n)
  | .two i n j m => .two (opAt l i d) (pickP l d n) (opAt l j d) (pickP l d m)

section
variable {P : Program} {ops : Array Oper} {Q : Exit → Act → World → Prop} {S : World → Prop}
/-- An operation that is run. -/
def wpMem (P : Program) (ops : Array Oper) (Q : Exit → Act → World → Prop) (S : World → Prop) (o : Oper) (K : Act → World → Prop) (a : Act) (w : World) : Prop :=
  if Region.wanted o (yielded ops a.tmps) = true then Oper.wp P o a w (fun a' w' => S w' ∧ K a' w') Q else K (a.put o.dst undef) w
def wpPlan (P : Program) (ops : Array Oper) (Q : Exit → Act → World → Prop) (S : World → Prop) : WPlan → Act → World → Prop
  | .done, a, w => Q .normal a w
  | .take o r, a, w => ∃ v, YieldsIf P ops S o v a ∧ wpPlan P ops Q S r (a.put o.dst v) w
  | .one o r, a, w => wpMem P ops Q S o (wpPlan P ops Q S r) a w
  | .two o r o' r', a, w => wpMem P ops Q S o (wpPlan P ops Q S r) a w ∧ wpMem P ops Q S o' (wpPlan P ops Q S r') a w

theorem opAt_ready {l : List Oper} {d : Oper} (hops : ops = l.toArray) {listed : Array Bool} {i : Nat} (hi : i ∈ Region.ready .any ops listed) : ops[i]? = some (opAt l i d) := by
  obtain ⟨_, o, ho, _⟩ := mem_ready.1 hi
  have ho' : l[i]? = some o := by rw [hops] at ho; simpa using ho
  obtain ⟨hlt, e⟩ := List.getElem?_eq_some_iff.1 ho'
  unfold opAt
  rw [List.drop_eq_getElem_cons hlt, e]
  exact ho
theorem mem_held {o : Oper} {i fuel : Nat} {listed : Array Bool} {K : Act → World → Prop} {a : Act} {w : World} (ho : ops[i]? = some o) (hS : S w)
    (hK : ∀ a w, S w → K a w → wpAnyH P .any ops Q S fuel (listed.setIfInBounds i true) a w) (h : wpMem P ops Q S o K a w) :
    wpOp P ops Q i (fun a' w' => S w' ∧ wpAnyH P .any ops Q S fuel (listed.setIfInBounds i true) a' w') a w := by
  unfold wpOp
  rw [ho]
  unfold wpMem at h
  simp only
  split
  · rename_i hw
    rw [if_pos hw] at h
    exact .inl (Oper.wp_mono (fun a1 w1 h1 => ⟨h1.1, hK _ _ h1.1 h1.2⟩) h)
  · rename_i hw
    rw [if_neg hw] at h
    exact ⟨hS, hK _ _ hS h⟩
theorem plan_held {l : List Oper} {d : Oper} (hops : ops = l.toArray) (hsel : Region.noSelect ops = true) (hQ : ∀ c a d v w, Q (.panic c) (a.put d v) w → Q (.panic c) a w) :
    ∀ (p : Plan) (f : Nat) (listed : Array Bool) (a : Act) (w : World), planB ops p f listed = true → S w → wpPlan P ops Q S (pickP l d p) a w → wpAnyH P .any ops Q S f listed a w := by
  intro p
  induction p with
  | done => exact fun f listed a w hB _ h => wpAnyH_done (by simpa [planB] using hB) h _
  | take i n ih =>
    intro f listed a w hB hS h
    cases f with
    | zero => simp [planB] at hB
    | succ f =>
      simp only [planB, Bool.and_eq_true] at hB
      obtain ⟨v, hy, h'⟩ := h
      exact wpAnyH_take (opAt_ready hops (by simpa using hB.1.1)) hsel hB.1.2 hB.1.1 (fun c a w => hQ c a _ _ w) hy hS (ih _ _ _ _ hB.2 hS h')
  | one i n ih =>
    intro f listed a w hB hS h
    cases f with
    | zero => simp [planB] at hB
    | succ f =>
      simp only [planB, Bool.and_eq_true, decide_eq_true_eq] at hB
      refine wpAnyH_all hB.1 (by simp) fun j hj => ?_
      obtain rfl : j = i := by simpa using hj
      exact mem_held (opAt_ready hops (by rw [hB.1]; simp)) hS (fun a w hS hk => ih _ _ _ _ hB.2 hS hk) h
  | two i n j m ih ih' =>
    intro f listed a w hB hS h
    cases f with
    | zero => simp [planB] at hB
    | succ f =>
      simp only [planB, Bool.and_eq_true, decide_eq_true_eq] at hB
      refine wpAnyH_all hB.1.1 (by simp) fun k hk => ?_
      have hk' : k = i ∨ k = j := by simpa using hk
      rcases hk' with rfl | rfl
      · exact mem_held (opAt_ready hops (by rw [hB.1.1]; simp)) hS (fun a w hS hk => ih _ _ _ _ hB.1.2 hS hk) h.1
      · exact mem_held (opAt_ready hops (by rw [hB.1.1]; simp)) hS (fun a w hS hk => ih' _ _ _ _ hB.2 hS hk) h.2

/-- The region, entered: a plan of its orders, and what the worlds on the way meet. -/
theorem p_enter {id : Nat} {a : Act} {w : World} {o : Oper} {l : List Oper} (p : Plan) (S : World → Prop) (hm : P.follows .mixedOrders = true) (hsel : Region.noSelect (o :: l).toArray = true)
    (hB : planB (o :: l).toArray p (o :: l).length (Array.replicate (o :: l).length false) = true) (hQ : ∀ c a d v w, Q (.panic c) (a.put d v) w → Q (.panic c) a w) (hS : S w.drew)
    (h : Shut (wpPlan P (o :: l).toArray Q S (pickP (o :: l) o p) a w.drew)) : (Code.region id (o :: l).toArray true).wp P Q a w := by
  refine wp_region_held (S := S) hm ?_
  have := plan_held (P := P) (Q := Q) (S := S) (l := o :: l) (d := o) rfl hsel hQ p (o :: l).length (Array.replicate (o :: l).length false) a w.drew hB hS h.out
  simpa using this
theorem p_yes {a : Act} {w : World} {o : Oper} {r : WPlan} (v : Value) (hw : Region.wanted o (yielded ops a.tmps) = true) (hy : ∀ w', S w' → (execOp a.eval o).run P w' = .ok (.value v) w')
    (h : Shut (wpPlan P ops Q S r (a.put o.dst v) w)) : Shut (wpPlan P ops Q S (.take o r) a w) := ⟨⟨v, .inl ⟨hw, hy⟩, h.out⟩⟩
theorem p_no {a : Act} {w : World} {o : Oper} {r : WPlan} (hw : Region.wanted o (yielded ops a.tmps) = false)
    (h : Shut (wpPlan P ops Q S r (a.put o.dst undef) w)) : Shut (wpPlan P ops Q S (.take o r) a w) := ⟨⟨undef, .inr ⟨hw, rfl⟩, h.out⟩⟩
theorem mem_step {a : Act} {w : World} {o : Oper} {r : WPlan}
    (h : ∀ K : Act → World → Prop, Hid (∀ a w, S w → Shut (wpPlan P ops Q S r a w) → K a w) → if Region.wanted o (yielded ops a.tmps) = true then Oper.wp P o a w K Q else Shut (wpPlan P ops Q S r (a.put o.dst undef) w)) :
    wpMem P ops Q S o (wpPlan P ops Q S r) a w := by
  have h1 := h (fun a' w' => S w' ∧ wpPlan P ops Q S r a' w') (Lib.hid fun a w hS hh => ⟨hS, hh.out⟩)
  unfold wpMem
  split at h1
  · rename_i hw; rw [if_pos hw]; exact h1
  · rename_i hw; rw [if_neg hw]; exact h1.out
theorem p_one {a : Act} {w : World} {o : Oper} {r : WPlan}
    (h : ∀ K : Act → World → Prop, Hid (∀ a w, S w → Shut (wpPlan P ops Q S r a w) → K a w) → if Region.wanted o (yielded ops a.tmps) = true then Oper.wp P o a w K Q else Shut (wpPlan P ops Q S r (a.put o.dst undef) w)) :
    Shut (wpPlan P ops Q S (.one o r) a w) := ⟨mem_step h⟩
theorem p_two {a : Act} {w : World} {o o' : Oper} {r r' : WPlan}
    (h : ∀ K : Act → World → Prop, Hid (∀ a w, S w → Shut (wpPlan P ops Q S r a w) → K a w) → if Region.wanted o (yielded ops a.tmps) = true then Oper.wp P o a w K Q else Shut (wpPlan P ops Q S r (a.put o.dst undef) w))
    (h' : ∀ K : Act → World → Prop, Hid (∀ a w, S w → Shut (wpPlan P ops Q S r' a w) → K a w) → if Region.wanted o' (yielded ops a.tmps) = true then Oper.wp P o' a w K Q else Shut (wpPlan P ops Q S r' (a.put o'.dst undef) w)) :
    Shut (wpPlan P ops Q S (.two o r o' r') a w) := ⟨⟨mem_step h, mem_step h'⟩⟩
theorem p_done {a : Act} {w : World} (h : Q .normal a w) : Shut (wpPlan P ops Q S .done a w) := ⟨h⟩
end
end Go.Proofs.Ytlefnohcfnlejaa
