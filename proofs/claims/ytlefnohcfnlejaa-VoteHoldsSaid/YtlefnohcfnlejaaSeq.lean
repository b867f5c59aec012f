/-
  A region that draws its order, in which whatever writes or makes memory comes in one order alone: walked once, in an order that is given; what only reads is taken as soon as it may come.
-/
import Derived.Test.YtlefnohcfnlejaaQt
namespace Go.Proofs.Ytlefnohcfnlejaa
open Go.Sort Go.RowKit

/-- Is this order one that may be walked: (i, true): number i only reads, and nobody else touches its temporary; (i, false): nobody else may come now. -/
def seqB (ops : Array Oper) : List (Nat × Bool) → Array Bool → Bool
  | [], listed => decide (Region.ready .any ops listed = [])
  | (i, true) :: r, listed => (Region.ready .any ops listed).contains i && Region.free .any ops listed i && seqB ops r (listed.setIfInBounds i true)
  | (i, false) :: r, listed => decide (Region.ready .any ops listed = [i]) && seqB ops r (listed.setIfInBounds i true)
/-- The operations in that order. -/
def pickL (l : List Oper) : List (Nat × Bool) → List (Bool × Oper)
  | [] => []
  | (i, b) :: r => match l.drop i with
    | o :: _ => (b, o) :: pickL l r
    | [] => pickL l r

section
variable {P : Program} {ops : Array Oper} {Q : Exit → Act → World → Prop} {S : World → Prop}
/-- The walk. -/
def wpSeq (P : Program) (ops : Array Oper) (Q : Exit → Act → World → Prop) (S : World → Prop) : List (Bool × Oper) → Act → World → Prop
  | [], a, w => Q .normal a w
  | (true, o) :: r, a, w => ∃ v, YieldsIf P ops S o v a ∧ wpSeq P ops Q S r (a.put o.dst v) w
  | (false, o) :: r, a, w => if Region.wanted o (yielded ops a.tmps) = true then Oper.wp P o a w (fun a' w' => S w' ∧ wpSeq P ops Q S r a' w') Q else wpSeq P ops Q S r (a.put o.dst undef) w

theorem seq_held {l : List Oper} (hops : ops = l.toArray) (hsel : Region.noSelect ops = true) (hQ : ∀ c a d v w, Q (.panic c) (a.put d v) w → Q (.panic c) a w) :
    ∀ (p : List (Nat × Bool)) (listed : Array Bool) (a : Act) (w : World), seqB ops p listed = true → S w → wpSeq P ops Q S (pickL l p) a w → wpAnyH P .any ops Q S p.length listed a w := by
  intro p
  induction p with
  | nil => exact fun listed a w hB _ h => wpAnyH_done (by simpa [seqB] using hB) h _
  | cons x r ih =>
    obtain ⟨i, b⟩ := x
    intro listed a w hB hS h
    have hex : i ∈ Region.ready .any ops listed → ∃ o rest, l.drop i = o :: rest ∧ ops[i]? = some o := fun hi => by
      obtain ⟨_, o, ho, _⟩ := mem_ready.1 hi
      have ho' : l[i]? = some o := by rw [hops] at ho; simpa using ho
      obtain ⟨hlt, e⟩ := List.getElem?_eq_some_iff.1 ho'
      exact ⟨o, l.drop (i + 1), by rw [List.drop_eq_getElem_cons hlt, e], ho⟩
    cases b with
    | true =>
      simp only [seqB, Bool.and_eq_true] at hB
      obtain ⟨o, rest, hd, ho⟩ := hex (by simpa using hB.1.1)
      simp only [pickL, hd] at h
      obtain ⟨v, hy, h'⟩ := h
      exact wpAnyH_take ho hsel hB.1.2 hB.1.1 (fun c a w => hQ c a _ _ w) hy hS (ih _ _ _ hB.2 hS h')
    | false =>
      simp only [seqB, Bool.and_eq_true, decide_eq_true_eq] at hB
      obtain ⟨o, rest, hd, ho⟩ := hex (by rw [hB.1]; simp)
      simp only [pickL, hd] at h
      refine wpAnyH_all hB.1 (by simp) fun j hj => ?_
      obtain rfl : j = i := by simpa using hj
      unfold wpOp
      rw [ho]
      simp only [wpSeq] at h
      simp only
      split
      · rename_i hw
        rw [if_pos hw] at h
        exact .inl (Oper.wp_mono (fun a1 w1 h1 => ⟨h1.1, ih _ _ _ hB.2 h1.1 h1.2⟩) h)
      · rename_i hw
        rw [if_neg hw] at h
        exact ⟨hS, ih _ _ _ hB.2 hS h⟩

/-- The region, entered: an order of its operations, and what the worlds on the way meet. -/
theorem z_enter {id : Nat} {a : Act} {w : World} {l : List Oper} (p : List (Nat × Bool)) (S : World → Prop) (hm : P.follows .mixedOrders = true) (hsel : Region.noSelect l.toArray = true)
    (hB : (decide (p.length = l.length) && seqB l.toArray p (Array.replicate l.length false)) = true) (hQ : ∀ c a d v w, Q (.panic c) (a.put d v) w → Q (.panic c) a w) (hS : S w.drew)
    (h : Shut (wpSeq P l.toArray Q S (pickL l p) a w.drew)) : (Code.region id l.toArray true).wp P Q a w := by
  simp only [Bool.and_eq_true, decide_eq_true_eq] at hB
  refine wp_region_held (S := S) hm ?_
  have := seq_held (P := P) (Q := Q) (S := S) (l := l) rfl hsel hQ p (Array.replicate l.length false) a w.drew hB.2 hS h.out
  rw [hB.1] at this
  simpa using this
theorem z_yes {a : Act} {w : World} {o : Oper} {r : List (Bool × Oper)} (v : Value) (hw : Region.wanted o (yielded ops a.tmps) = true) (hy : ∀ w', S w' → (execOp a.eval o).run P w' = .ok (.value v) w')
    (h : Shut (wpSeq P ops Q S r (a.put o.dst v) w)) : Shut (wpSeq P ops Q S ((true, o) :: r) a w) := ⟨⟨v, .inl ⟨hw, hy⟩, h.out⟩⟩
theorem z_no {a : Act} {w : World} {o : Oper} {r : List (Bool × Oper)} (hw : Region.wanted o (yielded ops a.tmps) = false)
    (h : Shut (wpSeq P ops Q S r (a.put o.dst undef) w)) : Shut (wpSeq P ops Q S ((true, o) :: r) a w) := ⟨⟨undef, .inr ⟨hw, rfl⟩, h.out⟩⟩
theorem z_mem {a : Act} {w : World} {o : Oper} {r : List (Bool × Oper)}
    (h : ∀ K : Act → World → Prop, Hid (∀ a w, S w → Shut (wpSeq P ops Q S r a w) → K a w) → if Region.wanted o (yielded ops a.tmps) = true then Oper.wp P o a w K Q else Shut (wpSeq P ops Q S r (a.put o.dst undef) w)) : Shut (wpSeq P ops Q S ((false, o) :: r) a w) := by
  have h1 := h (fun a' w' => S w' ∧ wpSeq P ops Q S r a' w') (Lib.hid fun a w hS hh => ⟨hS, hh.out⟩)
  refine ⟨?_⟩
  unfold wpSeq
  split at h1
  · rename_i hw; rw [if_pos hw]; exact h1
  · rename_i hw; rw [if_neg hw]; exact h1.out
theorem z_nil {a : Act} {w : World} (h : Q .normal a w) : Shut (wpSeq P ops Q S [] a w) := ⟨h⟩
end
end Go.Proofs.Ytlefnohcfnlejaa
