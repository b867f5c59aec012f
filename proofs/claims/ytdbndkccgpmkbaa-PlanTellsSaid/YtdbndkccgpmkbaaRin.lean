/-
  In a round of a loop over a function, under the wide fence, a region is walked as anywhere: what is shown of it by the plain laws serves.
-/
import Derived.Test.YtdbndkccgpmkbaaLf
import Derived.Test.YtdbndkccgpmkbaaPlanC
import Derived.RangeFuncNested
import Derived.RangeFuncBound
import Derived.RangeFuncCalls
import Derived.RangeFuncLeaves
import Derived.RangeFuncBox
import Derived.Shelf.Abstract
import Derived.Shelf.RegionOpen
import Derived.OwnWalkIn
import Derived.TacticsInMore
import Derived.LoopNIn
import Derived.LoopIn
import Derived.OrdersIn
import Derived.Sort.CutIn
import Derived.Maps.AppendAt
namespace Go.Proofs.Ytdbndkccgpmkbaa
open Go.Sort Go.RowKit

/-- No deferred call stands among them. -/
def calmB (l : List Oper) : Bool := l.all fun o => match o.op with | .defer _ => false | _ => true
theorem calm_at {l : List Oper} (h : calmB l = true) {o : Oper} (ho : o ∈ l) : ∀ c, o.op ≠ .defer c := by
  intro c e
  have := List.all_eq_true.1 h o ho
  simp [e] at this
abbrev rnd (l : Nat) : Fence := Fence.wide.inRound l
section
variable {n lo : Nat} {P : Program} {ops : Array Oper} {Q : Exit → Act → World → Prop}
theorem callsIn_rnd {f : FuncId} {args : Array Value} {w : World} {R : Ending → World → Prop} (h : Calls P f args w R) : CallsIn (rnd lo) n P f args w R := CallsIn.inRound lo (callsIn_wide.2 h)
theorem rows_rnd {row : String} {args : Array Value} {w : World} {R : Value → World → Prop} (h : Rows P row args w R) : RowsIn (rnd lo) n P row args w R :=
  fun c cs _ => let ⟨v, w', r, s⟩ := h c cs; ⟨v, w', r, stepsIn_wide.2 s⟩
theorem oper_rnd {o : Oper} (hd : ∀ c, o.op ≠ .defer c) {a : Act} {w : World} {K : Act → World → Prop} (h : o.wp P a w K Q) : o.wpIn (rnd lo) n P a w K Q := by
  unfold Oper.wpIn Oper.wp at *
  refine ⟨fun _ _ => trivial, ?_⟩
  rw [Oper.semAt_eq _ _ _ hd]
  generalize (execOp a.eval o).run P w = r at *
  cases r with
  | ok x w' =>
    cases x <;> simp only [Oper.uponIn, Oper.upon] at h ⊢ <;>
      first
        | exact h
        | exact ⟨fun e => (by cases e), callsIn_rnd h⟩
        | exact ⟨fun e => (by cases e), rows_rnd h⟩
        | exact h.elim
  | halt x w' => cases x <;> simp only [Oper.uponIn, Oper.upon] at h ⊢ <;> exact h
theorem op_rnd (hL : ¬ LetsOut Q) (hd : ∀ o ∈ ops.toList, ∀ c, o.op ≠ .defer c) {i : Nat} {K : Act → World → Prop} {a : Act} {w : World} (h : wpOp P ops Q i K a w) : wpOpIn (rnd lo) n P ops Q i K a w := by
  unfold wpOp wpOpIn at *
  cases ho : ops[i]? with
  | none => rw [ho] at h; exact h
  | some o =>
    rw [ho] at h
    simp only at h ⊢
    split
    · rename_i hw
      rw [if_pos hw] at h
      rcases h with h | h
      · exact oper_rnd (hd o (by have := Array.mem_of_getElem? ho; simpa using this)) h
      · exact absurd h.2 hL
    · rename_i hw
      rw [if_neg hw] at h
      exact ⟨fun _ _ => trivial, h⟩
theorem any_rnd (hL : ¬ LetsOut Q) (hd : ∀ o ∈ ops.toList, ∀ c, o.op ≠ .defer c) {md : Region.Mode} : ∀ (fuel : Nat) (listed : Array Bool) (a : Act) (w : World), wpAny P md ops Q fuel listed a w → wpAnyIn (rnd lo) n P md ops Q fuel listed a w
  | 0, _, _, _, h => h
  | fuel + 1, _, _, _, h => ⟨h.1, fun i hi => op_rnd hL hd (wpOp_mono (fun a' w' h' => any_rnd hL hd fuel _ a' w' h') (h.2 i hi))⟩
theorem list_rnd (hL : ¬ LetsOut Q) : ∀ (l : List Oper) (a : Act) (w : World), (∀ o ∈ l, ∀ c, o.op ≠ .defer c) → wpList P ops Q l a w → wpListIn (rnd lo) n P ops Q l a w
  | [], _, _, _, h => h
  | o :: r, a, w, hd, h => by
    unfold wpListIn
    unfold wpList at h
    split
    · rename_i hw
      rw [if_pos hw] at h
      rcases h with h | h
      · exact Oper.wpIn_mono (fun a' w' h' => list_rnd hL r a' w' (fun o ho => hd o (List.mem_cons_of_mem _ ho)) h') (oper_rnd (hd o (List.mem_cons_self ..)) h)
      · exact absurd h.2 hL
    · rename_i hw
      rw [if_neg hw] at h
      exact ⟨fun _ _ => trivial, list_rnd hL r _ _ (fun o ho => hd o (List.mem_cons_of_mem _ ho)) h⟩
/-- A region in the text's order. -/
theorem plain_rnd {id : Nat} {l : List Oper} {a : Act} {w : World} (hc : calmB l = true) (hL : ¬ LetsOut Q) (h : wpList P l.toArray Q l a w) : (Code.region id l.toArray false).wpIn (rnd lo) n P Q a w :=
  wpIn_region_lit (list_rnd hL l a w (fun _ ho => calm_at hc ho) h)
/-- A region that draws its order. -/
theorem draws_rnd {id : Nat} {l : List Oper} {a : Act} {w : World} (hm : P.follows .mixedOrders = true) (hc : calmB l = true) (hL : ¬ LetsOut Q)
    (h : wpAny P .any l.toArray Q l.toArray.size (Array.replicate l.toArray.size false) a w.drew) : (Code.region id l.toArray true).wpIn (rnd lo) n P Q a w :=
  wpIn_region_any hm (any_rnd hL (fun _ ho => calm_at hc (by simpa using ho)) _ _ _ _ h)
theorem zr_enter {id : Nat} {a : Act} {w : World} {l : List Oper} (p : List (Nat × Bool)) (S : World → Prop) (hm : P.follows .mixedOrders = true) (hsel : Region.noSelect l.toArray = true) (hc : calmB l = true) (hL : ¬ LetsOut Q)
    (hB : (decide (p.length = l.length) && seqB l.toArray p (Array.replicate l.length false)) = true) (hQ : ∀ c a d v w, Q (.panic c) (a.put d v) w → Q (.panic c) a w) (hS : S w.drew)
    (h : Shut (wpSeq P l.toArray Q S (pickL l p) a w.drew)) : (Code.region id l.toArray true).wpIn (rnd lo) n P Q a w := by
  simp only [Bool.and_eq_true, decide_eq_true_eq] at hB
  refine draws_rnd hm hc hL (wpAny_of_held (S := S) _ _ _ _ ?_)
  have := seq_held (P := P) (Q := Q) (S := S) (l := l) rfl hsel hQ p (Array.replicate l.length false) a w.drew hB.2 hS h.out
  rw [hB.1] at this
  simpa using this
theorem qr_enter {id : Nat} {a : Act} {w : World} {l : List Oper} (hm : P.follows .mixedOrders = true) (hc : calmB l = true) (hL : ¬ LetsOut Q) (hB : Region.lexB .any l.toArray = true)
    (h : Shut (wpQuiet P l.toArray (fun w' => ∃ p : Regrown, w' = grow (redrawn w p.d) p.os) (fun a' => ∀ w', Below w.heap.size w w' → Q .normal a' w') l a)) : (Code.region id l.toArray true).wpIn (rnd lo) n P Q a w := by
  have h' := h.out
  have e : (fun a' => ∀ w', Below w.heap.size w w' → Q .normal a' w') = fun a' => ∀ w', (∃ p : Regrown, w' = grow (redrawn w p.d) p.os) → Q .normal a' w' := by
    funext a'
    apply propext
    exact ⟨fun h w' ⟨p, e⟩ => h w' (by rw [e]; exact below_regrown w p.d p.os), fun h w' hb => h w' (regrown_of_below hb)⟩
  rw [e] at h'
  simp only [Region.lexB, Bool.and_eq_true] at hB
  refine draws_rnd hm hc hL (wpAny_of_quiet (C := fun w' => ∃ p : Regrown, w' = grow (redrawn w p.d) p.os) (Q := fun a' => ∀ w', (∃ p : Regrown, w' = grow (redrawn w p.d) p.os) → Q .normal a' w') (fun _ w' hw' h => h w' hw') _ _ _ _ ⟨⟨w.drawn + 1, #[]⟩, by rw [grow_empty]; rfl⟩ ?_)
  have := wpAnyQ_lex (C := fun w' => ∃ p : Regrown, w' = grow (redrawn w p.d) p.os) (md := .any) hB.1 l.toArray.toList 0 (Array.replicate l.toArray.size false) a (by simp) (by simpa using hB.2) (by simpa using h')
  simpa using this
theorem pr3_enter {id : Nat} {a : Act} {w : World} {o : Oper} {l : List Oper} (p : Plan3) (S : World → Prop) (hm : P.follows .mixedOrders = true) (hsel : Region.noSelect (o :: l).toArray = true) (hc : calmB (o :: l) = true) (hL : ¬ LetsOut Q)
    (hB : plan3B (o :: l).toArray p (o :: l).length (Array.replicate (o :: l).length false) = true) (hQ : ∀ c a d v w, Q (.panic c) (a.put d v) w → Q (.panic c) a w) (hS : S w.drew)
    (h : Shut (wpPlan3 P (o :: l).toArray Q S (pick3 (o :: l) o p) a w.drew)) : (Code.region id (o :: l).toArray true).wpIn (rnd lo) n P Q a w := by
  refine draws_rnd hm hc hL (wpAny_of_held (S := S) _ _ _ _ ?_)
  have := plan3_held (P := P) (Q := Q) (S := S) (l := o :: l) (d := o) rfl hsel hQ p (o :: l).length (Array.replicate (o :: l).length false) a w.drew hB hS h.out
  simpa using this
end
end Go.Proofs.Ytdbndkccgpmkbaa
