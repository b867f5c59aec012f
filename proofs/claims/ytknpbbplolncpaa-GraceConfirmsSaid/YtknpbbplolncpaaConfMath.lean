/-
  Confirmations, as mathematics: in whatever order nodes confirm, it is the same.
-/
import Derived.Test.YtknpbbplolncpaaRaiseMath
namespace Go.Proofs.Ytknpbbplolncpaa.Pure

/-- By whom, one behind the other. -/
def Bf (xs : List Int) : List Int := xs.foldl (fun s x => insN x s) []
theorem Bf_snoc (xs : List Int) (k : Nat) (hk : k < xs.length) : Bf (xs.take (k + 1)) = insN (xs.getD k 0) (Bf (xs.take k)) := by
  unfold Bf
  rw [take_snoc xs k hk, List.foldl_append]
  rfl
theorem foldl_mem (xs : List Int) : ∀ (s : List Int) (x : Int), x ∈ xs.foldl (fun s x => insN x s) s ↔ x ∈ s ∨ x ∈ xs := by
  induction xs with
  | nil => intro s x; simp
  | cons y r ih =>
    intro s x
    rw [List.foldl_cons, ih, ins_mem, List.mem_cons]
    constructor
    · rintro ((h | h) | h)
      · exact .inr (.inl h)
      · exact .inl h
      · exact .inr (.inr h)
    · rintro (h | h | h)
      · exact .inl (.inr h)
      · exact .inl (.inl h)
      · exact .inr h
theorem foldl_pair (xs : List Int) : ∀ s : List Int, s.Pairwise (· < ·) → (xs.foldl (fun s x => insN x s) s).Pairwise (· < ·) := by
  induction xs with
  | nil => intro s h; exact h
  | cons y r ih => intro s h; exact ih _ (ins_pair y s h)
theorem Bf_mem (xs : List Int) (x : Int) : x ∈ Bf xs ↔ x ∈ xs := by
  unfold Bf
  rw [foldl_mem]
  simp
theorem Bf_pair (xs : List Int) : (Bf xs).Pairwise (· < ·) := foldl_pair xs [] (by simp)
theorem Bf_rise (xs : List Int) (h : ∀ x ∈ xs, 0 ≤ x ∧ x < 64) : riseB (Bf xs) = true := (rise_pair _).2 ⟨fun x hx => h x ((Bf_mem xs x).1 hx), Bf_pair xs⟩
theorem Bf_reverse (xs : List Int) : Bf xs.reverse = Bf xs := sorted_eq _ _ (Bf_pair _) (Bf_pair _) fun x => by rw [Bf_mem, Bf_mem, List.mem_reverse]
theorem Bf_nil {xs : List Int} (h : Bf xs = []) : xs = [] := by
  rcases xs with _ | ⟨x, r⟩
  · rfl
  · have := (Bf_mem (x :: r) x).2 (by simp)
    rw [h] at this
    cases this
/-- The doubts then. -/
def Sd (inc : Int) (B : List Int) : List Dt := if B = [] then [] else [⟨3, inc, 0, B⟩]
theorem ins_ne (n : Int) (B : List Int) : insN n B ≠ [] := fun e => by
  have := (ins_mem n B n).2 (.inl rfl)
  rw [e] at this
  cases this
theorem conf_may {inc : Int} {B : List Int} (h : riseB B = true) : mayD (Sd inc B) = true := by
  unfold Sd
  split
  · decide
  · rename_i hB
    refine may_of (fun x hx => ?_) (fun x hx => ?_) (by simp)
    · obtain rfl := List.mem_singleton.1 hx
      exact ⟨⟨Int.le_refl _, by show (0 : Int) ≤ 1099511627776; omega⟩, hB, h⟩
    · obtain rfl := List.mem_singleton.1 hx
      exact ⟨by show (0 : Int) ≤ 3; omega, by show (3 : Int) < 64; omega⟩
theorem conf_step {inc b t : Int} {B : List Int} (h : riseB B = true) (h0 : B = [] → t = 0) (hb : 0 ≤ b ∧ b < 64) (ht : 0 ≤ t ∧ t ≤ 1099511627776) : raiseA (Sd inc B) 3 inc b t = (Sd inc (insN b B), 0) := by
  have hm : mayR (Sd inc B) 3 b t = true := by
    unfold mayR
    rw [conf_may h, (nodeB_iff 3).2 (by omega), (nodeB_iff b).2 (by omega), (tickB_iff t).2 (by omega)]
    rfl
  unfold raiseA
  rw [if_pos hm, raise_ins]
  congr 1
  unfold Sd
  rw [if_neg (ins_ne b B)]
  split
  · rename_i hB
    rw [h0 hB, hB]
    rfl
  · unfold insD mergeD
    rw [if_neg (by show ¬(3 : Int) < 3; omega), if_pos rfl, if_neg (by show ¬inc < inc; omega), if_pos rfl, with_ins]
theorem conf_sm {inc : Int} {B : List Int} (h : riseB B = true) : (Sd inc B).length ≤ 1000 ∧ ∀ x ∈ Sd inc B, x.b.length ≤ 1000 := by
  have := riseB_len h
  unfold Sd
  split
  · exact ⟨by simp, fun x hx => by cases hx⟩
  · exact ⟨by simp, fun x hx => by obtain rfl := List.mem_singleton.1 hx; show B.length ≤ 1000; omega⟩
end Go.Proofs.Ytknpbbplolncpaa.Pure
