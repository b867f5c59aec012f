/-
  Two lists in order gone through at once: what comes of each task, as mathematics.
-/
import Derived.Test.YtdbndkccgpmkbaaLf
namespace Go.Proofs.Ytdbndkccgpmkbaa.Pure
section
variable {α β : Type} (kx : α → ByteArray) (ky : β → ByteArray) (za : α) (zb : β)
/-- Whose the next task is: below 0 the one list's alone, above 0 the other one's alone. -/
def whoZ (a : List α) (b : List β) : Int := match a, b with
  | [], _ => 1
  | _ :: _, [] => -1
  | x :: _, y :: _ => cmpS (kx x) (ky y)
def zipK : Nat → List α → List β → List (α × β)
  | 0, _, _ => []
  | f + 1, a, b => match a, b with
    | [], [] => []
    | [], y :: b => (za, y) :: zipK f [] b
    | x :: a, [] => (x, zb) :: zipK f a []
    | x :: a, y :: b => if ltS (kx x) (ky y) then (x, zb) :: zipK f a (y :: b) else if ltS (ky y) (kx x) then (za, y) :: zipK f (x :: a) b else (x, y) :: zipK f a b
def zipA (a : List α) (b : List β) : List (α × β) := zipK kx ky za zb (a.length + b.length) a b
variable {kx ky za zb}
theorem zipK_more : ∀ (f g : Nat) (a : List α) (b : List β), a.length + b.length ≤ f → a.length + b.length ≤ g → zipK kx ky za zb f a b = zipK kx ky za zb g a b
  | 0, 0, _, _, _, _ => rfl
  | 0, g + 1, [], [], _, _ => rfl
  | 0, g + 1, _ :: _, _, h, _ => by simp at h
  | 0, g + 1, [], _ :: _, h, _ => by simp at h
  | f + 1, 0, [], [], _, _ => rfl
  | f + 1, 0, _ :: _, _, _, h => by simp at h
  | f + 1, 0, [], _ :: _, _, h => by simp at h
  | f + 1, g + 1, [], [], _, _ => rfl
  | f + 1, g + 1, [], y :: b, h, h' => by
    simp only [zipK]
    rw [zipK_more f g [] b (by simp at h ⊢; omega) (by simp at h' ⊢; omega)]
  | f + 1, g + 1, x :: a, [], h, h' => by
    simp only [zipK]
    rw [zipK_more f g a [] (by simp at h ⊢; omega) (by simp at h' ⊢; omega)]
  | f + 1, g + 1, x :: a, y :: b, h, h' => by
    simp only [zipK]
    rw [zipK_more f g a (y :: b) (by simp at h ⊢; omega) (by simp at h' ⊢; omega), zipK_more f g (x :: a) b (by simp at h ⊢; omega) (by simp at h' ⊢; omega), zipK_more f g a b (by simp at h ⊢; omega) (by simp at h' ⊢; omega)]
theorem zipA_nil : zipA kx ky za zb [] [] = [] := rfl
theorem zipA_right (y : β) (b : List β) : zipA kx ky za zb [] (y :: b) = (za, y) :: zipA kx ky za zb [] b := by
  unfold zipA
  rw [show ([] : List α).length + (y :: b).length = ([] : List α).length + b.length + 1 by simp]
  rfl
theorem zipA_left (x : α) (a : List α) : zipA kx ky za zb (x :: a) [] = (x, zb) :: zipA kx ky za zb a [] := by
  unfold zipA
  rw [show (x :: a).length + ([] : List β).length = a.length + ([] : List β).length + 1 by simp]
  rfl
theorem zipA_both (x : α) (a : List α) (y : β) (b : List β) : zipA kx ky za zb (x :: a) (y :: b) =
    if ltS (kx x) (ky y) then (x, zb) :: zipA kx ky za zb a (y :: b) else if ltS (ky y) (kx x) then (za, y) :: zipA kx ky za zb (x :: a) b else (x, y) :: zipA kx ky za zb a b := by
  unfold zipA
  rw [show (x :: a).length + (y :: b).length = a.length + (y :: b).length + 1 by simp +arith]
  simp only [zipK]
  rw [zipK_more (a.length + (y :: b).length) (a.length + b.length) a b (by simp) (by omega), zipK_more (a.length + (y :: b).length) ((x :: a).length + b.length) (x :: a) b (by simp; omega) (by omega)]
/-- What comes next, by whose it is. -/
theorem zipA_next (a : List α) (b : List β) (da : α) (db : β) (h : ¬ (a = [] ∧ b = [])) (W : Int) (hW : whoZ kx ky a b = W) :
    (W ≤ 0 → a ≠ []) ∧ (0 ≤ W → b ≠ []) ∧ zipA kx ky za zb a b =
      (if W ≤ 0 then a.headD da else za, if 0 ≤ W then b.headD db else zb) :: zipA kx ky za zb (if W ≤ 0 then a.tail else a) (if 0 ≤ W then b.tail else b) := by
  match a, b with
  | [], [] => exact absurd ⟨rfl, rfl⟩ h
  | [], y :: b => simp only [whoZ] at hW; subst hW; simp [zipA_right]
  | x :: a, [] => simp only [whoZ] at hW; subst hW; simp [zipA_left]
  | x :: a, y :: b =>
    simp only [whoZ, cmpS_is] at hW
    rw [zipA_both]
    by_cases h1 : ltS (kx x) (ky y) = true
    · simp [h1] at hW; subst hW; simp [h1]
    · by_cases h2 : ltS (ky y) (kx x) = true
      · simp [h1, h2] at hW; subst hW; simp [h1, h2]
      · simp [h1, h2] at hW; subst hW; simp [h1, h2]
/-- .. by where the two lists are gone through so far. -/
theorem zipA_at (a : List α) (b : List β) (da : α) (db : β) (i j : Nat) (hi : i ≤ a.length) (hj : j ≤ b.length) (h : i < a.length ∨ j < b.length) (W : Int) (hW : whoZ kx ky (a.drop i) (b.drop j) = W) :
    (W ≤ 0 → i < a.length) ∧ (0 ≤ W → j < b.length) ∧ zipA kx ky za zb (a.drop i) (b.drop j) =
      (if W ≤ 0 then a.getD i da else za, if 0 ≤ W then b.getD j db else zb) :: zipA kx ky za zb (a.drop (if W ≤ 0 then i + 1 else i)) (b.drop (if 0 ≤ W then j + 1 else j)) := by
  have hn : ¬ (a.drop i = [] ∧ b.drop j = []) := by
    rintro ⟨h1, h2⟩
    rw [List.drop_eq_nil_iff] at h1 h2
    omega
  obtain ⟨h1, h2, h3⟩ := zipA_next (kx := kx) (ky := ky) (za := za) (zb := zb) (a.drop i) (b.drop j) da db hn W hW
  refine ⟨fun e => ?_, fun e => ?_, ?_⟩
  · have := h1 e
    rw [Ne, List.drop_eq_nil_iff] at this
    omega
  · have := h2 e
    rw [Ne, List.drop_eq_nil_iff] at this
    omega
  · rw [h3]
    have e1 : (a.drop i).headD da = a.getD i da := by
      rw [List.headD_eq_head?_getD, List.head?_drop, List.getD]
    have e2 : (b.drop j).headD db = b.getD j db := by
      rw [List.headD_eq_head?_getD, List.head?_drop, List.getD]
    rw [e1, e2]
    congr 2
    · split <;> simp [List.tail_drop]
    · split <;> simp [List.tail_drop]
theorem whoZ_right (a : List α) (b : List β) (i j : Nat) (h : i = a.length) : whoZ kx ky (a.drop i) (b.drop j) = 1 := by
  subst h
  rw [List.drop_length]
  rfl
theorem whoZ_left (a : List α) (b : List β) (i j : Nat) (h : i < a.length) (hj : j = b.length) : whoZ kx ky (a.drop i) (b.drop j) = -1 := by
  subst hj
  rw [List.drop_length, List.drop_eq_getElem_cons h]
  rfl
theorem whoZ_both (a : List α) (b : List β) (da : α) (db : β) (i j : Nat) (h : i < a.length) (hj : j < b.length) : whoZ kx ky (a.drop i) (b.drop j) = cmpS (kx (a.getD i da)) (ky (b.getD j db)) := by
  rw [List.drop_eq_getElem_cons h, List.drop_eq_getElem_cons hj]
  simp [whoZ, List.getD, h, hj]
theorem zipA_end (a : List α) (b : List β) (i j : Nat) (hi : i = a.length) (hj : j = b.length) : zipA kx ky za zb (a.drop i) (b.drop j) = [] := by
  subst hi hj
  rw [List.drop_length, List.drop_length]
  rfl
end
end Go.Proofs.Ytdbndkccgpmkbaa.Pure
