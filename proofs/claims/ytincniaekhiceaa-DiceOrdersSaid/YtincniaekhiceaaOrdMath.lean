/-
  All scripts of n less 1 draws that are as great as can be told apart, and the orders to which they lead, as mathematics.
-/
import Derived.Test.YtincniaekhiceaaMath
namespace Go.Proofs.Ytincniaekhiceaa.Pure

/-- A script, with each draw below i behind it. -/
def grow1 (i : Nat) (s : List UInt8) : List (List UInt8) := (List.range i).map fun x => s ++ [UInt8.ofNat x]
def grow (i : Nat) (L : List (List UInt8)) : List (List UInt8) := L.flatMap (grow1 i)
/-- The scripts behind j rounds. -/
def scr (n : Nat) : Nat → List (List UInt8)
  | 0 => [[]]
  | j + 1 => grow (n - j) (scr n j)
/-- How many they are. -/
def fall (n : Nat) : Nat → Nat
  | 0 => 1
  | j + 1 => fall n j * (n - j)

theorem grow_len (i : Nat) (L : List (List UInt8)) : (grow i L).length = L.length * i := by
  induction L with
  | nil => simp [grow]
  | cons s L ih =>
    have e : grow i (s :: L) = grow1 i s ++ grow i L := by simp [grow]
    rw [e, List.length_append, ih, List.length_cons, Nat.succ_mul]
    simp [grow1]
    omega
theorem scr_len (n : Nat) : ∀ j, (scr n j).length = fall n j := by
  intro j
  induction j with
  | zero => rfl
  | succ j ih => rw [scr, grow_len, ih, fall]
theorem scr_size (n : Nat) : ∀ j, ∀ s ∈ scr n j, s.length = j := by
  intro j
  induction j with
  | zero => intro s hs; simp [scr] at hs; simp [hs]
  | succ j ih =>
    intro s hs
    simp only [scr, grow, grow1, List.mem_flatMap, List.mem_map] at hs
    obtain ⟨t, ht, x, _, rfl⟩ := hs
    simp [ih t ht]
theorem grow_take_succ (i : Nat) (L : List (List UInt8)) (k : Nat) (h : k < L.length) : grow i (L.take (k + 1)) = grow i (L.take k) ++ grow1 i (L.getD k []) := by
  have e : L.getD k [] = L[k] := by simp [List.getD, h]
  rw [List.take_succ_eq_append_getElem h, grow, grow, List.flatMap_append, e, List.flatMap_singleton]
theorem grow1_take_succ (s : List UInt8) (x : Nat) : grow1 (x + 1) s = grow1 x s ++ [s ++ [UInt8.ofNat x]] := by
  simp [grow1, List.range_succ]

/-- The numbers from 0 on. -/
def upTo (n : Nat) : List Int := (List.range n).map Int.ofNat
theorem upTo_len (n : Nat) : (upTo n).length = n := by simp [upTo]
theorem upTo_succ (n : Nat) : upTo (n + 1) = upTo n ++ [(n : Int)] := by simp [upTo, List.range_succ]
theorem mem_upTo (n : Nat) (y : Int) (h : y ∈ upTo n) : 0 ≤ y ∧ y < n := by
  simp only [upTo, List.mem_map, List.mem_range] at h
  obtain ⟨i, hi, rfl⟩ := h
  exact ⟨Int.natCast_nonneg i, by show (i : Int) < n; omega⟩
theorem shuf_mem (s : List UInt8) (n : Nat) (y : Int) (h : y ∈ (shufAll s 0 (upTo n)).1) : 0 ≤ y ∧ y < n := mem_upTo n y ((shufAll_perm s 0 (upTo n)).mem_iff.1 h)

/-- The order to which a script leads, as octets. -/
def order (n : Nat) (s : List UInt8) : List UInt8 := (shufAll s 0 (upTo n)).1.map fun y => UInt8.ofNat y.toNat
theorem order_len (n : Nat) (s : List UInt8) : (order n s).length = n := by rw [order, List.length_map, shufAll_len, upTo_len]
def orders (n : Nat) : List (List UInt8) := (scr n (n - 1)).map (order n)

/-- Of up to five numbers each order comes once. -/
theorem orders_apart : ∀ n, n < 6 → (orders n).Nodup := by decide +kernel
theorem fall_few : ∀ n, n < 6 → ∀ j, j < 6 → fall n j ≤ 120 := by decide
end Go.Proofs.Ytincniaekhiceaa.Pure
