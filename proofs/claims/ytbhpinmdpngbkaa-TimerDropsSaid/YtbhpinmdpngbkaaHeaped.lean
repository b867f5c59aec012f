/-
  The walks of a heap's methods: Len, Less, Swap.
-/
import Derived.Test.YtbhpinmdpngbkaaOwn
namespace Go.Proofs.Ytbhpinmdpngbkaa
open Go.RowKit Go.Proofs.Ytbhpinmdpngbkaa.Pure

/-- A slice's value that begins at its block. -/
def rowV (b n c : Nat) : Value := .slice (some ⟨b, 0, none⟩) n c

theorem grown_then {a b c : World} {row : Option Nat} (h : a.grownBy b row) (ho : c.os = b.os) (ht : c.tape = b.tape) (hp : c.output = b.output) (hs : b.heap.size ≤ c.heap.size)
    (hk : ∀ i, i < a.heap.size → some i ≠ row → c.heap[i]? = b.heap[i]?) : a.grownBy c row where
  os := by rw [ho, h.os]
  tape := by rw [ht, h.tape]
  output := by rw [hp, h.output]
  size := Nat.le_trans h.size hs
  block i hi hn := by rw [hk i hi hn, h.block i hi hn]
theorem grown_drewN {a w : World} {row : Option Nat} (h : a.grownBy w row) (n : Nat) : a.grownBy (w.drewN n) row := grown_then h rfl rfl rfl (Nat.le_refl _) fun _ _ _ => rfl
theorem grown_drew {a w : World} {row : Option Nat} (h : a.grownBy w row) : a.grownBy w.drew row := grown_then h rfl rfl rfl (Nat.le_refl _) fun _ _ _ => rfl
theorem grown_trans {a b c : World} {row : Option Nat} (h : a.grownBy b row) (k : b.grownBy c row) : a.grownBy c row :=
  grown_then h k.os k.tape k.output k.size fun i hi hn => k.block i (by have := h.size; omega) hn
theorem grown_below {a b c : World} {row : Option Nat} (h : a.grownBy b row) (k : Below b.heap.size b c) : a.grownBy c row :=
  grown_then h k.os k.tape k.output k.size fun i hi _ => k.block i (by have := h.size; omega)

theorem Own.drew {w : World} {B : Nat} {v : Value} {xs : List Tm} (h : Own w B v xs) : Own w.drew B v xs := h
theorem Own.drewN {w : World} {B : Nat} {v : Value} {xs : List Tm} (h : Own w B v xs) (n : Nat) : Own (w.drewN n) B v xs := h
section
variable {w : World} {B b c n : Nat} {xs : List Tm}
theorem Own.len (h : Own w B (.slice (some ⟨b, 0, none⟩) n c) xs) : n = xs.length := by
  rcases h.2 with ⟨h', _⟩ | ⟨g', cap', cur, h', _⟩
  · simp at h'
  · simp at h'; exact h'.2.1
theorem Own.frozen (h : Own w B (.slice (some ⟨b, 0, none⟩) n c) xs) (j : Nat) : w.frozen? ⟨b, j, none⟩ = false := by
  obtain rfl := h.len
  exact World.ownsRow.frozenAt (w := w) h j
theorem Own.cell (h : Own w B (.slice (some ⟨b, 0, none⟩) n c) xs) (i r : Nat) (hi : i < n) (hr : r < 4) : w.cell? ⟨b, i * 4 + r, none⟩ = (cells1 (nth xs i))[r]? := by
  obtain rfl := h.len
  rw [World.ownsRow.cellAt (w := w) h (i * 4 + r) (by omega), tms_at xs i r hi hr]
/-- A timer's four cells, in the walk's spelling. -/
theorem Own.four (h : Own w B (.slice (some ⟨b, 0, none⟩) n c) xs) (i : Nat) (hi : i < n) :
    w.cell? ⟨b, i * 4, none⟩ = some (.int .i64 (nth xs i).a) ∧ w.cell? ⟨b, i * 4 + 1, none⟩ = some (.int .i64 (nth xs i).k) ∧ w.cell? ⟨b, i * 4 + 2, none⟩ = some (.int .i64 (nth xs i).o) ∧ w.cell? ⟨b, i * 4 + 3, none⟩ = some (.int .u64 (nth xs i).n) ∧
    w.frozen? ⟨b, i * 4, none⟩ = false ∧ w.frozen? ⟨b, i * 4 + 1, none⟩ = false ∧ w.frozen? ⟨b, i * 4 + 2, none⟩ = false ∧ w.frozen? ⟨b, i * 4 + 3, none⟩ = false :=
  ⟨h.cell i 0 hi (by decide), h.cell i 1 hi (by decide), h.cell i 2 hi (by decide), h.cell i 3 hi (by decide), h.frozen _, h.frozen _, h.frozen _, h.frozen _⟩
theorem tms_set (xs : List Tm) (i : Nat) (x : Tm) (hi : i < xs.length) :
    ((((tms xs).set (i * 4) (.int .i64 x.a)).set (i * 4 + 1) (.int .i64 x.k)).set (i * 4 + 2) (.int .i64 x.o)).set (i * 4 + 3) (.int .u64 x.n) = tms (xs.set i x) := by
  apply List.ext_getElem?
  intro j
  by_cases hj : j < xs.length * 4
  · have e : j / 4 * 4 + j % 4 = j := by omega
    have hr : j % 4 < 4 := by omega
    rw [← e, tms_at (xs.set i x) (j / 4) (j % 4) (by simp; omega) hr]
    have hl := tms_len xs
    generalize j / 4 = q at *
    generalize j % 4 = r at *
    have hq : q < xs.length := by omega
    have hn : nth (xs.set i x) q = if i = q then x else nth xs q := by
      unfold nth
      by_cases h : i = q
      · subst h; simp [List.getD, hi]
      · simp [List.getD, h]
    rw [hn]
    by_cases h : i = q
    · subst h
      rw [if_pos rfl]
      match r, hr with
      | 0, _ => simp [List.getElem?_set, cells1]; omega
      | 1, _ => simp [List.getElem?_set, cells1]; omega
      | 2, _ => simp [List.getElem?_set, cells1]; omega
      | 3, _ => simp [List.getElem?_set, cells1]; omega
    · rw [if_neg h, ← tms_at xs q r hq hr, List.getElem?_set_ne (by omega), List.getElem?_set_ne (by omega), List.getElem?_set_ne (by omega), List.getElem?_set_ne (by omega)]
  · rw [List.getElem?_eq_none (by simp [tms_len]; omega), List.getElem?_eq_none (by simp [tms_len]; omega)]
/-- A timer is stored. -/
theorem Own.put (h : Own w B (.slice (some ⟨b, 0, none⟩) n c) xs) (i : Nat) (hi : i < n) (x : Tm) :
    Own ((((w.setCell ⟨b, i * 4, none⟩ (.int .i64 x.a)).setCell ⟨b, i * 4 + 1, none⟩ (.int .i64 x.k)).setCell ⟨b, i * 4 + 2, none⟩ (.int .i64 x.o)).setCell ⟨b, i * 4 + 3, none⟩ (.int .u64 x.n)) B (.slice (some ⟨b, 0, none⟩) n c) (xs.set i x) ∧
    w.grownBy ((((w.setCell ⟨b, i * 4, none⟩ (.int .i64 x.a)).setCell ⟨b, i * 4 + 1, none⟩ (.int .i64 x.k)).setCell ⟨b, i * 4 + 2, none⟩ (.int .i64 x.o)).setCell ⟨b, i * 4 + 3, none⟩ (.int .u64 x.n)) (some b) := by
  obtain rfl := h.len
  have h0 := World.ownsRow.stored (w := w) h (i * 4) (.int .i64 x.a)
  have h1 := World.ownsRow.stored h0.1 (i * 4 + 1) (.int .i64 x.k)
  have h2 := World.ownsRow.stored h1.1 (i * 4 + 2) (.int .i64 x.o)
  have h3 := World.ownsRow.stored h2.1 (i * 4 + 3) (.int .u64 x.n)
  refine ⟨?_, grown_trans (grown_trans (grown_trans h0.2 h1.2) h2.2) h3.2⟩
  have := h3.1
  rw [tms_set xs i x hi] at this
  unfold Own
  rw [List.length_set]
  exact this
end

set_option maxHeartbeats 400000 in
theorem len_any (A : Option Addr) (n c : Nat) (w : World) :
    Calls Try.prog 38 #[.slice A n c] w fun e w' => e = .returned (.int .i64 n) ∧ w = w' := by
  go_enter Try.func38, Try.ntmps38
  go_wp2
  go_ret
  exact ⟨rfl, rfl⟩

set_option maxRecDepth 100000 in
set_option maxHeartbeats 1000000 in
theorem hless_any (A : Option Addr) (c lo hi i j : Nat) (xs : List Tm) (w : World) (h : Has w lo hi A xs) (hi' : i < xs.length) (hj : j < xs.length) :
    Calls Try.prog 57 #[.slice A xs.length c, .int .i64 i, .int .i64 j] w fun e w' => e = .returned (.bool (lt (nth xs i) (nth xs j))) ∧ Below w.heap.size w w' := by
  obtain ⟨ad, rfl, _, _, h1⟩ := h i hi'
  obtain ⟨ad', e, _, _, h0⟩ := h j hj
  obtain rfl := Option.some.inj e
  obtain ⟨p1, q1, r1, s1, e1, a1, a2, a3, a4⟩ := h1.cells
  obtain ⟨p0, q0, r0, s0, e0, b1, b2, b3, b4⟩ := h0.cells
  have e1' : nth xs i = ⟨p1, q1, r1, s1⟩ := e1
  have e0' : nth xs j = ⟨p0, q0, r0, s0⟩ := e0
  rw [e1', e0']
  have HC := Lib.hid (fun W => less_any p1 q1 r1 s1 p0 q0 r0 s0 W)
  generalize lt ⟨p1, q1, r1, s1⟩ ⟨p0, q0, r0, s0⟩ = B at *
  clear e1 e0 e1' e0' h1 h0 e h
  have i0 : (0 : Int) ≤ (i : Int) := by omega
  have i1 : (i : Int) < (xs.length : Int) := by omega
  have j0 : (0 : Int) ≤ (j : Int) := by omega
  have j1 : (j : Int) < (xs.length : Int) := by omega
  go_enter Try.func57, Try.ntmps57
  go_wp2_with fail
  go_still_tail 8, (by kernel_rfl)
  change wpList _ _ _ _ _ w.drew
  go_wp2_with fail
  refine (HC.out _).mono ?_
  rintro e w1 ⟨rfl, hb1⟩
  have HB1 : Hid (Below w.heap.size w w1) := Lib.hid ((Below.refl _ _).drew.trans hb1)
  clear hb1
  go_wp2_with fail
  go_ret
  exact ⟨rfl, HB1.out⟩

set_option maxRecDepth 100000 in
set_option maxHeartbeats 2000000 in
theorem swap_any (b n c B i j : Nat) (xs : List Tm) (w : World) (h : Own w B (.slice (some ⟨b, 0, none⟩) n c) xs) (hi : i < n) (hj : j < n) :
    Calls Try.prog 60 #[.slice (some ⟨b, 0, none⟩) n c, .int .i64 i, .int .i64 j] w fun e w' => e = .returned (.tuple #[]) ∧ Own w' B (.slice (some ⟨b, 0, none⟩) n c) (swap xs i j) ∧ w.grownBy w' (some b) := by
  have hp := h.put i hi (nth xs j)
  have hq := hp.1.put j hj (nth xs i)
  have HE : Hid (Own _ _ _ (swap xs i j) ∧ _) := Lib.hid ⟨hq.1, grown_trans hp.2 hq.2⟩
  obtain ⟨a0, a1, a2, a3, f0, f1, f2, f3⟩ := h.four i hi
  obtain ⟨b0, b1, b2, b3, g0, g1, g2, g3⟩ := h.four j hj
  obtain ⟨c0, c1, c2, c3, _, _, _, _⟩ := hp.1.four j hj
  generalize nth (xs.set i (nth xs j)) j = z at *
  generalize nth xs i = x at *
  generalize nth xs j = y at *
  clear hp hq h
  have i0 : (0 : Int) ≤ (i : Int) := by omega
  have i1 : (i : Int) < (n : Int) := by omega
  have j0 : (0 : Int) ≤ (j : Int) := by omega
  have j1 : (j : Int) < (n : Int) := by omega
  go_enter Try.func60, Try.ntmps60
  go_wp2_with fail
  go_region
  all_goals
    go_end0
    exact ⟨rfl, HE.out.1.drew, grown_drew HE.out.2⟩
end Go.Proofs.Ytbhpinmdpngbkaa
