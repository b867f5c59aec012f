/-
  Slices and arrays of counts, of the call's own.
-/
import Derived.Test.YtmbapcdchaamfaaLeaf
namespace Go.Proofs.Ytmbapcdchaamfaa
open Go.Sort Go.RowKit Go.Proofs.Ytmbapcdchaamfaa.Pure

/-- A count's cells. -/
def cells1 (c : Ct) : List Value := [.int .i64 c.t, .int .i64 c.f, .bool c.d]
/-- The cells of counts. -/
def cts (cs : List Ct) : List Value := cs.flatMap cells1
/-- Count i. -/
def nth (cs : List Ct) (i : Nat) : Ct := cs.getD i zc
/-- The slice v is the call's own, in blocks from B on, and holds the counts cs. -/
def Own (e : TypeId) (w : World) (B : Nat) (v : Value) (cs : List Ct) : Prop := w.ownsRow B e 3 v cs.length (cts cs)

theorem cts_len (cs : List Ct) : (cts cs).length = cs.length * 3 := by
  induction cs with
  | nil => rfl
  | cons x r ih => simp [cts, cells1] at ih ⊢; omega
theorem cts_append (xs ys : List Ct) : cts (xs ++ ys) = cts xs ++ cts ys := by simp [cts]
theorem cts_one (cs : List Ct) : ∀ u ∈ cts cs, u.oneCell' = true := by
  intro u hu
  obtain ⟨x, _, hx⟩ := List.mem_flatMap.1 hu
  simp [cells1] at hx
  rcases hx with rfl | rfl | rfl <;> rfl
theorem cts_at (cs : List Ct) (j r : Nat) (hj : j < cs.length) (hr : r < 3) : (cts cs)[j * 3 + r]? = (cells1 (nth cs j))[r]? := by
  induction cs generalizing j with
  | nil => simp at hj
  | cons x l ih =>
    have e : cts (x :: l) = cells1 x ++ cts l := by simp [cts]
    rw [e]
    rcases j with _ | j
    · rw [List.getElem?_append_left (by simp [cells1]; omega)]
      simp [nth]
    · rw [List.getElem?_append_right (by simp [cells1]; omega)]
      have e2 : (j + 1) * 3 + r - (cells1 x).length = j * 3 + r := by simp [cells1]; omega
      rw [e2, ih j (by simpa using hj)]
      simp [nth]

theorem grown_then {a b c : World} {row : Option Nat} (h : a.grownBy b row) (ho : c.os = b.os) (ht : c.tape = b.tape) (hp : c.output = b.output) (hs : b.heap.size ≤ c.heap.size)
    (hk : ∀ i, i < a.heap.size → some i ≠ row → c.heap[i]? = b.heap[i]?) : a.grownBy c row where
  os := by rw [ho, h.os]
  tape := by rw [ht, h.tape]
  output := by rw [hp, h.output]
  size := Nat.le_trans h.size hs
  block i hi hn := by rw [hk i hi hn, h.block i hi hn]
theorem grown_trans {a b c : World} {row : Option Nat} (h : a.grownBy b row) (k : b.grownBy c row) : a.grownBy c row :=
  grown_then h k.os k.tape k.output k.size fun i hi hn => k.block i (by have := h.size; omega) hn

section
variable {e : TypeId} {w w' : World} {B b n c : Nat} {v : Value} {cs : List Ct}
theorem Own.alloc (h : Own e w B v cs) (o : Obj) : Own e (w.alloc o) B v cs := World.ownsRow.alloc (w := w) h o
theorem Own.ge (h : Own e w B v cs) : ∀ k, v.ownBlock = some k → B ≤ k ∧ k < w.heap.size := World.ownsRow.lt (w := w) h
theorem Own.drew (h : Own e w B v cs) : Own e w.drew B v cs := h
/-- What owns a slice reads its own block alone. -/
theorem Own.keep (h : Own e w B v cs) (hk : ∀ k, v.ownBlock = some k → w'.heap[k]? = w.heap[k]?) : Own e w' B v cs := by
  refine ⟨h.1, ?_⟩
  rcases h.2 with h | ⟨g, cap, cur, rfl, h2, h3, h4⟩
  · exact .inl h
  · exact .inr ⟨g, cap, cur, rfl, h2, (hk g rfl).trans h3, h4⟩
theorem Own.on (h : Own e w B v cs) (hb : Below w.heap.size w w') : Own e w' B v cs := h.keep fun k hk => hb.block k (h.ge k hk).2
theorem Own.len (h : Own e w B (.slice (some ⟨b, 0, none⟩) n c) cs) : n = cs.length := by
  rcases h.2 with ⟨h', _⟩ | ⟨g', cap', cur, h', _⟩
  · simp at h'
  · simp at h'; exact h'.2.1
theorem Own.frozen (h : Own e w B (.slice (some ⟨b, 0, none⟩) n c) cs) (j : Nat) : w.frozen? ⟨b, j, none⟩ = false := by
  obtain rfl := h.len
  exact World.ownsRow.frozenAt (w := w) h j
theorem Own.cell (h : Own e w B (.slice (some ⟨b, 0, none⟩) n c) cs) (i r : Nat) (hi : i < n) (hr : r < 3) : w.cell? ⟨b, i * 3 + r, none⟩ = (cells1 (nth cs i))[r]? := by
  obtain rfl := h.len
  rw [World.ownsRow.cellAt (w := w) h (i * 3 + r) (by omega), cts_at cs i r hi hr]
theorem Own.at_ (h : Own e w B (.slice (some ⟨b, 0, none⟩) n c) cs) (i : Nat) (hi : i < n) : CAt w b (i * 3) (nth cs i) := ⟨h.cell i 0 hi (by decide), h.cell i 1 hi (by decide), h.cell i 2 hi (by decide)⟩
theorem cts_set (cs : List Ct) (i : Nat) (x : Ct) (hi : i < cs.length) : (((cts cs).set (i * 3) (.int .i64 x.t)).set (i * 3 + 1) (.int .i64 x.f)).set (i * 3 + 2) (.bool x.d) = cts (cs.set i x) := by
  apply List.ext_getElem?
  intro j
  by_cases hj : j < cs.length * 3
  · have e : j / 3 * 3 + j % 3 = j := by omega
    have hr : j % 3 < 3 := by omega
    rw [← e, cts_at (cs.set i x) (j / 3) (j % 3) (by simp; omega) hr]
    have hl := cts_len cs
    generalize j / 3 = q at *
    generalize j % 3 = r at *
    have hq : q < cs.length := by omega
    have hn : nth (cs.set i x) q = if i = q then x else nth cs q := by
      unfold nth
      by_cases h : i = q
      · subst h; simp [List.getD, hi]
      · simp [List.getD, h]
    rw [hn]
    by_cases h : i = q
    · subst h
      rw [if_pos rfl]
      match r, hr with
      | 0, _ => simp [List.getElem?_set, cells1]; omega
      | 1, _ => simp [List.getElem?_set, cells1]; omega
      | 2, _ => simp [List.getElem?_set, cells1]; omega
    · rw [if_neg h, ← cts_at cs q r hq hr, List.getElem?_set_ne (by omega), List.getElem?_set_ne (by omega), List.getElem?_set_ne (by omega)]
  · rw [List.getElem?_eq_none (by simp [cts_len]; omega), List.getElem?_eq_none (by simp [cts_len]; omega)]
/-- A count is stored. -/
theorem Own.put (h : Own e w B (.slice (some ⟨b, 0, none⟩) n c) cs) (i : Nat) (hi : i < n) (x : Ct) :
    Own e (((w.setCell ⟨b, i * 3, none⟩ (.int .i64 x.t)).setCell ⟨b, i * 3 + 1, none⟩ (.int .i64 x.f)).setCell ⟨b, i * 3 + 2, none⟩ (.bool x.d)) B (.slice (some ⟨b, 0, none⟩) n c) (cs.set i x) ∧
    w.grownBy (((w.setCell ⟨b, i * 3, none⟩ (.int .i64 x.t)).setCell ⟨b, i * 3 + 1, none⟩ (.int .i64 x.f)).setCell ⟨b, i * 3 + 2, none⟩ (.bool x.d)) (some b) := by
  obtain rfl := h.len
  have h0 := World.ownsRow.stored (w := w) h (i * 3) (.int .i64 x.t)
  have h1 := World.ownsRow.stored h0.1 (i * 3 + 1) (.int .i64 x.f)
  have h2 := World.ownsRow.stored h1.1 (i * 3 + 2) (.bool x.d)
  refine ⟨?_, grown_trans (grown_trans h0.2 h1.2) h2.2⟩
  have := h2.1
  rw [cts_set cs i x hi] at this
  unfold Own
  rw [List.length_set]
  exact this
end
end Go.Proofs.Ytmbapcdchaamfaa
