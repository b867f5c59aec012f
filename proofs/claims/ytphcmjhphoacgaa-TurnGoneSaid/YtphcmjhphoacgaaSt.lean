/-
  What the laws' variables hold: a turn, and dice.
-/
import Derived.Test.YtphcmjhphoacgaaLaw
namespace Go.Proofs.Ytphcmjhphoacgaa
open Go.Sort Go.RowKit Go.Proofs.Ytphcmjhphoacgaa.Pure

/-- Numbers in a stretch of blocks in which no block is one of X. -/
def Clear (w : World) (X : Nat → Prop) (A : Option Addr) (xs : List Int) : Prop := ∃ lo hi, hi ≤ w.heap.size ∧ (∀ k, X k → k < lo ∨ hi ≤ k) ∧ Has w lo hi A xs
section
variable {w w' : World} {X Y : Nat → Prop} {A : Option Addr} {xs : List Int}
theorem Clear.on (h : Clear w X A xs) (hb : Below w.heap.size w w') : Clear w' X A xs := by
  obtain ⟨lo, hi, h1, h2, h3⟩ := h
  exact ⟨lo, hi, Nat.le_trans h1 hb.size, h2, h3.on hb h1⟩
theorem Clear.set (h : Clear w X A xs) {p : Addr} (hp : X p.block) (u : Value) : Clear (w.setCell p u) X A xs := by
  obtain ⟨lo, hi, h1, h2, h3⟩ := h
  exact ⟨lo, hi, by simp [World.setCell]; exact h1, h2, h3.set (h2 _ hp) u⟩
theorem Clear.drew (h : Clear w X A xs) : Clear w.drew X A xs := h
theorem Clear.imp (h : Clear w X A xs) (hY : ∀ k, Y k → X k ∨ w.heap.size ≤ k) : Clear w Y A xs := by
  obtain ⟨lo, hi, h1, h2, h3⟩ := h
  exact ⟨lo, hi, h1, fun k hk => (hY k hk).elim (h2 k) (fun h => .inr (Nat.le_trans h1 h)), h3⟩
theorem Clear.grown {row : Option Nat} (h : Clear w X A xs) (hg : w.grownBy w' row) (hr : ∀ k, row = some k → X k) : Clear w' X A xs := by
  obtain ⟨lo, hi, h1, h2, h3⟩ := h
  refine ⟨lo, hi, Nat.le_trans h1 hg.size, h2, h3.keep fun p hp1 hp2 => World.cell?_of_block (hg.block _ (by omega) (fun e => ?_))⟩
  have := h2 _ (hr _ e.symm)
  omega
theorem Has.clear {lo hi : Nat} (h : Has w lo hi A xs) (hh : hi ≤ w.heap.size) (hX : ∀ k, X k → k < lo ∨ hi ≤ k) : Clear w X A xs := ⟨lo, hi, hh, hX, h⟩
end

/-- The variable in gt is a turn, the one in gd dice; the order's numbers are in neither, nor in a block of X. -/
def Sv (w : World) (gt gd : Nat) (s : ByteArray) (X : Nat → Prop) (st : Tn) : Prop :=
  ∃ A c, Tb w gt (.slice A st.T.length c) (st.p : Nat) ∧ Box w gd s (st.a : Nat) ∧ Clear w (fun k => k = gt ∨ k = gd ∨ X k) A st.T
section
variable {w w' : World} {gt gd : Nat} {s : ByteArray} {X : Nat → Prop} {st : Tn}
theorem Sv.on (h : Sv w gt gd s X st) (hb : Below w.heap.size w w') : Sv w' gt gd s X st := by
  obtain ⟨A, c, h1, h2, h3⟩ := h
  exact ⟨A, c, h1.on hb, h2.on hb, h3.on hb⟩
theorem Sv.lt (h : Sv w gt gd s X st) : gt < w.heap.size ∧ gd < w.heap.size := by
  obtain ⟨A, c, h1, h2, h3⟩ := h
  exact ⟨h1.lt, h2.lt⟩
/-- What was answered is stored into both. -/
theorem Sv.put {v : Value} {p a : Int} (h1 : Tb w gt v p) (h2 : Box w gd s a) (hne : gt ≠ gd) (A : Option Addr) (c : Nat) (h3 : Clear w (fun k => k = gt ∨ k = gd ∨ X k) A st.T) :
    Sv ((((w.setCell ⟨gt, 0, none⟩ (.slice A st.T.length c)).setCell ⟨gt, 1, none⟩ (.int .i64 (st.p : Nat))).setCell ⟨gd, 0, none⟩ (.string s)).setCell ⟨gd, 1, none⟩ (.int .i64 (st.a : Nat))).drew gt gd s X st := by
  have h2' := (h2.far (p := ⟨gt, 0, none⟩) hne.symm (.slice A st.T.length c)).far (p := ⟨gt, 1, none⟩) hne.symm (.int .i64 (st.p : Nat))
  refine ⟨A, c, ?_, ?_, ?_⟩
  · exact (((h1.put (.slice A st.T.length c) (st.p : Nat)).far (a := ⟨gd, 0, none⟩) hne _).far (a := ⟨gd, 1, none⟩) hne _).drew
  · exact (h2'.put s (st.a : Nat)).drew
  · exact ((((h3.set (p := ⟨gt, 0, none⟩) (.inl rfl) _).set (p := ⟨gt, 1, none⟩) (.inl rfl) _).set (p := ⟨gd, 0, none⟩) (.inr (.inl rfl)) _).set (p := ⟨gd, 1, none⟩) (.inr (.inl rfl)) _).drew
end
theorem below_four {W : Nat} {w0 w : World} {g1 g2 : Nat} (h : Below W w0 w) (h1 : W ≤ g1) (h2 : W ≤ g2) (v0 v1 v2 v3 : Value) :
    Below W w0 ((((w.setCell ⟨g1, 0, none⟩ v0).setCell ⟨g1, 1, none⟩ v1).setCell ⟨g2, 0, none⟩ v2).setCell ⟨g2, 1, none⟩ v3).drew :=
  ((((h.setCell (p := ⟨g1, 0, none⟩) h1 v0).setCell (p := ⟨g1, 1, none⟩) h1 v1).setCell (p := ⟨g2, 0, none⟩) h2 v2).setCell (p := ⟨g2, 1, none⟩) h2 v3).drew
/-- Two boxes laid behind an answer. -/
theorem boxes_new (w1 : World) (v : Value) (p : Int) (s : ByteArray) (a : Int) :
    Tb ((w1.alloc (.cells #[v, .int .i64 p] 24)).alloc (.cells #[.string s, .int .i64 a] 26)) w1.heap.size v p ∧
    Box ((w1.alloc (.cells #[v, .int .i64 p] 24)).alloc (.cells #[.string s, .int .i64 a] 26)) (w1.heap.size + 1) s a ∧
    Below w1.heap.size w1 ((w1.alloc (.cells #[v, .int .i64 p] 24)).alloc (.cells #[.string s, .int .i64 a] 26)) := by
  refine ⟨(Tb.new w1 _ _ _).alloc _, ?_, ((Below.refl _ _).alloc (Nat.le_refl _) _).alloc (by simp) _⟩
  have := Box.new (w1.alloc (.cells #[v, .int .i64 p] 24)) s a 26
  simpa using this
/-- The same, laid the other way round. -/
theorem boxes_wen (w1 : World) (v : Value) (p : Int) (s : ByteArray) (a : Int) :
    Tb ((w1.alloc (.cells #[.string s, .int .i64 a] 26)).alloc (.cells #[v, .int .i64 p] 24)) (w1.heap.size + 1) v p ∧
    Box ((w1.alloc (.cells #[.string s, .int .i64 a] 26)).alloc (.cells #[v, .int .i64 p] 24)) w1.heap.size s a ∧
    Below w1.heap.size w1 ((w1.alloc (.cells #[.string s, .int .i64 a] 26)).alloc (.cells #[v, .int .i64 p] 24)) := by
  refine ⟨?_, (Box.new w1 _ _ _).alloc _, ((Below.refl _ _).alloc (Nat.le_refl _) _).alloc (by simp) _⟩
  have := Tb.new (w1.alloc (.cells #[.string s, .int .i64 a] 26)) v p 24
  simpa using this
/-- A turn of nothing. -/
theorem Sv.start {w : World} {gt gd : Nat} {s : ByteArray} {X : Nat → Prop} {b : Nat} (h1 : Tb w gt (.slice none 0 0) 0) (h2 : Box w gd s (b : Nat)) : Sv w gt gd s X ⟨[], 0, b⟩ :=
  ⟨none, 0, h1, h2, ⟨0, 0, Nat.zero_le _, fun _ _ => .inr (Nat.zero_le _), Has.nil _ _ _ _⟩⟩
/-- A variable that holds dice, where both others are stored. -/
theorem Box.four {w : World} {g g1 g2 : Nat} {s : ByteArray} {a : Int} (h : Box w g s a) (h1 : g ≠ g1) (h2 : g ≠ g2) (v0 v1 v2 v3 : Value) :
    Box ((((w.setCell ⟨g1, 0, none⟩ v0).setCell ⟨g1, 1, none⟩ v1).setCell ⟨g2, 0, none⟩ v2).setCell ⟨g2, 1, none⟩ v3).drew g s a :=
  ((((h.far (p := ⟨g1, 0, none⟩) h1 v0).far (p := ⟨g1, 1, none⟩) h1 v1).far (p := ⟨g2, 0, none⟩) h2 v2).far (p := ⟨g2, 1, none⟩) h2 v3).drew
theorem Clear.four {w : World} {X : Nat → Prop} {g1 g2 : Nat} {A : Option Addr} {xs : List Int} (h : Clear w X A xs) (h1 : X g1) (h2 : X g2) (v0 v1 v2 v3 : Value) :
    Clear ((((w.setCell ⟨g1, 0, none⟩ v0).setCell ⟨g1, 1, none⟩ v1).setCell ⟨g2, 0, none⟩ v2).setCell ⟨g2, 1, none⟩ v3).drew X A xs :=
  ((((h.set (p := ⟨g1, 0, none⟩) h1 v0).set (p := ⟨g1, 1, none⟩) h1 v1).set (p := ⟨g2, 0, none⟩) h2 v2).set (p := ⟨g2, 1, none⟩) h2 v3).drew
theorem Clear.has {w : World} {X : Nat → Prop} {A : Option Addr} {xs : List Int} (h : Clear w X A xs) : Has w 0 w.heap.size A xs := by
  obtain ⟨lo, hi, h1, _, h3⟩ := h
  exact h3.wide (Nat.zero_le _) h1
/-- What a law asks of the document's dice. -/
theorem rdmay_any (s : ByteArray) (a : Int) (w : World) (L : Bool) (h : okD s a = L) : Calls Try.prog 20 #[.agg #[.string s, .int .i64 a]] w fun e w' => e = .returned (.bool L) ∧ Below w.heap.size w w' := h ▸ by
  by_cases h : 0 ≤ a ∧ a ≤ (s.size : Int)
  · obtain ⟨b, rfl⟩ := Int.eq_ofNat_of_zero_le h.1
    have e : okD s b = true := by simp [okD]; omega
    rw [e]
    exact may_yes s b w (by omega)
  · have e : okD s a = false := by simp [okD]; omega
    rw [e]
    exact may_no s a w (by omega)
end Go.Proofs.Ytphcmjhphoacgaa
