/-
  What memory holds: what is saved, a disk, what is found, each in a block of its own.
-/
import Derived.Test.YtlpnhpnigljlnaaDoorQt
import Derived.Test.YtlpnhpnigljlnaaDoorDkP
import Derived.WalkKit
import Derived.Lib.Hide
namespace Go.Proofs.YtlpnhpnigljlnaaDoor
open Go.RowKit Go.Proofs.YtlpnhpnigljlnaaDoor.Pure

/-- As values. -/
def svL (s : Sv) : List Value := [.int .u64 s.q, .int .u64 s.b, .int .u64 s.i, .int .u64 s.e, .int .i64 s.u]
/-- A block that holds what is saved. -/
def SvA (w : World) (g : Nat) (s : Sv) : Prop := w.cell? ⟨g, 0, none⟩ = some (.int .u64 s.q) ∧ w.cell? ⟨g, 1, none⟩ = some (.int .u64 s.b) ∧ w.cell? ⟨g, 2, none⟩ = some (.int .u64 s.i) ∧ w.cell? ⟨g, 3, none⟩ = some (.int .u64 s.e) ∧ w.cell? ⟨g, 4, none⟩ = some (.int .i64 s.u)
/-- One that holds a disk. -/
def DkA (w : World) (g : Nat) (d : Dk) : Prop := w.cell? ⟨g, 0, none⟩ = some (.string d.a) ∧ w.cell? ⟨g, 1, none⟩ = some (.string d.b)
/-- One that holds what is found. -/
def FdA (w : World) (g : Nat) (o : Bool) (s : Sv) : Prop := w.cell? ⟨g, 0, none⟩ = some (.bool o) ∧ w.cell? ⟨g, 1, none⟩ = some (.int .u64 s.q) ∧ w.cell? ⟨g, 2, none⟩ = some (.int .u64 s.b) ∧ w.cell? ⟨g, 3, none⟩ = some (.int .u64 s.i) ∧ w.cell? ⟨g, 4, none⟩ = some (.int .u64 s.e) ∧ w.cell? ⟨g, 5, none⟩ = some (.int .i64 s.u)
section
variable {w w' : World} {g : Nat} {s : Sv} {d : Dk} {o : Bool}
theorem SvA.lt (h : SvA w g s) : g < w.heap.size := World.block_lt_of_cell? w _ h.1
theorem DkA.lt (h : DkA w g d) : g < w.heap.size := World.block_lt_of_cell? w _ h.1
theorem FdA.lt (h : FdA w g o s) : g < w.heap.size := World.block_lt_of_cell? w _ h.1
theorem SvA.old {B : Nat} (h : SvA w g s) (hb : Below B w w') (hB : g < B) : SvA w' g s := ⟨(hb.cell hB).trans h.1, (hb.cell hB).trans h.2.1, (hb.cell hB).trans h.2.2.1, (hb.cell hB).trans h.2.2.2.1, (hb.cell hB).trans h.2.2.2.2⟩
theorem DkA.old {B : Nat} (h : DkA w g d) (hb : Below B w w') (hB : g < B) : DkA w' g d := ⟨(hb.cell hB).trans h.1, (hb.cell hB).trans h.2⟩
theorem FdA.old {B : Nat} (h : FdA w g o s) (hb : Below B w w') (hB : g < B) : FdA w' g o s := ⟨(hb.cell hB).trans h.1, (hb.cell hB).trans h.2.1, (hb.cell hB).trans h.2.2.1, (hb.cell hB).trans h.2.2.2.1, (hb.cell hB).trans h.2.2.2.2.1, (hb.cell hB).trans h.2.2.2.2.2⟩
theorem SvA.on (h : SvA w g s) (hb : Below w.heap.size w w') : SvA w' g s := h.old hb h.lt
theorem DkA.on (h : DkA w g d) (hb : Below w.heap.size w w') : DkA w' g d := h.old hb h.lt
theorem FdA.on (h : FdA w g o s) (hb : Below w.heap.size w w') : FdA w' g o s := h.old hb h.lt
theorem SvA.new (w : World) (s : Sv) (t : TypeId) : SvA (w.alloc (.cells #[.int .u64 s.q, .int .u64 s.b, .int .u64 s.i, .int .u64 s.e, .int .i64 s.u] t)) w.heap.size s := ⟨by go_simp, by go_simp, by go_simp, by go_simp, by go_simp⟩
theorem DkA.new (w : World) (d : Dk) (t : TypeId) : DkA (w.alloc (.cells #[.string d.a, .string d.b] t)) w.heap.size d := ⟨by go_simp, by go_simp⟩
theorem FdA.new (w : World) (o : Bool) (s : Sv) (t : TypeId) : FdA (w.alloc (.cells #[.bool o, .int .u64 s.q, .int .u64 s.b, .int .u64 s.i, .int .u64 s.e, .int .i64 s.u] t)) w.heap.size o s := ⟨by go_simp, by go_simp, by go_simp, by go_simp, by go_simp, by go_simp⟩
end
/-- What may be saved, of what a node's number is. -/
def mayB (s : Sv) : Bool := decide (-1 ≤ s.u) && decide (s.u ≤ 63)
/-- Its numbers are of 64 bits. -/
structure FitS (s : Sv) : Prop where
  q : 0 ≤ s.q ∧ s.q < 18446744073709551616
  b : 0 ≤ s.b ∧ s.b < 18446744073709551616
  i : 0 ≤ s.i ∧ s.i < 18446744073709551616
  e : 0 ≤ s.e ∧ s.e < 18446744073709551616
  u : -9223372036854775808 ≤ s.u ∧ s.u ≤ 9223372036854775807
theorem FitS.sv {s : Sv} (h : FitS s) (hm : mayB s = true) : SvO s := by
  have h1 := h.q; have h2 := h.b; have h3 := h.i; have h4 := h.e
  unfold mayB at hm
  simp only [Bool.and_eq_true, decide_eq_true_eq] at hm
  exact ⟨by omega, by omega, by omega, by omega, hm⟩
theorem Pure.SvO.fit {s : Sv} (h : SvO s) : FitS s := by
  have h1 := h.q; have h2 := h.b; have h3 := h.i; have h4 := h.e; have h5 := h.u
  exact ⟨by omega, by omega, by omega, by omega, by omega⟩
theorem Pure.SvO.may {s : Sv} (h : SvO s) : mayB s = true := by
  have h5 := h.u
  unfold mayB
  simp only [Bool.and_eq_true, decide_eq_true_eq]
  exact h5
theorem nilD_O : SvO nilD := ⟨by decide, by decide, by decide, by decide, by decide⟩
theorem parS_O (t : ByteArray) : SvO (parS t) := by
  unfold parS
  cases h : parC t with
  | none => exact nilD_O
  | some s => exact (wy_C.laid t s h).1
/-! ### who may be -/
set_option maxRecDepth 100000 in
set_option maxHeartbeats 1000000 in
theorem rmay_any (s : Sv) (w : World) : Calls Tryd.prog 15 #[.agg #[.int .u64 s.q, .int .u64 s.b, .int .u64 s.i, .int .u64 s.e, .int .i64 s.u]] w fun e w' => e = .returned (.bool (mayB s)) ∧ Below w.heap.size w w' := by
  have HB : Hid (Below w.heap.size w (w.alloc (.cells #[.int .u64 s.q, .int .u64 s.b, .int .u64 s.i, .int .u64 s.e, .int .i64 s.u] 26))) := Lib.hid ((Below.refl _ _).alloc (Nat.le_refl _) _)
  have hm : mayB s = (decide (-1 ≤ s.u) && decide (s.u ≤ 63)) := rfl
  rw [hm]
  generalize s.q = q at *
  generalize s.b = b at *
  generalize s.i = i at *
  generalize s.e = e at *
  generalize s.u = t at *
  clear hm
  go_enter Tryd.func15, Tryd.ntmps15
  by_cases h0 : -1 ≤ t
  · have e0 : decide (-1 ≤ t) = true := by simpa using h0
    go_wp2
    go_ret
    exact ⟨by simp [h0], HB.out⟩
  · have e0 : decide (-1 ≤ t) = false := by simpa using h0
    go_wp2
    go_ret
    exact ⟨by simp, HB.out⟩
set_option maxRecDepth 100000 in
set_option maxHeartbeats 1000000 in
theorem may_any (s : Sv) (w : World) : Calls Tryd.prog 28 #[.agg #[.int .u64 s.q, .int .u64 s.b, .int .u64 s.i, .int .u64 s.e, .int .i64 s.u]] w fun e w' => e = .returned (.bool (mayB s)) ∧ Below w.heap.size w w' := by
  have HB : Hid (Below w.heap.size w (w.alloc (.cells #[.int .u64 s.q, .int .u64 s.b, .int .u64 s.i, .int .u64 s.e, .int .i64 s.u] 26))) := Lib.hid ((Below.refl _ _).alloc (Nat.le_refl _) _)
  have hm : mayB s = (decide (-1 ≤ s.u) && decide (s.u < 64)) := by
    unfold mayB
    congr 1
    exact decide_eq_decide.2 ⟨fun h => by omega, fun h => by omega⟩
  rw [hm]
  generalize s.q = q at *
  generalize s.b = b at *
  generalize s.i = i at *
  generalize s.e = e at *
  generalize s.u = t at *
  clear hm
  go_enter Tryd.func28, Tryd.ntmps28
  by_cases h0 : -1 ≤ t
  · have e0 : decide (-1 ≤ t) = true := by simpa using h0
    go_wp2
    go_ret
    exact ⟨by simp [h0], HB.out⟩
  · have e0 : decide (-1 ≤ t) = false := by simpa using h0
    go_wp2
    go_ret
    exact ⟨by simp, HB.out⟩
end Go.Proofs.YtlpnhpnigljlnaaDoor
