/-
  A message that lies in a block, read as a whole.
-/
import Derived.Test.YtjeepmdklbfgeaaDoorVar
import Derived.Deep.MidRow
namespace Go.Proofs.YtjeepmdklbfgeaaDoor
open Go.Sort Go.RowKit Go.Proofs.YtjeepmdklbfgeaaDoor.Pure

theorem row_range {w : World} {b : Nat} {cs : List Value} (h : Row w b cs) : w.rangeAt b 0 cs := fun j v hv => by
  rw [Nat.zero_add]
  exact h.at_ j v hv
theorem load_row {w : World} {b : Nat} {cs : List Value} (h : Row w b cs) (hl : cs.length = 15) : (Instr.loadAt 28 (.pointer (some ⟨b, 0, none⟩))).run Tryd.prog w = .ok (.agg cs.toArray) w :=
  run_loadAt_mid w b 0 28 cs _ (row_range h) Tryd.underlying28 rfl (by rw [hl]; kernel_rfl)
theorem row_regrown {w : World} {b : Nat} {cs : List Value} (h : Row w b cs) (hc : 0 < cs.length) (d : Nat) (os : Array Obj) : Row (grow (redrawn w d) os) b cs := h.on (below_regrown w d os) hc
theorem load_regrown {w : World} {b : Nat} {x0 x1 x2 x3 x4 x5 x6 x7 x8 x9 x10 x11 x12 x13 x14 : Value} (h : Row w b [x0, x1, x2, x3, x4, x5, x6, x7, x8, x9, x10, x11, x12, x13, x14]) (d : Nat) (os : Array Obj) :
    (Instr.loadAt 28 (.pointer (some ⟨b, 0, none⟩))).run Tryd.prog (grow (redrawn w d) os) = .ok (.agg #[x0, x1, x2, x3, x4, x5, x6, x7, x8, x9, x10, x11, x12, x13, x14]) (grow (redrawn w d) os) :=
  load_row (row_regrown h (by simp) d os) rfl
/-- A load of a whole message, under a guard that says yes. -/
theorem wpList_load_g {ops : Array Oper} {rest : List Oper} {op : Oper} {a : Act} {w : World} {Q : Exit → Act → World → Prop} (hw : Region.wanted op (yielded ops a.tmps) = true) (x : Operand) (ho : op.op = .load 28 x)
    (b : Nat) (hx : a.eval x = .pointer (some ⟨b, 0, none⟩)) (cs : List Value) (hl : cs.length = 15) (hc : Row w b cs)
    (h : wpList Tryd.prog ops Q rest (a.put op.dst (.agg cs.toArray)) w) : wpList Tryd.prog ops Q (op :: rest) a w :=
  wpList_step fun K hK => by
    rw [if_pos hw]
    exact wp_load_mid 28 x ho b 0 hx cs _ (row_range hc) Tryd.underlying28 rfl (by rw [hl]; kernel_rfl) (hK _ _ h)
/-- The same in a region that draws its order. -/
theorem q_load {ops : Array Oper} {C : World → Prop} {Q : Act → Prop} {a : Act} {o : Oper} {rest : List Oper} (hw : Region.wanted o (yielded ops a.tmps) = true) (x : Operand) (ho : o.op = .load 28 x)
    (b : Nat) (hx : a.eval x = .pointer (some ⟨b, 0, none⟩)) (cs : List Value) (hl : cs.length = 15) (hS : ∀ w, C w → Row w b cs)
    (h : Shut (wpQuiet Tryd.prog ops C Q rest (a.put o.dst (.agg cs.toArray)))) : Shut (wpQuiet Tryd.prog ops C Q (o :: rest) a) := ⟨by
  unfold wpQuiet
  rw [if_pos hw]
  refine ⟨_, fun w hw' => ?_, h.out⟩
  have h1 := load_row (hS w hw') hl
  unfold Oper.quietAt execOp
  simp only [ho, hx, Sem.run_bind, h1, Result.andThen_ok, Sem.run_pure]
  exact ⟨rfl, rfl⟩⟩
end Go.Proofs.YtjeepmdklbfgeaaDoor
