/-
  A variable that holds a message, written as a whole.
-/
import Derived.Test.YtjeepmdklbfgeaaDoorFew
import Derived.Test.YtjeepmdklbfgeaaDoorAwake
import Derived.Test.YtjeepmdklbfgeaaDoorBase
import Derived.Laws.Tables
namespace Go.Proofs.YtjeepmdklbfgeaaDoor
open Go.Sort Go.RowKit Go.Proofs.YtjeepmdklbfgeaaDoor.Pure Go.Proofs.YtjeepmdklbfgeaaDoor.W Go.Proofs.YtjeepmdklbfgeaaDoor.W.Pure

/-- A message's cells, as an array of one-cell values. -/
def Mv (v : Value) : Prop := ∃ cells : Array Value, v = .agg cells ∧ cells.size = 15 ∧ cells.all (·.oneCell') = true
theorem mv_mvv (m : Mg) (A T : Option Addr) (n c n' c' : Nat) : Mv (mvv m (.slice A n c) (.slice T n' c')) := ⟨_, rfl, rfl, by simp [Value.oneCell']⟩
theorem mv_few (m : Mg) (A T : Option Addr) (c c' : Nat) : Mv (fewV m A c T c') := mv_mvv _ _ _ _ _ _ _
theorem MsgV.mv {w : World} {v : Value} {m : Mg} (h : MsgV w v m) : Mv v := by
  obtain ⟨A, cA, T, cT, rfl, _⟩ := h
  exact mv_mvv _ _ _ _ _ _ _
/-- Block b holds the value v, of fifteen cells; it may be written. -/
def Var (w : World) (b : Nat) (v : Value) : Prop := ∃ cells : Array Value, v = .agg cells ∧ cells.size = 15 ∧ cells.all (·.oneCell') = true ∧ w.heap[b]? = some (.cells cells 28 (0, 0))
theorem Var.lt {w : World} {b : Nat} {v : Value} (h : Var w b v) : b < w.heap.size := by
  obtain ⟨cs, _, _, _, hb⟩ := h
  exact (Array.getElem?_eq_some_iff.1 hb).1
theorem Var.blk {w w' : World} {b : Nat} {v : Value} (h : Var w b v) (hb : w'.heap[b]? = w.heap[b]?) : Var w' b v := by
  obtain ⟨cs, h1, h2, h3, h4⟩ := h
  exact ⟨cs, h1, h2, h3, hb.trans h4⟩
theorem Var.on {w w' : World} {b : Nat} {v : Value} (h : Var w b v) (hb : Below w.heap.size w w') : Var w' b v := h.blk (hb.block b h.lt)
theorem Var.new (w : World) (m : Mg) (A T : Option Addr) (n c n' c' : Nat) : Var (w.alloc (.cells #[.int .i64 m.kd, .int .i64 m.fr, .int .i64 m.to, .int .u64 (m.sq : Int), .int .i64 m.wh, .int .u64 m.k.i, .int .i64 m.k.s, (.slice A n c), (.slice T n' c'), .int .u64 (m.ep : Int), .int .u64 (m.bo : Int), .int .i64 m.ak, .string m.ts, .int .u64 (m.tn : Int), .bool m.gd] 28)) w.heap.size (mvv m (.slice A n c) (.slice T n' c')) :=
  ⟨_, rfl, rfl, by simp [Value.oneCell'], by show (w.heap.push _)[w.heap.size]? = _; simp⟩
theorem Var.cell {w : World} {b : Nat} {v : Value} (h : Var w b v) : ∃ cells : Array Value, v = .agg cells ∧ cells.size = 15 ∧ (∀ j, j < 15 → w.cell? ⟨b, j, none⟩ = cells[j]?) ∧ ∀ o : Nat, w.frozen? ⟨b, o, none⟩ = false := by
  obtain ⟨cs, h1, h2, h3, h4⟩ := h
  refine ⟨cs, h1, h2, fun j _ => by simp [World.cell?, h4], fun o => by simp [World.frozen?, h4]⟩
/-- The cells of a variable that holds a message. -/
theorem Var.row {w : World} {b : Nat} {m : Mg} {A T : Option Addr} {n c n' c' : Nat} (h : Var w b (mvv m (.slice A n c) (.slice T n' c'))) : Row w b [.int .i64 m.kd, .int .i64 m.fr, .int .i64 m.to, .int .u64 (m.sq : Int), .int .i64 m.wh, .int .u64 m.k.i, .int .i64 m.k.s, (.slice A n c), (.slice T n' c'), .int .u64 (m.ep : Int), .int .u64 (m.bo : Int), .int .i64 m.ak, .string m.ts, .int .u64 (m.tn : Int), .bool m.gd] := by
  obtain ⟨cs, h1, h2, hc, hf⟩ := h.cell
  unfold mvv at h1
  injection h1 with h1
  rw [← h1] at hc
  exact ⟨fun j hj => by rw [hc j hj]; simp, hf⟩
/-- Nothing but block b has turned. -/
def Just (b : Nat) (w w' : World) : Prop := w'.os = w.os ∧ w'.tape = w.tape ∧ w'.output = w.output ∧ w'.heap.size = w.heap.size ∧ ∀ k, k ≠ b → w'.heap[k]? = w.heap[k]?
theorem Just.below {b B : Nat} {w0 w w' : World} (h : Just b w w') (k : Below B w0 w) (hB : B ≤ b) : Below B w0 w' :=
  k.trans ⟨h.1, h.2.1, h.2.2.1, Nat.le_of_eq h.2.2.2.1.symm, fun i hi => h.2.2.2.2 i (by omega)⟩
theorem Just.var {b c : Nat} {w w' : World} {v : Value} (h : Just b w w') (k : Var w c v) (hc : c ≠ b) : Var w' c v := k.blk (h.2.2.2.2 c hc)
theorem Just.size {b : Nat} {w w' : World} (h : Just b w w') : w'.heap.size = w.heap.size := h.2.2.2.1
theorem Just.tab {b : Nat} {w w' : World} (h : Just b w w') (ht : Tab w) (hb : ¬ 0 = b) : Tab w' := fun i hi => by
  rw [World.cell?_of_block (w := w) (h.2.2.2.2 _ hb)]
  exact ht i hi
/-- The store of a whole message. -/
theorem wpList_store_var {w : World} {ops : Array Oper} {rest : List Oper} {o : Oper} {a : Act} {Q : Exit → Act → World → Prop} (hg : o.guard = none) (x y : Operand) (ho : o.op = .store 28 x y)
    (b : Nat) (v v' : Value) (hx : a.eval x = .pointer (some ⟨b, 0, none⟩)) (hy : a.eval y = v') (h : Var w b v) (hv : Mv v')
    (hK : ∀ w', Var w' b v' → Just b w w' → wpList Tryd.prog ops Q rest (a.put o.dst undef) w') : wpList Tryd.prog ops Q (o :: rest) a w := by
  obtain ⟨old, _, h2, _, h4⟩ := h
  obtain ⟨cells, rfl, s2, s3⟩ := hv
  refine wpList_plain hg fun K' hK' => ?_
  have hi : (Tryd.prog.info? 28).map (·.size) = some cells.size := by rw [s2]; kernel_rfl
  refine wp_store_row 28 x y ho b cells hx hy 28 old h4 hi (by rw [h2, s2]) s3 (hK' _ _ (hK _ ?_ ?_))
  · exact ⟨cells, rfl, s2, s3, setRow_heap w b old cells _ _ h4⟩
  · exact ⟨rfl, rfl, rfl, by simp [World.setRow], fun k hk => setRow_other w b k cells (fun e => hk e)⟩
end Go.Proofs.YtjeepmdklbfgeaaDoor
