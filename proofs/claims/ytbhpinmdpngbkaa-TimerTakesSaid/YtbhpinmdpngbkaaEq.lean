/-
  What laws share: two timers compared, boxes of timers, new slices.
-/
import Derived.Test.YtbhpinmdpngbkaaLaw
import Derived.Test.YtbhpinmdpngbkaaAwake
import Derived.Laws.StructEq
namespace Go.Proofs.Ytbhpinmdpngbkaa
open Go.RowKit Go.Proofs.Ytbhpinmdpngbkaa.Pure

theorem eql_tm (x y : Tm) (w : World) : (binOp .eql 33 (.agg #[.int .i64 x.a, .int .i64 x.k, .int .i64 x.o, .int .u64 x.n]) (.agg #[.int .i64 y.a, .int .i64 y.k, .int .i64 y.o, .int .u64 y.n])).run Try.prog w = .ok (.bool (decide (x = y))) w := by
  have he : decide (x = y) = (decide (x.a = y.a) && (decide (x.k = y.k) && (decide (x.o = y.o) && decide (x.n = y.n)))) := by
    rw [Bool.eq_iff_iff]
    simp [Tm.eq_iff]
  rw [he]
  go_simp
  by_cases h1 : x.a = y.a <;> by_cases h2 : x.k = y.k <;> by_cases h3 : x.o = y.o <;> by_cases h4 : x.n = y.n <;> simp [h1, h2, h3, h4]
theorem neq_tm (x y : Tm) (w : World) : (binOp .neq 33 (.agg #[.int .i64 x.a, .int .i64 x.k, .int .i64 x.o, .int .u64 x.n]) (.agg #[.int .i64 y.a, .int .i64 y.k, .int .i64 y.o, .int .u64 y.n])).run Try.prog w = .ok (.bool (!decide (x = y))) w := by
  have he : decide (x = y) = (decide (x.a = y.a) && (decide (x.k = y.k) && (decide (x.o = y.o) && decide (x.n = y.n)))) := by
    rw [Bool.eq_iff_iff]
    simp [Tm.eq_iff]
  rw [he]
  go_simp
  by_cases h1 : x.a = y.a <;> by_cases h2 : x.k = y.k <;> by_cases h3 : x.o = y.o <;> by_cases h4 : x.n = y.n <;> simp [h1, h2, h3, h4]

/-- A timer's cells where its place is a number. -/
theorem At.at_ {w : World} {b o : Nat} {x : Tm} (h : At w ⟨b, o, none⟩ x) : w.cell? ⟨b, o, none⟩ = some (.int .i64 x.a) ∧ w.cell? ⟨b, o + 1, none⟩ = some (.int .i64 x.k) ∧ w.cell? ⟨b, o + 2, none⟩ = some (.int .i64 x.o) ∧ w.cell? ⟨b, o + 3, none⟩ = some (.int .u64 x.n) := h
/-- A variable that holds a timer. -/
def Bx (w : World) (g : Nat) (x : Tm) : Prop :=
  w.cell? ⟨g, 0, none⟩ = some (.int .i64 x.a) ∧ w.cell? ⟨g, 1, none⟩ = some (.int .i64 x.k) ∧ w.cell? ⟨g, 2, none⟩ = some (.int .i64 x.o) ∧ w.cell? ⟨g, 3, none⟩ = some (.int .u64 x.n)
theorem Bx.new (w : World) (x : Tm) (t : TypeId) : Bx (w.alloc (.cells #[.int .i64 x.a, .int .i64 x.k, .int .i64 x.o, .int .u64 x.n] t)) w.heap.size x :=
  ⟨by rw [World.cell?_alloc_mark]; rfl, by rw [World.cell?_alloc_mark]; rfl, by rw [World.cell?_alloc_mark]; rfl, by rw [World.cell?_alloc_mark]; rfl⟩
theorem Bx.on {w w' : World} {g : Nat} {x : Tm} (h : Bx w g x) (hb : Below w.heap.size w w') : Bx w' g x := by
  have hg : g < w.heap.size := World.block_lt_of_cell? w _ h.1
  have hk := hb.block g hg
  exact ⟨(World.cell?_of_block (a := ⟨g, 0, none⟩) hk).trans h.1, (World.cell?_of_block (a := ⟨g, 1, none⟩) hk).trans h.2.1, (World.cell?_of_block (a := ⟨g, 2, none⟩) hk).trans h.2.2.1, (World.cell?_of_block (a := ⟨g, 3, none⟩) hk).trans h.2.2.2⟩
theorem Bx.alloc {w : World} {g : Nat} {x : Tm} (h : Bx w g x) (o : Obj) : Bx (w.alloc o) g x := h.on ((Below.refl _ _).alloc (Nat.le_refl _) o)
theorem Bx.lt {w : World} {g : Nat} {x : Tm} (h : Bx w g x) : g < w.heap.size := World.block_lt_of_cell? w _ h.1

/-- A slice of timers, made anew. -/
theorem lst_new (w : World) (xs : List Tm) (t : TypeId) : Lst (w.alloc (.cells (tms xs).toArray t)) (some ⟨w.heap.size, 0, none⟩) xs := fun j hj => by
  refine ⟨_, rfl, Nat.zero_le _, by simp, at_of_cells fun r hr => ?_⟩
  rw [World.cell?_alloc_mark]
  have := tms_at xs j r hj hr
  simpa [nth] using this

/-- append onto a slice of the call's own, of any slice of timers, where the operation is guarded, and runs. -/
theorem wpList_append_guarded {w : World} {ops : Array Oper} {rest : List Oper} {o : Oper} {a : Act} {Q : Exit → Act → World → Prop} (hw : Region.wanted o (yielded ops a.tmps) = true) (s x : Operand)
    (ho : o.op = .call { callee := .builtin .append, args := #[s, x], argTypes := #[22, 22] })
    (B : Nat) (v : Value) (xs : List Tm) (hs : a.eval s = v) (hown : Own w B v xs) (A : Option Addr) (c lo hi : Nat) (ys : List Tm) (hx : a.eval x = .slice A ys.length c) (hh : Has w lo hi A ys)
    (hlen : xs.length + ys.length ≤ 100000) (hB : B ≤ w.heap.size)
    (h : ∀ v' w', Own w' B v' (xs ++ ys) → w.grownBy w' v.ownBlock → wpList Try.prog ops Q rest (a.put o.dst v') w') : wpList Try.prog ops Q (o :: rest) a w := by
  obtain ⟨i0, hi0, hz0, hz1, hz2⟩ := info_parts Try.infoTm
  have hrun : ∃ v' w', (Builtin.append_ #[22, 22] o.type #[v, .slice A ys.length c]).run Try.prog w = .ok v' w' ∧ Own w' B v' (xs ++ ys) ∧ w.grownBy w' v.ownBlock := by
    rcases A with _ | ad
    · obtain rfl := hh.none_nil
      exact ⟨v, w, run_append_nothing w o.type B v xs hown c i0 hi0, by simpa using hown, World.grownBy.refl _ _⟩
    · obtain ⟨v', w', h1, h2, h3, _⟩ := run_append_own (P := Try.prog) w B 22 o.type 33 i0 (.agg #[.int .i64 0, .int .i64 0, .int .i64 0, .int .u64 0]) 4 32 Try.underlying22 hi0 hz0 hz1 hz2 rfl (by decide) v _ _ hown ad ys.length c (tms ys) (tms_len ys) hh.cells (tms_one ys) (by unfold maxLen; omega) (by omega) hB
      exact ⟨v', w', h1, by simpa [Own, tms_append] using h2, h3⟩
  obtain ⟨v', w', hr, h2, h3⟩ := hrun
  refine wpList_step fun K hK => ?_
  rw [if_pos hw]
  unfold Oper.wp execOp
  simp only [ho, resolve, invoke, builtin, Sem.run_bind, Sem.run_pure, Result.andThen_ok, List.map_toArray, List.map_cons, List.map_nil, hs, hx, hr]
  exact hK _ _ (h v' w' h2 h3)

/-- What is due, and then the others, are all. -/
theorem due_rest {L : List Tm} (h : Sorted L) (now : Int) : dueL now L ++ restL now L = L := by
  refine sorted_unique ?_ h (List.filter_append_perm _ _)
  refine List.pairwise_append.2 ⟨h.filter _, h.filter _, fun y hy z hz => ?_⟩
  have h1 := (List.mem_filter.1 hy).2
  have h2 := (List.mem_filter.1 hz).2
  simp at h1 h2
  rw [le_iff]
  unfold Ahead
  omega
theorem due_first {L : List Tm} (h0 : 0 < L.length) : nth (dueL (nth L 0).a L) 0 = nth L 0 ∧ 0 < (dueL (nth L 0).a L).length := by
  rcases L with _ | ⟨x, r⟩
  · simp at h0
  · have e : nth (x :: r) 0 = x := by simp [nth]
    rw [e]
    unfold dueL
    rw [List.filter_cons, if_pos (by simp)]
    simp [nth]
theorem due_none {L : List Tm} (h : Sorted L) (now : Int) (hn : ∀ x, 0 < L.length → x = nth L 0 → now < x.a) : dueL now L = [] := by
  unfold dueL
  rw [List.filter_eq_nil_iff]
  intro y hy
  obtain ⟨i, hi, rfl⟩ := nth_of_mem hy
  have h1 := le_at (h.at_ 0 i (Nat.zero_le _) hi)
  have h2 := hn _ (by omega) rfl
  have h3 : (nth L 0).a ≤ (nth L i).a := h1
  simp
  omega
end Go.Proofs.Ytbhpinmdpngbkaa
