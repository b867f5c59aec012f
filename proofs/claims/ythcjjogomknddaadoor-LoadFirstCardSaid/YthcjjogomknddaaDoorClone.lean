/-
  The walk of the library's Clone at numbers.
-/
import Derived.Test.YthcjjogomknddaaDoorRoll
import Derived.Laws.AppendOwn
import Derived.Lib.SliceRun
namespace Go.Proofs.YthcjjogomknddaaDoor
open Go.RowKit Go.Proofs.YthcjjogomknddaaDoor.Pure

theorem Tryd.infoInt : (Tryd.prog.info? 3).map (fun i => (i.zero, i.size, i.bytes)) = some (some (.int .i64 0), 1, 8) := by kernel_rfl

/-- The cells of numbers. -/
def ints (xs : List Int) : List Value := xs.map (Value.int .i64)
/-- The slice v is the call's own, in blocks from B on, and holds the numbers xs. -/
def Own (w : World) (B : Nat) (v : Value) (xs : List Int) : Prop := w.ownsRow B 3 1 v xs.length (ints xs)

theorem ints_one (xs : List Int) : ∀ u ∈ ints xs, u.oneCell' = true := by
  intro u hu
  obtain ⟨x, _, rfl⟩ := List.mem_map.1 hu
  rfl
theorem ints_at (xs : List Int) (j : Nat) (u : Value) (h : (ints xs)[j]? = some u) : j < xs.length ∧ u = .int .i64 (xs.getD j 0) := by
  unfold ints at h
  rw [List.getElem?_map] at h
  rcases hj : xs[j]? with _ | x
  · rw [hj] at h; cases h
  · rw [hj] at h
    have hl := (List.getElem?_eq_some_iff.1 hj).1
    simp at h
    exact ⟨hl, by rw [← h, List.getD, hj]; rfl⟩
theorem Has.cells {w : World} {lo hi : Nat} {ad : Addr} {xs : List Int} (h : Has w lo hi (some ad) xs) (j : Nat) (u : Value) (hu : (ints xs)[j]? = some u) : w.cell? (ad.add j) = some u := by
  obtain ⟨hj, rfl⟩ := ints_at xs j u hu
  obtain ⟨ad', e, _, _, c⟩ := h j hj
  obtain rfl := Option.some.inj e
  exact c

/-- The numbers of a slice of the call's own, wherever it lies. -/
theorem Own.has {w : World} {B : Nat} {v : Value} {xs : List Int} (h : Own w B v xs) : ∃ (A : Option Addr) (c : Nat), v = .slice A xs.length c ∧ xs.length ≤ c ∧ Has w B w.heap.size A xs := by
  rcases h.2 with ⟨rfl, hn⟩ | ⟨g, cap, cur, rfl, hg, hh, hcap, _, _, _⟩
  · have : xs = [] := List.eq_nil_of_length_eq_zero hn
    subst this
    exact ⟨none, 0, rfl, Nat.le_refl _, Has.nil _ _ _ _⟩
  · have hlt := World.ownsRow.lt (w := w) (v := .slice (some ⟨g, 0, none⟩) xs.length cap) h g rfl
    refine ⟨some ⟨g, 0, none⟩, cap, rfl, hcap, fun j hj => ⟨_, rfl, hlt.1, hlt.2, ?_⟩⟩
    exact World.ownsRow.cells (w := w) (v := .slice (some ⟨g, 0, none⟩) xs.length cap) h (g := g) rfl j _ (by simp [ints, List.getD, hj])

theorem Has.none_nil {w : World} {lo hi : Nat} {xs : List Int} (h : Has w lo hi none xs) : xs = [] := by
  rcases xs with _ | ⟨x, r⟩
  · rfl
  · obtain ⟨ad, e, _⟩ := h 0 (by simp)
    cases e

theorem run_append_nothing (w : World) (ty : TypeId) (B : Nat) (v : Value) (xs : List Int) (hown : Own w B v xs) (c : Nat) (i0 : TypeInfo) (hi0 : Tryd.prog.info? 3 = some i0) :
    (Builtin.append_ #[22, 22] ty #[v, .slice none 0 c]).run Tryd.prog w = .ok v w := by
  have ht := Tryd.underlying22
  rcases hown.2 with ⟨rfl, _⟩ | ⟨g, cap, cur, rfl, _, _, hnc, _⟩
  · simp [Builtin.append_, run_underlying ht, sizeOf, typeInfo, hi0, Builtin.lenOf, Builtin.firstCells]
  · simp [Builtin.append_, run_underlying ht, sizeOf, typeInfo, hi0, Builtin.lenOf, Builtin.firstCells, hnc, storeCells]

/-- append onto a slice of the call's own, of any slice of numbers, nil too. -/
theorem wpList_append_has {w : World} {ops : Array Oper} {rest : List Oper} {o : Oper} {a : Act} {Q : Exit → Act → World → Prop} (hgd : o.guard = none) (s x : Operand)
    (ho : o.op = .call { callee := .builtin .append, args := #[s, x], argTypes := #[22, 22] })
    (B : Nat) (v : Value) (xs : List Int) (hs : a.eval s = v) (hown : Own w B v xs) (A : Option Addr) (c lo hi : Nat) (ys : List Int) (hx : a.eval x = .slice A ys.length c) (hh : Has w lo hi A ys)
    (hlen : xs.length + ys.length ≤ 100000) (hB : B ≤ w.heap.size)
    (h : ∀ v' w', Own w' B v' (xs ++ ys) → w.grownBy w' v.ownBlock → wpList Tryd.prog ops Q rest (a.put o.dst v') w') : wpList Tryd.prog ops Q (o :: rest) a w := by
  obtain ⟨i0, hi0, hz0, hz1, hz2⟩ := info_parts Tryd.infoInt
  rcases A with _ | ad
  · obtain rfl := hh.none_nil
    refine wpList_plain hgd fun K hK => ?_
    have hr := run_append_nothing w o.type B v xs hown c i0 hi0
    unfold Oper.wp execOp
    simp only [List.length_nil] at hx
    simp only [ho, resolve, invoke, builtin, Sem.run_bind, Sem.run_pure, Result.andThen_ok, List.map_toArray, List.map_cons, List.map_nil, hs, hx, hr]
    exact hK _ _ (h v w (by simpa using hown) (World.grownBy.refl _ _))
  · refine wpList_append_own _ hgd s x 22 ho B 3 i0 (.int .i64 0) 1 8 Tryd.underlying22 hi0 hz0 hz1 hz2 rfl (by decide) v _ _ hs hown ad ys.length c (ints ys) hx (by simp [ints]) hh.cells (ints_one ys) (by unfold maxLen; omega) (by omega) hB ?_
    intro v' w1 hown1 hgrow _
    exact h v' w1 (by simpa [Own, ints] using hown1) hgrow

end Go.Proofs.YthcjjogomknddaaDoor
