/-
  append: of numbers, and of doubts, onto a slice of the call's own, or onto one that is full.
-/
import Derived.Test.YtknpbbplolncpaaLeaf
import Derived.ArgAppend
namespace Go.Proofs.Ytknpbbplolncpaa
open Go.Sort Go.RowKit Go.Proofs.Ytknpbbplolncpaa.Pure

theorem wp_app {w : World} {o : Oper} {a : Act} {K : Act → World → Prop} {Q : Exit → Act → World → Prop} (T : TypeId) (s x : Operand)
    (ho : o.op = .call { callee := .builtin .append, args := #[s, x], argTypes := #[T, T] }) (u v : Value) (hs : a.eval s = u) (hx : a.eval x = v) {v' : Value} {w' : World}
    (hr : (Builtin.append_ #[T, T] o.type #[u, v]).run Try.prog w = .ok v' w') (h : K (a.put o.dst v') w') : o.wp Try.prog a w K Q := by
  unfold Oper.wp execOp
  simp only [ho, resolve, invoke, builtin, Sem.run_bind, Sem.run_pure, Result.andThen_ok, List.map_toArray, List.map_cons, List.map_nil, hs, hx, hr]
  exact h
theorem wpList_app {w : World} {ops : Array Oper} {rest : List Oper} {o : Oper} {a : Act} {Q : Exit → Act → World → Prop} (hgd : o.guard = none) (T : TypeId) (s x : Operand)
    (ho : o.op = .call { callee := .builtin .append, args := #[s, x], argTypes := #[T, T] }) (u v : Value) (hs : a.eval s = u) (hx : a.eval x = v) {v' : Value} {w' : World}
    (hr : (Builtin.append_ #[T, T] o.type #[u, v]).run Try.prog w = .ok v' w') (h : wpList Try.prog ops Q rest (a.put o.dst v') w') : wpList Try.prog ops Q (o :: rest) a w :=
  wpList_plain hgd fun _ hK => wp_app T s x ho u v hs hx hr (hK _ _ h)

/-! ### numbers -/
theorem appN_own (w : World) (ty : TypeId) (B : Nat) (v : Value) (xs : List Int) (hown : OwnN w B v xs) (P : Nat → Prop) (A : Option Addr) (c : Nat) (ys : List Int) (hy : Ns w P A ys) (hlen : xs.length + ys.length ≤ 100000) (hB : B ≤ w.heap.size) :
    ∃ v' w', (Builtin.append_ #[53, 53] ty #[v, .slice A ys.length c]).run Try.prog w = .ok v' w' ∧ OwnN w' B v' (xs ++ ys) ∧ w.grownBy w' v.ownBlock ∧ (v'.ownBlock = v.ownBlock ∨ v'.ownBlock = some w.heap.size) := by
  obtain ⟨i0, hi0, hz0, hz1, hz2⟩ := info_parts Try.infoInt
  rcases A with _ | ad
  · obtain rfl := hy.none_nil
    refine ⟨v, w, ?_, by simpa using hown, World.grownBy.refl _ _, .inl rfl⟩
    have ht := Try.underlying53
    rcases hown.2 with ⟨rfl, _⟩ | ⟨g, cap, cur, rfl, _, _, hnc, _⟩
    · simp [Builtin.append_, run_underlying ht, sizeOf, typeInfo, hi0, Builtin.lenOf, Builtin.firstCells]
    · simp [Builtin.append_, run_underlying ht, sizeOf, typeInfo, hi0, Builtin.lenOf, Builtin.firstCells, hnc, storeCells]
  · obtain ⟨v', w', h1, h2, h3, _, h5⟩ := run_append_own_at (P := Try.prog) (w := w) B 53 ty 3 i0 (.int .i64 0) 1 8 Try.underlying53 hi0 hz0 hz1 hz2 rfl (by decide) v _ _ hown ad ys.length c (ints ys) (ints_len ys) hy.cells (ints_one ys) (by unfold maxLen; omega) (by omega) hB
    exact ⟨v', w', h1, by simpa [OwnN, ints_append] using h2, h3, h5⟩
theorem appN_full (w : World) (ty : TypeId) (P P' : Nat → Prop) (A : Option Addr) (xs : List Int) (hx : Ns w P A xs) (ad : Addr) (c : Nat) (ys : List Int) (hy : Ns w P' (some ad) ys) (hm : 0 < ys.length) (hlen : xs.length + ys.length ≤ 100000) (n : Nat) (hn : xs.length = n) :
    ∃ v' w', (Builtin.append_ #[53, 53] ty #[.slice A n n, .slice (some ad) ys.length c]).run Try.prog w = .ok v' w' ∧ OwnN w' w.heap.size v' (xs ++ ys) ∧ w.grownBy w' none := by
  obtain ⟨i0, hi0, hz0, hz1, hz2⟩ := info_parts Try.infoInt
  subst hn
  rcases A with _ | b
  · obtain rfl := hx.none_nil
    obtain ⟨v', w', h1, h2, h3, _⟩ := appN_own w ty w.heap.size (.slice none 0 0) [] (OwnN.nil _ _) P' (some ad) c ys hy (by simpa using hlen) (Nat.le_refl _)
    exact ⟨v', w', h1, h2, h3⟩
  · obtain ⟨v', w', h1, h2, h3⟩ := run_append_arg_grows (P := Try.prog) w 53 ty 3 i0 (.int .i64 0) 1 8 Try.underlying53 hi0 hz0 hz1 hz2 rfl (by decide) b xs.length xs.length (ints xs) (ints_len xs) hx.cells ad ys.length c (ints ys) (ints_len ys) hy.cells (by omega) (by unfold maxLen; omega) (by omega)
    exact ⟨v', w', h1, by simpa [OwnN, ints_append] using h2, h3⟩

/-! ### doubts -/
theorem ns_grown {w w' : World} {g g' : Option Nat} {A : Option Addr} {xs : List Int} (h : Ns w (fun k => g ≠ some k) A xs) (hg : w.grownBy w' g) (hat : g' = g ∨ g' = some w.heap.size) : Ns w' (fun k => g' ≠ some k) A xs := fun j hj => by
  obtain ⟨ad, e, h1, h2, h3⟩ := h j hj
  have hs := hg.size
  refine ⟨ad, e, by omega, ?_, (World.cell?_of_block (by rw [block_add]; exact hg.block _ h1 (fun e => h2 e.symm))).trans h3⟩
  rcases hat with rfl | rfl
  · exact h2
  · intro e
    have := Option.some.inj e
    omega
theorem rd_grown {w w' : World} {g g' : Option Nat} {x : Db} (h : Rd w (fun k => g ≠ some k) x) (hg : w.grownBy w' g) (hat : g' = g ∨ g' = some w.heap.size) : Rd w' (fun k => g' ≠ some k) x := ⟨ns_grown h.1 hg hat, h.2⟩
theorem Rd.off {w : World} {P : Nat → Prop} {x : Db} (h : Rd w P x) (g : Option Nat) (hg : ∀ k, g = some k → ¬P k) : Rd w (fun k => g ≠ some k) x := h.imp fun k _ hk e => hg k e hk

theorem appD_own (w : World) (ty : TypeId) (B : Nat) (v : Value) (xs : List Db) (hown : OwnD w B v xs) (hi : Nat) (A : Option Addr) (c : Nat) (ys : List Db) (hy : Ds w hi A ys) (hr : ∀ y ∈ ys, Rd w (fun k => v.ownBlock ≠ some k) y) (hlen : xs.length + ys.length ≤ 100000) (hB : B ≤ w.heap.size) :
    ∃ v' w', (Builtin.append_ #[22, 22] ty #[v, .slice A ys.length c]).run Try.prog w = .ok v' w' ∧ OwnD w' B v' (xs ++ ys) ∧ w.grownBy w' v.ownBlock ∧ (v'.ownBlock = v.ownBlock ∨ v'.ownBlock = some w.heap.size) := by
  obtain ⟨i0, hi0, hz0, hz1, hz2⟩ := info_parts Try.infoDb
  rcases A with _ | ad
  · obtain rfl := hy.none_nil
    refine ⟨v, w, ?_, by simpa using hown, World.grownBy.refl _ _, .inl rfl⟩
    have ht := Try.underlying22
    rcases hown.1.2 with ⟨rfl, _⟩ | ⟨g, cap, cur, rfl, _, _, hnc, _⟩
    · simp [Builtin.append_, run_underlying ht, sizeOf, typeInfo, hi0, Builtin.lenOf, Builtin.firstCells]
    · simp [Builtin.append_, run_underlying ht, sizeOf, typeInfo, hi0, Builtin.lenOf, Builtin.firstCells, hnc, storeCells]
  · obtain ⟨v', w', h1, h2, h3, _, h5⟩ := run_append_own_at (P := Try.prog) (w := w) B 22 ty 55 i0 (.agg #[.int .i64 0, .int .u64 0, .int .i64 0, .slice none 0 0]) 4 48 Try.underlying22 hi0 hz0 hz1 hz2 rfl (by decide) v _ _ hown.1 ad ys.length c (dbs ys) (dbs_len ys) hy.cells (dbs_one ys) (by unfold maxLen; omega) (by omega) hB
    refine ⟨v', w', h1, ⟨by simpa [dbs_append] using h2, fun z hz => ?_⟩, h3, h5⟩
    rcases List.mem_append.1 hz with hz | hz
    · exact rd_grown (hown.2 z hz) h3 h5
    · exact rd_grown (hr z hz) h3 h5
theorem appD_full (w : World) (ty : TypeId) (hi hi' : Nat) (A : Option Addr) (xs : List Db) (hx : Ds w hi A xs) (ad : Addr) (c : Nat) (ys : List Db) (hy : Ds w hi' (some ad) ys) (hm : 0 < ys.length) (hlen : xs.length + ys.length ≤ 100000) (n : Nat) (hn : xs.length = n) :
    ∃ v' w', (Builtin.append_ #[22, 22] ty #[.slice A n n, .slice (some ad) ys.length c]).run Try.prog w = .ok v' w' ∧ OwnD w' w.heap.size v' (xs ++ ys) ∧ w.grownBy w' none := by
  obtain ⟨i0, hi0, hz0, hz1, hz2⟩ := info_parts Try.infoDb
  subst hn
  have hnone : ∀ {P : Nat → Prop} {z : Db}, Rd w P z → Rd w (fun k => (none : Option Nat) ≠ some k) z := fun h => h.imp fun _ _ _ e => by cases e
  rcases A with _ | b
  · obtain rfl := hx.none_nil
    obtain ⟨v', w', h1, h2, h3, _⟩ := appD_own w ty w.heap.size (.slice none 0 0) [] (OwnD.nil _ _) hi' (some ad) c ys hy (fun y hm => hnone (hy.rd y hm)) (by simpa using hlen) (Nat.le_refl _)
    exact ⟨v', w', h1, h2, h3⟩
  · obtain ⟨v', w', h1, h2, h3⟩ := run_append_arg_grows (P := Try.prog) w 22 ty 55 i0 (.agg #[.int .i64 0, .int .u64 0, .int .i64 0, .slice none 0 0]) 4 48 Try.underlying22 hi0 hz0 hz1 hz2 rfl (by decide) b xs.length xs.length (dbs xs) (dbs_len xs) hx.cells ad ys.length c (dbs ys) (dbs_len ys) hy.cells (by omega) (by unfold maxLen; omega) (by omega)
    refine ⟨v', w', h1, ⟨by simpa [dbs_append] using h2, fun z hz => ?_⟩, h3⟩
    have hat : v'.ownBlock = none ∨ w.heap.size ≤ v'.ownBlock.getD 0 := by
      rcases hv : v'.ownBlock with _ | k
      · exact .inl rfl
      · exact .inr (World.ownsRow.lt h2 k hv).1
    have hz' : ∃ P : Nat → Prop, Rd w P z := by
      rcases List.mem_append.1 hz with hz | hz
      · exact ⟨_, hx.rd z hz⟩
      · exact ⟨_, hy.rd z hz⟩
    obtain ⟨P, hz'⟩ := hz'
    have hz2 := hz'.keep (w' := w') h3.size fun p hp _ => World.cell?_of_block (h3.block _ hp (by simp))
    refine ⟨fun j hj => ?_, hz2.2⟩
    obtain ⟨ad', e, k1, _, _⟩ := hz'.1 j hj
    obtain ⟨ad2, e2, k2, _, k4⟩ := hz2.1 j hj
    obtain rfl := Option.some.inj (e.symm.trans e2)
    refine ⟨ad', e, k2, fun e => ?_, k4⟩
    rcases hat with h | h
    · rw [h] at e; cases e
    · rw [e] at h; simp at h; omega
end Go.Proofs.Ytknpbbplolncpaa
