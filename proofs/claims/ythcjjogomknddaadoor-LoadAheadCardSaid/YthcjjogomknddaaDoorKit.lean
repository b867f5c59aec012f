/-
  What the laws with a node less share: numbers that are left, rows of numbers, their append; a small number's remainder.
-/
import Derived.Test.YthcjjogomknddaaDoorLaw
namespace Go.Proofs.YthcjjogomknddaaDoor.Pure

end Go.Proofs.YthcjjogomknddaaDoor.Pure
namespace Go.Proofs.YthcjjogomknddaaDoor
open Go.Sort Go.RowKit Go.Proofs.YthcjjogomknddaaDoor.Pure

theorem Own.hasAt {w : World} {B n c : Nat} {A : Option Addr} {xs : List Int} (h : Own w B (.slice A n c) xs) : n = xs.length ∧ xs.length ≤ c ∧ Has w B w.heap.size A xs := by
  obtain ⟨A', c', e, h1, h2⟩ := h.has
  injection e with e1 e2 e3
  subst e1 e2 e3
  exact ⟨rfl, h1, h2⟩
theorem has_rest {w : World} {lo hi : Nat} {A : Option Addr} {xs : List Int} (h : Has w lo hi A xs) (a c : Nat) (hc : xs.length ≤ c) : Has w lo hi (if c = a then A else Option.map (fun x => x.add a) A) (xs.drop a) := fun j hj => by
  rw [List.length_drop] at hj
  obtain ⟨ad, rfl, h1, h2, h3⟩ := h (a + j) (by omega)
  rw [if_neg (by omega)]
  refine ⟨ad.add a, rfl, by rw [block_add]; exact h1, by rw [block_add]; exact h2, ?_⟩
  rw [add_add, h3]
  simp [List.getD]
theorem Has.hi {w : World} {lo hi hi' : Nat} {A : Option Addr} {xs : List Int} (h : Has w lo hi A xs) (hh : hi ≤ hi') : Has w lo hi' A xs := fun j hj => by
  obtain ⟨ad, e, h1, h2, h3⟩ := h j hj
  exact ⟨ad, e, h1, by omega, h3⟩
/-- append onto a slice of the call's own, of any slice of numbers, in a plan. -/
theorem wp_append_has {w : World} {o : Oper} {a : Act} {K : Act → World → Prop} {Q : Exit → Act → World → Prop} (s x : Operand)
    (ho : o.op = .call { callee := .builtin .append, args := #[s, x], argTypes := #[22, 22] })
    (B : Nat) (v : Value) (xs : List Int) (hs : a.eval s = v) (hown : Own w B v xs) (A : Option Addr) (c lo hi : Nat) (ys : List Int) (hx : a.eval x = .slice A ys.length c) (hh : Has w lo hi A ys)
    (hlen : xs.length + ys.length ≤ 100000) (hB : B ≤ w.heap.size)
    (h : ∀ v' w', Own w' B v' (xs ++ ys) → w.grownBy w' v.ownBlock → K (a.put o.dst v') w') : o.wp Tryd.prog a w K Q := by
  obtain ⟨i0, hi0, hz0, hz1, hz2⟩ := info_parts Tryd.infoInt
  rcases A with _ | ad
  · obtain rfl := hh.none_nil
    have hr := run_append_nothing w o.type B v xs hown c i0 hi0
    unfold Oper.wp execOp
    simp only [List.length_nil] at hx
    simp only [ho, resolve, invoke, builtin, Sem.run_bind, Sem.run_pure, Result.andThen_ok, List.map_toArray, List.map_cons, List.map_nil, hs, hx, hr]
    exact h v w (by simpa using hown) (World.grownBy.refl _ _)
  · obtain ⟨v', w', h1, h2, h3, _⟩ := run_append_own (P := Tryd.prog) w B 22 o.type 3 i0 (.int .i64 0) 1 8 Tryd.underlying22 hi0 hz0 hz1 hz2 rfl (by decide) v _ _ hown ad ys.length c (ints ys) (by simp [ints]) hh.cells (ints_one ys) (by unfold maxLen; omega) (by omega) hB
    unfold Oper.wp execOp
    simp only [ho, resolve, invoke, builtin, Sem.run_bind, Sem.run_pure, Result.andThen_ok, List.map_toArray, List.map_cons, List.map_nil, hs, hx, h1]
    exact h v' w' (by simpa [Own, ints] using h2) h3
/-- append of one number onto a slice of the call's own: where the answer lies, too. -/
theorem append_one {w : World} {ops : Array Oper} {rest : List Oper} {o : Oper} {a : Act} {Q : Exit → Act → World → Prop} (hgd : o.guard = none) (s x : Operand)
    (ho : o.op = .call { callee := .builtin .append, args := #[s, x], argTypes := #[22, 22] })
    (B : Nat) (v : Value) (xs : List Int) (hs : a.eval s = v) (hown : Own w B v xs) (g : Nat) (y : Int) (hx : a.eval x = .slice (some ⟨g, 0, none⟩) 1 1) (hc : w.cell? ⟨g, 0, none⟩ = some (.int .i64 y))
    (hlen : xs.length ≤ 100000) (hB : B ≤ w.heap.size)
    (h : ∀ v' w', Own w' B v' (xs ++ [y]) → w.grownBy w' v.ownBlock → (v'.ownBlock = v.ownBlock ∨ v'.ownBlock = some w.heap.size) → wpList Tryd.prog ops Q rest (a.put o.dst v') w') : wpList Tryd.prog ops Q (o :: rest) a w := by
  obtain ⟨i0, hi0, hz0, hz1, hz2⟩ := info_parts Tryd.infoInt
  refine wpList_plain hgd fun K hK => ?_
  obtain ⟨v', w', h1, h2, h3, _, h5⟩ := run_append_own_at (P := Tryd.prog) (w := w) B 22 o.type 3 i0 (.int .i64 0) 1 8 Tryd.underlying22 hi0 hz0 hz1 hz2 rfl (by decide) v _ _ hown ⟨g, 0, none⟩ 1 1 [.int .i64 y] (by simp) (fun j u hu => by
    rcases j with _ | j
    · simp at hu; subst hu; exact hc
    · simp at hu) (by simp [Value.oneCell']) (by unfold maxLen; omega) (by omega) hB
  unfold Oper.wp execOp
  simp only [ho, resolve, invoke, builtin, Sem.run_bind, Sem.run_pure, Result.andThen_ok, List.map_toArray, List.map_cons, List.map_nil, hs, hx, h1]
  exact hK _ _ (h v' w' (by simpa [Own, ints] using h2) h3 h5)

/-- Two slices of the call's own lie apart. -/
def Dis (u v : Value) : Prop := ∀ k, u.ownBlock = some k → v.ownBlock ≠ some k
theorem Dis.symm {u v : Value} (h : Dis u v) : Dis v u := fun k hk hu => h k hu hk
theorem Own.grown {w w' : World} {B : Nat} {u v : Value} {xs : List Int} (h : Own w B u xs) (hg : w.grownBy w' v.ownBlock) (hd : Dis u v) : Own w' B u xs :=
  h.keepB fun k hk => hg.block k (h.ge k hk).2 (fun e => hd k hk e.symm)
theorem u8_mod (n m k : Nat) (h : n ≤ 255) (hm : n % k = m) (hk : 0 < k) (hk2 : k ≤ 100) : Int.tmod (n : Int) (k : Int) = (m : Int) ∧ (n : Int) % (k : Int) = (m : Int) ∧ IntKind.i64.wrap (m : Int) = (m : Int) ∧ IntKind.u8.wrap (m : Int) = (m : Int) ∧ m < k := by
  have hlt : m < k := by rw [← hm]; exact Nat.mod_lt _ hk
  have e : (n : Int) % (k : Int) = (m : Int) := by rw [← hm]; rfl
  refine ⟨by rw [Int.tmod_eq_emod_of_nonneg (by omega)]; exact e, e, IntWalk.i64_in _ (by omega), ?_, hlt⟩
  simp [IntKind.wrap, IntKind.bits, IntKind.signed]; omega

theorem cutF_le (xs : List Int) : (cutF xs).length ≤ xs.length := by simp [cutF]; omega
theorem fewl_below (A : Option Addr) (c lo hi : Nat) (xs : List Int) (w : World) (hc : xs.length ≤ c) (hm : c ≤ maxLen) (h : Has w lo hi A xs) :
    Calls Tryd.prog 10 #[.slice A xs.length c] w fun e w' => e = .returned (.slice A (cutF xs).length c) ∧ Below w.heap.size w w' :=
  (fewl_any A c lo hi xs w hc hm h).mono fun _ _ ⟨he, hw⟩ => ⟨he, hw ▸ Below.refl _ _⟩
/-- What is asked of nodes: how many there are, and that they may be. -/
theorem err_pts {xs : List Int} (h : nodesB xs = true) {s : Nat} (hs : s ≤ 32) (h1 : 0 < s) (h2 : 0 < xs.length) : errP (ptsP xs s) = 0 := by
  unfold errP
  rw [pts_may (nodesB_nums h) hs, pts_len, if_pos rfl, if_neg]
  have := Nat.mul_pos h2 h1
  omega
end Go.Proofs.YthcjjogomknddaaDoor
