/-
  What the laws with a node less share: numbers that are left, rows of numbers, their append; a small number's remainder.
-/
import Derived.Test.YtdbndkccgpmkbaaLaw
namespace Go.Proofs.Ytdbndkccgpmkbaa.Pure

end Go.Proofs.Ytdbndkccgpmkbaa.Pure
namespace Go.Proofs.Ytdbndkccgpmkbaa
open Go.Sort Go.RowKit Go.Proofs.Ytdbndkccgpmkbaa.Pure

theorem Has.hi {w : World} {lo hi hi' : Nat} {A : Option Addr} {xs : List Int} (h : Has w lo hi A xs) (hh : hi ≤ hi') : Has w lo hi' A xs := fun j hj => by
  obtain ⟨ad, e, h1, h2, h3⟩ := h j hj
  exact ⟨ad, e, h1, by omega, h3⟩
/-- append of one number onto a slice of the call's own: where the answer lies, too. -/
theorem append_one {w : World} {ops : Array Oper} {rest : List Oper} {o : Oper} {a : Act} {Q : Exit → Act → World → Prop} (hgd : o.guard = none) (s x : Operand)
    (ho : o.op = .call { callee := .builtin .append, args := #[s, x], argTypes := #[70, 70] })
    (B : Nat) (v : Value) (xs : List Int) (hs : a.eval s = v) (hown : Own w B v xs) (g : Nat) (y : Int) (hx : a.eval x = .slice (some ⟨g, 0, none⟩) 1 1) (hc : w.cell? ⟨g, 0, none⟩ = some (.int .i64 y))
    (hlen : xs.length ≤ 100000) (hB : B ≤ w.heap.size)
    (h : ∀ v' w', Own w' B v' (xs ++ [y]) → w.grownBy w' v.ownBlock → (v'.ownBlock = v.ownBlock ∨ v'.ownBlock = some w.heap.size) → wpList Try.prog ops Q rest (a.put o.dst v') w') : wpList Try.prog ops Q (o :: rest) a w := by
  obtain ⟨i0, hi0, hz0, hz1, hz2⟩ := info_parts Try.infoInt
  refine wpList_plain hgd fun K hK => ?_
  obtain ⟨v', w', h1, h2, h3, _, h5⟩ := run_append_own_at (P := Try.prog) (w := w) B 70 o.type 3 i0 (.int .i64 0) 1 8 Try.underlying70 hi0 hz0 hz1 hz2 rfl (by decide) v _ _ hown ⟨g, 0, none⟩ 1 1 [.int .i64 y] (by simp) (fun j u hu => by
    rcases j with _ | j
    · simp at hu; subst hu; exact hc
    · simp at hu) (by simp [Value.oneCell']) (by unfold maxLen; omega) (by omega) hB
  unfold Oper.wp execOp
  simp only [ho, resolve, invoke, builtin, Sem.run_bind, Sem.run_pure, Result.andThen_ok, List.map_toArray, List.map_cons, List.map_nil, hs, hx, h1]
  exact hK _ _ (h v' w' (by simpa [Own, ints] using h2) h3 h5)

/-- Two slices of the call's own lie apart. -/
def Dis (u v : Value) : Prop := ∀ k, u.ownBlock = some k → v.ownBlock ≠ some k
theorem Dis.symm {u v : Value} (h : Dis u v) : Dis v u := fun k hk hu => h k hu hk
theorem Own.grown {w w' : World} {B : Nat} {u v : Value} {xs : List Int} (h : Own w B u xs) (hg : w.grownBy w' v.ownBlock) (hd : Dis u v) : Own w' B u xs :=
  h.keepB fun k hk => hg.block k (h.ge k hk).2 (fun e => hd k hk e.symm)
theorem u8_mod (n m k : Nat) (h : n ≤ 255) (hm : n % k = m) (hk : 0 < k) (hk2 : k ≤ 100) : Int.tmod (n : Int) (k : Int) = (m : Int) ∧ (n : Int) % (k : Int) = (m : Int) ∧ IntKind.i64.wrap (m : Int) = (m : Int) ∧ IntKind.u8.wrap (m : Int) = (m : Int) ∧ m < k := by
  have hlt : m < k := by rw [← hm]; exact Nat.mod_lt _ hk
  have e : (n : Int) % (k : Int) = (m : Int) := by rw [← hm]; rfl
  refine ⟨by rw [Int.tmod_eq_emod_of_nonneg (by omega)]; exact e, e, IntWalk.i64_in _ (by omega), ?_, hlt⟩
  simp [IntKind.wrap, IntKind.bits, IntKind.signed]; omega

end Go.Proofs.Ytdbndkccgpmkbaa
