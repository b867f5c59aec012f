/-
  append of one number, and where the answer lies.
-/
import Derived.Test.YtphcmjhphoacgaaSt
namespace Go.Proofs.Ytphcmjhphoacgaa
open Go.Sort Go.RowKit Go.Proofs.Ytphcmjhphoacgaa.Pure

/-- append of one number onto a slice of the call's own: where the answer lies, too. -/
theorem append_one {w : World} {ops : Array Oper} {rest : List Oper} {o : Oper} {a : Act} {Q : Exit → Act → World → Prop} (hgd : o.guard = none) (s x : Operand)
    (ho : o.op = .call { callee := .builtin .append, args := #[s, x], argTypes := #[22, 22] })
    (B : Nat) (v : Value) (xs : List Int) (hs : a.eval s = v) (hown : Own w B v xs) (g : Nat) (y : Int) (hx : a.eval x = .slice (some ⟨g, 0, none⟩) 1 1) (hc : w.cell? ⟨g, 0, none⟩ = some (.int .i64 y))
    (hlen : xs.length ≤ 100000) (hB : B ≤ w.heap.size)
    (h : ∀ v' w', Own w' B v' (xs ++ [y]) → w.grownBy w' v.ownBlock → (v'.ownBlock = v.ownBlock ∨ v'.ownBlock = some w.heap.size) → wpList Try.prog ops Q rest (a.put o.dst v') w') : wpList Try.prog ops Q (o :: rest) a w := by
  obtain ⟨i0, hi0, hz0, hz1, hz2⟩ := info_parts Try.infoInt
  refine wpList_plain hgd fun K hK => ?_
  obtain ⟨v', w', h1, h2, h3, _, h5⟩ := run_append_own_at (P := Try.prog) (w := w) B 22 o.type 3 i0 (.int .i64 0) 1 8 Try.underlying22 hi0 hz0 hz1 hz2 rfl (by decide) v _ _ hown ⟨g, 0, none⟩ 1 1 [.int .i64 y] (by simp) (fun j u hu => by
    rcases j with _ | j
    · simp at hu; subst hu; exact hc
    · simp at hu) (by simp [Value.oneCell']) (by unfold maxLen; omega) (by omega) hB
  unfold Oper.wp execOp
  simp only [ho, resolve, invoke, builtin, Sem.run_bind, Sem.run_pure, Result.andThen_ok, List.map_toArray, List.map_cons, List.map_nil, hs, hx, h1]
  exact hK _ _ (h v' w' (by simpa [Own, ints] using h2) h3 h5)

/-! ### what stays where others are written -/
section
variable {w w' : World} {B g : Nat} {v u : Value} {xs : List Int} {s : ByteArray} {a p : Int}
theorem Own.ge (h : Own w B v xs) : ∀ k, v.ownBlock = some k → B ≤ k ∧ k < w.heap.size := World.ownsRow.lt (w := w) h
theorem Own.keepB (h : Own w B v xs) (hk : ∀ k, v.ownBlock = some k → w'.heap[k]? = w.heap[k]?) : Own w' B v xs := by
  refine ⟨h.1, ?_⟩
  rcases h.2 with h | ⟨g, cap, cur, rfl, h2, h3, h4⟩
  · exact .inl h
  · exact .inr ⟨g, cap, cur, rfl, h2, (hk g rfl).trans h3, h4⟩
theorem Own.on (h : Own w B v xs) (hb : Below w.heap.size w w') : Own w' B v xs := h.keepB fun k hk => hb.block k (h.ge k hk).2
theorem Own.far (h : Own w B v xs) {q : Addr} (hq : q.block < B) (y : Value) : Own (w.setCell q y) B v xs := h.keepB fun k hk => Below.heap_setCell w q y k (by have := (h.ge k hk).1; omega)
theorem Own.four {g1 g2 : Nat} (h : Own w B v xs) (h1 : g1 < B) (h2 : g2 < B) (v0 v1 v2 v3 : Value) :
    Own ((((w.setCell ⟨g1, 0, none⟩ v0).setCell ⟨g1, 1, none⟩ v1).setCell ⟨g2, 0, none⟩ v2).setCell ⟨g2, 1, none⟩ v3).drew B v xs :=
  ((((h.far (q := ⟨g1, 0, none⟩) h1 v0).far (q := ⟨g1, 1, none⟩) h1 v1).far (q := ⟨g2, 0, none⟩) h2 v2).far (q := ⟨g2, 1, none⟩) h2 v3)
theorem Own.nil (w : World) (B : Nat) : Own w B (.slice none 0 0) [] := World.ownsRow_nil _ _ _ _
theorem Tb.grown {row : Option Nat} (h : Tb w g u p) (hg : w.grownBy w' row) (hr : row ≠ some g) : Tb w' g u p := h.keep (hg.block g h.lt (fun e => hr e.symm))
theorem Box.grown {row : Option Nat} (h : Box w g s a) (hg : w.grownBy w' row) (hr : row ≠ some g) : Box w' g s a := h.keep (hg.block g h.lt (fun e => hr e.symm))
end

/-- What a call of the law's cut answers, in a region that draws. -/
theorem fewl_below (A : Option Addr) (c lo hi : Nat) (xs : List Int) (w : World) (hc : xs.length ≤ c) (hm : c ≤ maxLen) (h : Has w lo hi A xs) :
    Calls Try.prog 9 #[.slice A xs.length c] w fun e w' => e = .returned (.slice A (cutF xs).length c) ∧ Below w.heap.size w w' :=
  (fewl_any A c lo hi xs w hc hm h).mono fun _ _ ⟨he, hw⟩ => ⟨he, hw ▸ Below.refl _ _⟩
/-- A part of a slice. -/
theorem Has.part {w : World} {lo hi i n : Nat} {ad : Addr} {xs : List Int} (h : Has w lo hi (some ad) xs) (hn : i + n ≤ xs.length) : Has w lo hi (some (ad.add i)) ((xs.take (i + n)).drop i) := fun j hj => by
  have hl : ((xs.take (i + n)).drop i).length = n := by simp; omega
  rw [hl] at hj
  obtain ⟨ad', e, h1, h2, h3⟩ := h (i + j) (by omega)
  obtain rfl := Option.some.inj e
  have ea : (ad.add i).add j = ad.add (i + j) := by
    unfold Addr.add
    by_cases hi : i = 0 <;> by_cases hj : j = 0 <;> simp [hi, hj, Nat.add_assoc]
  refine ⟨_, rfl, by rw [block_add]; exact h1, by rw [block_add]; exact h2, ?_⟩
  rw [ea, h3]
  congr 2
  simp [List.getD, show i + j < i + n by omega]
end Go.Proofs.Ytphcmjhphoacgaa
