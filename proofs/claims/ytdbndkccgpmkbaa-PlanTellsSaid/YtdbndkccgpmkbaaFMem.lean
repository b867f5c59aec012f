/-
  What memory holds: the texts of a slice; append.
-/
import Derived.Test.YtdbndkccgpmkbaaRows
import Derived.Laws.BitsAllLaws
import Derived.Laws.BitsLemmas
import Derived.WalkKit
import Derived.WalkLawsBesides
import Derived.Lib.Hide
import Derived.Below
import Derived.Laws.AppendOwn
import Derived.Lib.SliceRun
import Derived.Maps.AppendAt
import Derived.OwnWalk
namespace Go.Proofs.Ytdbndkccgpmkbaa.F.Pure
end Go.Proofs.Ytdbndkccgpmkbaa.F.Pure
namespace Go.Proofs.Ytdbndkccgpmkbaa.F
open Go.RowKit Go.Proofs.Ytdbndkccgpmkbaa.F.Pure

theorem block_add (a : Addr) (n : Nat) : (a.add n).block = a.block := by unfold Addr.add; split <;> rfl

/-- The slice that begins at A holds the texts xs, in blocks from lo on, below hi. -/
def Has (w : World) (lo hi : Nat) (A : Option Addr) (xs : List ByteArray) : Prop :=
  ∀ j, j < xs.length → ∃ ad, A = some ad ∧ lo ≤ ad.block ∧ ad.block < hi ∧ w.cell? (ad.add j) = some (.string (xs.getD j ByteArray.empty))

section
variable {w w' : World} {lo hi : Nat} {A : Option Addr} {xs : List ByteArray}
theorem Has.keep (h : Has w lo hi A xs) (hk : ∀ p : Addr, lo ≤ p.block → p.block < hi → w'.cell? p = w.cell? p) : Has w' lo hi A xs := fun j hj => by
  obtain ⟨ad, e, h1, h2, h3⟩ := h j hj
  exact ⟨ad, e, h1, h2, (hk _ (by rw [block_add]; exact h1) (by rw [block_add]; exact h2)).trans h3⟩
theorem Has.nil (w : World) (lo hi : Nat) (A : Option Addr) : Has w lo hi A [] := fun j hj => absurd hj (by simp)
theorem Has.on {B : Nat} (h : Has w lo hi A xs) (hb : Below B w w') (hB : hi ≤ B) : Has w' lo hi A xs := h.keep fun _ _ hp => hb.cell (by omega)
theorem Has.set (h : Has w lo hi A xs) {p : Addr} (hp : p.block < lo ∨ hi ≤ p.block) (u : Value) : Has (w.setCell p u) lo hi A xs :=
  h.keep fun q h1 h2 => World.cell?_setCell_other w p q u (fun e => by subst e; omega)
theorem Has.alloc (h : Has w lo hi A xs) (o : Obj) (hh : hi ≤ w.heap.size) : Has (w.alloc o) lo hi A xs := h.on ((Below.refl w.heap.size w).alloc (Nat.le_refl _) o) hh
theorem Has.drew (h : Has w lo hi A xs) : Has w.drew lo hi A xs := h
theorem Has.drewN (h : Has w lo hi A xs) (k : Nat) : Has (w.drewN k) lo hi A xs := h
theorem Has.wide (h : Has w lo hi A xs) {lo' hi' : Nat} (h1 : lo' ≤ lo) (h2 : hi ≤ hi') : Has w lo' hi' A xs := fun j hj => by
  obtain ⟨ad, e, a, b, c⟩ := h j hj
  exact ⟨ad, e, by omega, by omega, c⟩
theorem Has.take (h : Has w lo hi A xs) (k : Nat) : Has w lo hi A (xs.take k) := fun j hj => by
  have hj' : j < k ∧ j < xs.length := by rw [List.length_take] at hj; omega
  obtain ⟨ad, e, a, b, c⟩ := h j hj'.2
  refine ⟨ad, e, a, b, ?_⟩
  rw [c]
  simp [List.getD, hj'.1]
end

theorem Try.infoStr : (Try.prog.info? 9).map (fun i => (i.zero, i.size, i.bytes)) = some (some (.string ByteArray.empty), 1, 16) := by kernel_rfl

/-- The cells of texts. -/
def strs (xs : List ByteArray) : List Value := xs.map (Value.string)
/-- The slice v is the call's own, in blocks from B on, and holds the texts xs. -/
def Own (w : World) (B : Nat) (v : Value) (xs : List ByteArray) : Prop := w.ownsRow B 9 1 v xs.length (strs xs)

theorem strs_one (xs : List ByteArray) : ∀ u ∈ strs xs, u.oneCell' = true := by
  intro u hu
  obtain ⟨x, _, rfl⟩ := List.mem_map.1 hu
  rfl
theorem strs_at (xs : List ByteArray) (j : Nat) (u : Value) (h : (strs xs)[j]? = some u) : j < xs.length ∧ u = .string (xs.getD j ByteArray.empty) := by
  unfold strs at h
  rw [List.getElem?_map] at h
  rcases hj : xs[j]? with _ | x
  · rw [hj] at h; cases h
  · rw [hj] at h
    have hl := (List.getElem?_eq_some_iff.1 hj).1
    simp at h
    exact ⟨hl, by rw [← h, List.getD, hj]; rfl⟩
theorem Has.cells {w : World} {lo hi : Nat} {ad : Addr} {xs : List ByteArray} (h : Has w lo hi (some ad) xs) (j : Nat) (u : Value) (hu : (strs xs)[j]? = some u) : w.cell? (ad.add j) = some u := by
  obtain ⟨hj, rfl⟩ := strs_at xs j u hu
  obtain ⟨ad', e, _, _, c⟩ := h j hj
  obtain rfl := Option.some.inj e
  exact c

/-- The texts of a slice of the call's own, wherever it lies. -/
theorem Own.has {w : World} {B : Nat} {v : Value} {xs : List ByteArray} (h : Own w B v xs) : ∃ (A : Option Addr) (c : Nat), v = .slice A xs.length c ∧ xs.length ≤ c ∧ Has w B w.heap.size A xs := by
  rcases h.2 with ⟨rfl, hn⟩ | ⟨g, cap, cur, rfl, hg, hh, hcap, _, _, _⟩
  · have : xs = [] := List.eq_nil_of_length_eq_zero hn
    subst this
    exact ⟨none, 0, rfl, Nat.le_refl _, Has.nil _ _ _ _⟩
  · have hlt := World.ownsRow.lt (w := w) (v := .slice (some ⟨g, 0, none⟩) xs.length cap) h g rfl
    refine ⟨some ⟨g, 0, none⟩, cap, rfl, hcap, fun j hj => ⟨_, rfl, hlt.1, hlt.2, ?_⟩⟩
    exact World.ownsRow.cells (w := w) (v := .slice (some ⟨g, 0, none⟩) xs.length cap) h (g := g) rfl j _ (by simp [strs, List.getD, hj])

theorem Has.none_nil {w : World} {lo hi : Nat} {xs : List ByteArray} (h : Has w lo hi none xs) : xs = [] := by
  rcases xs with _ | ⟨x, r⟩
  · rfl
  · obtain ⟨ad, e, _⟩ := h 0 (by simp)
    cases e

/-- append of one text onto a slice of the call's own: where the answer lies, too. -/
theorem append_one {w : World} {ops : Array Oper} {rest : List Oper} {o : Oper} {a : Act} {Q : Exit → Act → World → Prop} (hgd : o.guard = none) (s x : Operand)
    (ho : o.op = .call { callee := .builtin .append, args := #[s, x], argTypes := #[62, 62] })
    (B : Nat) (v : Value) (xs : List ByteArray) (hs : a.eval s = v) (hown : Own w B v xs) (g : Nat) (y : ByteArray) (hx : a.eval x = .slice (some ⟨g, 0, none⟩) 1 1) (hc : w.cell? ⟨g, 0, none⟩ = some (.string y))
    (hlen : xs.length ≤ 100000) (hB : B ≤ w.heap.size)
    (h : ∀ v' w', Own w' B v' (xs ++ [y]) → w.grownBy w' v.ownBlock → (v'.ownBlock = v.ownBlock ∨ v'.ownBlock = some w.heap.size) → wpList Try.prog ops Q rest (a.put o.dst v') w') : wpList Try.prog ops Q (o :: rest) a w := by
  obtain ⟨i0, hi0, hz0, hz1, hz2⟩ := info_parts Try.infoStr
  refine wpList_plain hgd fun K hK => ?_
  obtain ⟨v', w', h1, h2, h3, _, h5⟩ := run_append_own_at (P := Try.prog) (w := w) B 62 o.type 9 i0 (.string ByteArray.empty) 1 16 Try.underlying62 hi0 hz0 hz1 hz2 rfl (by decide) v _ _ hown ⟨g, 0, none⟩ 1 1 [.string y] (by simp) (fun j u hu => by
    rcases j with _ | j
    · simp at hu; subst hu; exact hc
    · simp at hu) (by simp [Value.oneCell']) (by unfold maxLen; omega) (by omega) hB
  unfold Oper.wp execOp
  simp only [ho, resolve, invoke, builtin, Sem.run_bind, Sem.run_pure, Result.andThen_ok, List.map_toArray, List.map_cons, List.map_nil, hs, hx, h1]
  exact hK _ _ (h v' w' (by simpa [Own, strs] using h2) h3 h5)

section
variable {w w' : World} {B g : Nat} {v u : Value} {xs : List ByteArray}
theorem Own.ge (h : Own w B v xs) : ∀ k, v.ownBlock = some k → B ≤ k ∧ k < w.heap.size := World.ownsRow.lt (w := w) h
theorem Own.keepB (h : Own w B v xs) (hk : ∀ k, v.ownBlock = some k → w'.heap[k]? = w.heap[k]?) : Own w' B v xs := by
  refine ⟨h.1, ?_⟩
  rcases h.2 with h | ⟨g, cap, cur, rfl, h2, h3, h4⟩
  · exact .inl h
  · exact .inr ⟨g, cap, cur, rfl, h2, (hk g rfl).trans h3, h4⟩
theorem Own.on (h : Own w B v xs) (hb : Below w.heap.size w w') : Own w' B v xs := h.keepB fun k hk => hb.block k (h.ge k hk).2
theorem Own.nil (w : World) (B : Nat) : Own w B (.slice none 0 0) [] := World.ownsRow_nil _ _ _ _
end
end Go.Proofs.Ytdbndkccgpmkbaa.F
