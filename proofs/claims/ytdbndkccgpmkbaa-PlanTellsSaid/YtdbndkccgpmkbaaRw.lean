/-
  What memory holds: texts, and what is put, in slices; slices of the call's own.
-/
import Derived.Test.YtdbndkccgpmkbaaKit
import Derived.Test.YtdbndkccgpmkbaaLm
import Derived.Test.YtdbndkccgpmkbaaLess
import Derived.Test.YtdbndkccgpmkbaaNa
namespace Go.Proofs.Ytdbndkccgpmkbaa
open Go.Sort Go.RowKit Go.Proofs.Ytdbndkccgpmkbaa.Pure

theorem add_add (a : Addr) (i j : Nat) : (a.add i).add j = a.add (i + j) := by
  unfold Addr.add
  by_cases hi : i = 0 <;> by_cases hj : j = 0 <;> simp [hi, hj, Nat.add_assoc]
/-! ### texts -/
/-- The slice that begins at A holds the texts l. -/
def Ss (w : World) (A : Option Addr) (l : List ByteArray) : Prop := ∀ j, j < l.length → ∃ ad, A = some ad ∧ ad.block < w.heap.size ∧ w.cell? (ad.add j) = some (.string (ba l j))
section
variable {w w' : World} {A : Option Addr} {l : List ByteArray} {B : Nat} {v : Value}
theorem Ss.on (h : Ss w A l) (hb : Below w.heap.size w w') : Ss w' A l := fun j hj => by
  obtain ⟨ad, e, h1, h2⟩ := h j hj
  have hs := hb.size
  exact ⟨ad, e, by omega, (hb.cell (by rw [block_add]; exact h1)).trans h2⟩
theorem Ss.drew (h : Ss w A l) : Ss w.drew A l := h
theorem Ss.alloc (h : Ss w A l) (o : Obj) : Ss (w.alloc o) A l := h.on ((Below.refl _ _).alloc (Nat.le_refl _) o)
theorem Ss.nil (w : World) (A : Option Addr) : Ss w A [] := fun j hj => absurd hj (by simp)
theorem ba_take (l : List ByteArray) (k j : Nat) (h : j < k) : ba (l.take k) j = ba l j := by simp [ba, List.getD, h]
theorem Ss.take (h : Ss w A l) (k : Nat) : Ss w A (l.take k) := fun j hj => by
  rw [List.length_take] at hj
  obtain ⟨ad, e, h1, h2⟩ := h j (by omega)
  refine ⟨ad, e, h1, ?_⟩
  rw [ba_take l k j (by omega)]
  exact h2
theorem Ss.of (h : F.Own w B v l) : ∃ (A : Option Addr) (c : Nat), v = .slice A l.length c ∧ l.length ≤ c ∧ Ss w A l := by
  obtain ⟨A, c, e, hc, hh⟩ := h.has
  refine ⟨A, c, e, hc, fun j hj => ?_⟩
  obtain ⟨ad, e1, h1, h2, h3⟩ := hh j hj
  exact ⟨ad, e1, h2, h3⟩
theorem Ss.one (w : World) (x : ByteArray) (t : TypeId) : Ss (w.alloc (.cells #[.string x] t)) (some ⟨w.heap.size, 0, none⟩) [x] := by
  intro j hj
  have hj0 : j = 0 := by simp at hj; omega
  subst hj0
  exact ⟨_, rfl, by simp, by go_simp; rfl⟩
end

/-! ### what is put -/
theorem pu_take (l : List Pu) (k j : Nat) (h : j < k) : pu (l.take k) j = pu l j := by simp [pu, List.getD, h]
theorem Try.infoPu : (Try.prog.info? 53).map (fun i => (i.zero, i.size, i.bytes)) = some (some (.agg #[.string ByteArray.empty, .int .i64 0]), 2, 24) := by kernel_rfl
/-- The cells from a on hold x. -/
def UAt (w : World) (a : Addr) (x : Pu) : Prop := w.cell? a = some (.string x.t) ∧ w.cell? (a.add 1) = some (.int .i64 x.n)
/-- The slice that begins at A holds l. -/
def Us (w : World) (A : Option Addr) (l : List Pu) : Prop := ∀ j, j < l.length → ∃ ad, A = some ad ∧ ad.block < w.heap.size ∧ UAt w (ad.add (j * 2)) (pu l j)
def us1 (x : Pu) : List Value := [.string x.t, .int .i64 x.n]
def uss (xs : List Pu) : List Value := xs.flatMap us1
/-- The slice v is the call's own, in blocks from B on, and holds xs. -/
def OwnU (w : World) (B : Nat) (v : Value) (xs : List Pu) : Prop := w.ownsRow B 53 2 v xs.length (uss xs)

theorem uss_len (xs : List Pu) : (uss xs).length = xs.length * 2 := by
  induction xs with
  | nil => rfl
  | cons x r ih => simp [uss, us1] at ih ⊢; omega
theorem uss_append (xs ys : List Pu) : uss (xs ++ ys) = uss xs ++ uss ys := by simp [uss]
theorem uss_cons (x : Pu) (xs : List Pu) : uss (x :: xs) = us1 x ++ uss xs := by simp [uss]
theorem uss_one (xs : List Pu) : ∀ u ∈ uss xs, u.oneCell' = true := by
  intro u hu
  obtain ⟨x, _, hx⟩ := List.mem_flatMap.1 hu
  simp [us1] at hx
  rcases hx with rfl | rfl <;> rfl
theorem uss_at (xs : List Pu) (j r : Nat) (hj : j < xs.length) (hr : r < 2) : (uss xs)[j * 2 + r]? = (us1 (pu xs j))[r]? := by
  induction xs generalizing j with
  | nil => simp at hj
  | cons x l ih =>
    rw [uss_cons]
    rcases j with _ | j
    · rw [List.getElem?_append_left (by simp [us1]; omega)]
      simp [pu]
    · rw [List.getElem?_append_right (by simp [us1]; omega)]
      have e2 : (j + 1) * 2 + r - (us1 x).length = j * 2 + r := by simp [us1]; omega
      rw [e2, ih j (by simpa using hj)]
      simp [pu]
section
variable {w w' : World} {A : Option Addr} {l : List Pu} {a : Addr} {x : Pu} {B : Nat} {v : Value} {xs : List Pu}
theorem UAt.keep (h : UAt w a x) (hk : ∀ p : Addr, p.block = a.block → w'.cell? p = w.cell? p) : UAt w' a x :=
  ⟨(hk _ rfl).trans h.1, (hk _ (block_add _ _)).trans h.2⟩
theorem UAt.flat (h : UAt w a x) : w.cell? a = some (.string x.t) ∧ w.cell? ⟨a.block, a.off + 1, none⟩ = some (.int .i64 x.n) := h
theorem Us.keep (h : Us w A l) (hs : w.heap.size ≤ w'.heap.size) (hk : ∀ ad p : Addr, A = some ad → p.block = ad.block → w'.cell? p = w.cell? p) : Us w' A l := fun j hj => by
  obtain ⟨ad, e, h1, h2⟩ := h j hj
  exact ⟨ad, e, by omega, h2.keep fun p hp => hk ad p e (by rw [hp, block_add])⟩
theorem Us.on (h : Us w A l) (hb : Below w.heap.size w w') : Us w' A l := fun j hj => by
  obtain ⟨ad, e, h1, h2⟩ := h j hj
  have hs := hb.size
  exact ⟨ad, e, by omega, h2.keep fun p hp => hb.cell (by rw [hp, block_add]; exact h1)⟩
theorem Us.drew (h : Us w A l) : Us w.drew A l := h
theorem Us.alloc (h : Us w A l) (o : Obj) : Us (w.alloc o) A l := h.on ((Below.refl _ _).alloc (Nat.le_refl _) o)
theorem Us.take (h : Us w A l) (k : Nat) : Us w A (l.take k) := fun j hj => by
  rw [List.length_take] at hj
  obtain ⟨ad, e, h1, h2⟩ := h j (by omega)
  refine ⟨ad, e, h1, ?_⟩
  rw [pu_take l k j (by omega)]
  exact h2
theorem Us.nil (w : World) (A : Option Addr) : Us w A [] := fun j hj => absurd hj (by simp)
theorem Us.none_nil (h : Us w none xs) : xs = [] := by
  rcases xs with _ | ⟨x, r⟩
  · rfl
  · obtain ⟨ad, e, _⟩ := h 0 (by simp)
    cases e
theorem uss_of_at {ad : Addr} (h : UAt w ad x) (r : Nat) (hr : r < 2) : w.cell? (ad.add r) = (us1 x)[r]? := by
  match r, hr with
  | 0, _ => exact h.1
  | 1, _ => exact h.2
theorem Us.cells {ad : Addr} (h : Us w (some ad) xs) (j : Nat) (u : Value) (hu : (uss xs)[j]? = some u) : w.cell? (ad.add j) = some u := by
  have hl := (List.getElem?_eq_some_iff.1 hu).1
  rw [uss_len] at hl
  obtain ⟨ad', e, _, c⟩ := h (j / 2) (by omega)
  obtain rfl := Option.some.inj e
  have e2 : j / 2 * 2 + j % 2 = j := by omega
  have := uss_of_at c (j % 2) (by omega)
  rw [add_add, e2] at this
  rw [this, ← hu, ← e2, uss_at xs (j / 2) (j % 2) (by omega) (by omega)]
  simp [e2, pu]
/-- Cells of a block, one by one. -/
theorem UAt.of {b j : Nat} (h : ∀ r, r < 2 → w.cell? ⟨b, j * 2 + r, none⟩ = (us1 x)[r]?) : UAt w ((⟨b, 0, none⟩ : Addr).add (j * 2)) x := by
  have e : (⟨b, 0, none⟩ : Addr).add (j * 2) = ⟨b, j * 2, none⟩ := by unfold Addr.add; split <;> simp_all
  rw [e]
  exact ⟨h 0 (by decide), h 1 (by decide)⟩
theorem OwnU.alloc (h : OwnU w B v xs) (o : Obj) : OwnU (w.alloc o) B v xs := World.ownsRow.alloc (w := w) h o
theorem OwnU.drew (h : OwnU w B v xs) : OwnU w.drew B v xs := h
theorem OwnU.ge (h : OwnU w B v xs) : ∀ k, v.ownBlock = some k → B ≤ k ∧ k < w.heap.size := World.ownsRow.lt (w := w) h
theorem OwnU.nil (w : World) (B : Nat) : OwnU w B (.slice none 0 0) [] := World.ownsRow_nil _ _ _ _
theorem OwnU.mono {B' : Nat} (h : OwnU w B v xs) (hB : B' ≤ B) : OwnU w B' v xs := by
  refine ⟨h.1, ?_⟩
  rcases h.2 with h | ⟨g, cap, cur, h1, h2, h3⟩
  · exact .inl h
  · exact .inr ⟨g, cap, cur, h1, Nat.le_trans hB h2, h3⟩
theorem OwnU.keep (h : OwnU w B v xs) (hk : ∀ k, v.ownBlock = some k → w'.heap[k]? = w.heap[k]?) : OwnU w' B v xs := by
  refine ⟨h.1, ?_⟩
  rcases h.2 with h | ⟨g, cap, cur, rfl, h2, h3, h4⟩
  · exact .inl h
  · exact .inr ⟨g, cap, cur, rfl, h2, (hk g rfl).trans h3, h4⟩
theorem OwnU.on (h : OwnU w B v xs) (hb : Below w.heap.size w w') : OwnU w' B v xs := h.keep fun k hk => hb.block k (h.ge k hk).2
/-- Where a block of the call's own is written, which is not this one. -/
theorem OwnU.grown {row : Option Nat} (h : OwnU w B v xs) (hg : w.grownBy w' row) (hne : ∀ k, v.ownBlock = some k → row ≠ some k) : OwnU w' B v xs :=
  h.keep fun k hk => hg.block k (h.ge k hk).2 (fun e => hne k hk e.symm)
/-- What a slice of the call's own holds, wherever it lies. -/
theorem OwnU.lst (h : OwnU w B v xs) : ∃ (A : Option Addr) (c : Nat), v = .slice A xs.length c ∧ xs.length ≤ c ∧ Us w A xs := by
  rcases h.2 with ⟨rfl, hn⟩ | ⟨g, cap, cur, rfl, hg, hh, hcap, _, _, _⟩
  · have : xs = [] := List.eq_nil_of_length_eq_zero hn
    subst this
    exact ⟨none, 0, rfl, Nat.le_refl _, Us.nil _ _⟩
  · have hlt := World.ownsRow.lt (w := w) (v := .slice (some ⟨g, 0, none⟩) xs.length cap) h g rfl
    refine ⟨some ⟨g, 0, none⟩, cap, rfl, hcap, fun j hj => ⟨_, rfl, hlt.2, UAt.of fun r hr => ?_⟩⟩
    rw [World.ownsRow.cellAt (w := w) h (j * 2 + r) (by omega), uss_at xs j r hj hr]
end
theorem run_append_nothingPu (w : World) (ty : TypeId) (B : Nat) (v : Value) (xs : List Pu) (hown : OwnU w B v xs) (c : Nat) (i0 : TypeInfo) (hi0 : Try.prog.info? 53 = some i0) :
    (Builtin.append_ #[22, 22] ty #[v, .slice none 0 c]).run Try.prog w = .ok v w := by
  have ht := Try.underlying22
  rcases hown.2 with ⟨rfl, _⟩ | ⟨g, cap, cur, rfl, _, _, hnc, _⟩
  · simp [Builtin.append_, run_underlying ht, sizeOf, typeInfo, hi0, Builtin.lenOf, Builtin.firstCells]
  · simp [Builtin.append_, run_underlying ht, sizeOf, typeInfo, hi0, Builtin.lenOf, Builtin.firstCells, hnc, storeCells]
/-- append onto a slice of the call's own, of any slice, nil too. -/
theorem wpList_appendPu {w : World} {ops : Array Oper} {rest : List Oper} {o : Oper} {a : Act} {Q : Exit → Act → World → Prop} (hgd : o.guard = none) (s x : Operand)
    (ho : o.op = .call { callee := .builtin .append, args := #[s, x], argTypes := #[22, 22] })
    (B : Nat) (v : Value) (xs : List Pu) (hs : a.eval s = v) (hown : OwnU w B v xs) (A : Option Addr) (c : Nat) (ys : List Pu) (hx : a.eval x = .slice A ys.length c) (hh : Us w A ys)
    (hlen : xs.length + ys.length ≤ 100000) (hB : B ≤ w.heap.size)
    (h : ∀ v' w', OwnU w' B v' (xs ++ ys) → w.grownBy w' v.ownBlock → wpList Try.prog ops Q rest (a.put o.dst v') w') : wpList Try.prog ops Q (o :: rest) a w := by
  obtain ⟨i0, hi0, hz0, hz1, hz2⟩ := info_parts Try.infoPu
  rcases A with _ | ad
  · obtain rfl := hh.none_nil
    refine wpList_plain hgd fun K hK => ?_
    have hr := run_append_nothingPu w o.type B v xs hown c i0 hi0
    unfold Oper.wp execOp
    simp only [List.length_nil] at hx
    simp only [ho, resolve, invoke, builtin, Sem.run_bind, Sem.run_pure, Result.andThen_ok, List.map_toArray, List.map_cons, List.map_nil, hs, hx, hr]
    exact hK _ _ (h v w (by simpa using hown) (World.grownBy.refl _ _))
  · refine wpList_append_own _ hgd s x 22 ho B 53 i0 (.agg #[.string ByteArray.empty, .int .i64 0]) 2 24 Try.underlying22 hi0 hz0 hz1 hz2 rfl (by decide) v _ _ hs hown ad ys.length c (uss ys) hx (uss_len ys) hh.cells (uss_one ys) (by unfold maxLen; omega) (by omega) hB ?_
    intro v' w1 hown1 hgrow _
    exact h v' w1 (by simpa [OwnU, uss_append] using hown1) hgrow
/-- A slice of one, laid anew. -/
theorem Us.one (w : World) (x : Pu) (t : TypeId) : Us (w.alloc (.cells #[.string x.t, .int .i64 x.n] t)) (some ⟨w.heap.size, 0, none⟩) [x] := by
  intro j hj
  refine ⟨_, rfl, by simp, ?_⟩
  match j, hj with
  | 0, _ => exact UAt.of fun r hr => by match r, hr with | 0, _ => go_simp; simp [us1, pu] | 1, _ => go_simp; simp [us1, pu]
/-- The cells of block b hold x. -/
def Bu (w : World) (b : Nat) (x : Pu) : Prop := w.cell? ⟨b, 0, none⟩ = some (.string x.t) ∧ w.cell? ⟨b, 1, none⟩ = some (.int .i64 x.n)
section
variable {w w' : World} {b : Nat} {x : Pu}
theorem Bu.lt (h : Bu w b x) : b < w.heap.size := World.block_lt_of_cell? w _ h.1
theorem Bu.on (h : Bu w b x) (hb : Below w.heap.size w w') : Bu w' b x := ⟨(hb.cell h.lt).trans h.1, (hb.cell h.lt).trans h.2⟩
theorem Bu.new (w : World) (x : Pu) (t : TypeId) : Bu (w.alloc (.cells #[.string x.t, .int .i64 x.n] t)) w.heap.size x := ⟨by go_simp, by go_simp⟩
theorem Bu.alloc (h : Bu w b x) (o : Obj) : Bu (w.alloc o) b x := h.on ((Below.refl _ _).alloc (Nat.le_refl _) o)
end

theorem below_grownU {B C : Nat} {w0 w w' : World} {v : Value} {xs : List Pu} (hb : Below B w0 w) (ho : OwnU w C v xs) (hg : w.grownBy w' v.ownBlock) (hB : B ≤ w.heap.size) (hC : B ≤ C) : Below B w0 w' :=
  hb.grown hg hB (fun k hk => Nat.le_trans hC (ho.ge k hk).1)
theorem below_grownS {B C : Nat} {w0 w w' : World} {v : Value} {xs : List ByteArray} (hb : Below B w0 w) (ho : F.Own w C v xs) (hg : w.grownBy w' v.ownBlock) (hB : B ≤ w.heap.size) (hC : B ≤ C) : Below B w0 w' :=
  hb.grown hg hB (fun k hk => Nat.le_trans hC (ho.ge k hk).1)
theorem ownS_alloc {w : World} {B : Nat} {v : Value} {xs : List ByteArray} (h : F.Own w B v xs) (o : Obj) : F.Own (w.alloc o) B v xs := h.on ((Below.refl _ _).alloc (Nat.le_refl _) o)
end Go.Proofs.Ytdbndkccgpmkbaa
