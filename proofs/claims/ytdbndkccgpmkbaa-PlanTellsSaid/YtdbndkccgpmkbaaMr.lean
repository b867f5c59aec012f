/-
  What memory holds: moves, in slices, in slices of the call's own, in a box.
-/
import Derived.Test.YtdbndkccgpmkbaaCk
import Derived.Test.YtdbndkccgpmkbaaPq
namespace Go.Proofs.Ytdbndkccgpmkbaa
open Go.Sort Go.RowKit Go.Proofs.Ytdbndkccgpmkbaa.Pure

theorem mv_take (l : List Mv) (k j : Nat) (h : j < k) : mv (l.take k) j = mv l j := by simp [mv, List.getD, h]
theorem mv_drop (l : List Mv) (k j : Nat) : mv (l.drop k) j = mv l (k + j) := by simp [mv, List.getD]
theorem Try.infoV : (Try.prog.info? 39).map (fun i => (i.zero, i.size, i.bytes)) = some (some (.agg #[.string ByteArray.empty, .int .i64 0, .int .i64 0]), 3, 32) := by kernel_rfl
/-- The cells from a on hold x. -/
def VAt (w : World) (a : Addr) (x : Mv) : Prop := w.cell? a = some (.string x.t) ∧ w.cell? (a.add 1) = some (.int .i64 x.f) ∧ w.cell? (a.add 2) = some (.int .i64 x.g)
/-- The slice that begins at A holds l. -/
def Vs (w : World) (A : Option Addr) (l : List Mv) : Prop := ∀ j, j < l.length → ∃ ad, A = some ad ∧ ad.block < w.heap.size ∧ VAt w (ad.add (j * 3)) (mv l j)
def cV1 (x : Mv) : List Value := [.string x.t, .int .i64 x.f, .int .i64 x.g]
def csV (xs : List Mv) : List Value := xs.flatMap cV1
/-- The slice v is the call's own, in blocks from B on, and holds xs. -/
def OwnV (w : World) (B : Nat) (v : Value) (xs : List Mv) : Prop := w.ownsRow B 39 3 v xs.length (csV xs)
theorem csV_len (xs : List Mv) : (csV xs).length = xs.length * 3 := by
  induction xs with
  | nil => rfl
  | cons x r ih => simp [csV, cV1] at ih ⊢; omega
theorem csV_append (xs ys : List Mv) : csV (xs ++ ys) = csV xs ++ csV ys := by simp [csV]
theorem csV_cons (x : Mv) (xs : List Mv) : csV (x :: xs) = cV1 x ++ csV xs := by simp [csV]
theorem csV_one (xs : List Mv) : ∀ u ∈ csV xs, u.oneCell' = true := by
  intro u hu
  obtain ⟨x, _, hx⟩ := List.mem_flatMap.1 hu
  simp [cV1] at hx
  rcases hx with rfl | rfl | rfl <;> rfl
theorem csV_at (xs : List Mv) (j r : Nat) (hj : j < xs.length) (hr : r < 3) : (csV xs)[j * 3 + r]? = (cV1 (mv xs j))[r]? := by
  induction xs generalizing j with
  | nil => simp at hj
  | cons x l ih =>
    rw [csV_cons]
    rcases j with _ | j
    · rw [List.getElem?_append_left (by simp [cV1]; omega)]
      simp [mv]
    · rw [List.getElem?_append_right (by simp [cV1]; omega)]
      have e2 : (j + 1) * 3 + r - (cV1 x).length = j * 3 + r := by simp [cV1]; omega
      rw [e2, ih j (by simpa using hj)]
      simp [mv]
section
variable {w w' : World} {A : Option Addr} {l : List Mv} {a : Addr} {x : Mv} {B : Nat} {v : Value} {xs : List Mv}
theorem VAt.keep (h : VAt w a x) (hk : ∀ p : Addr, p.block = a.block → w'.cell? p = w.cell? p) : VAt w' a x := ⟨(hk _ rfl).trans h.1, (hk _ (block_add _ _)).trans h.2.1, (hk _ (block_add _ _)).trans h.2.2⟩
theorem VAt.flat (h : VAt w a x) : w.cell? a = some (.string x.t) ∧ w.cell? ⟨a.block, a.off + 1, none⟩ = some (.int .i64 x.f) ∧ w.cell? ⟨a.block, a.off + 2, none⟩ = some (.int .i64 x.g) := h
theorem Vs.keep (h : Vs w A l) (hs : w.heap.size ≤ w'.heap.size) (hk : ∀ ad p : Addr, A = some ad → p.block = ad.block → w'.cell? p = w.cell? p) : Vs w' A l := fun j hj => by
  obtain ⟨ad, e, h1, h2⟩ := h j hj
  exact ⟨ad, e, by omega, h2.keep fun p hp => hk ad p e (by rw [hp, block_add])⟩
theorem Vs.on (h : Vs w A l) (hb : Below w.heap.size w w') : Vs w' A l := fun j hj => by
  obtain ⟨ad, e, h1, h2⟩ := h j hj
  have hs := hb.size
  exact ⟨ad, e, by omega, h2.keep fun p hp => hb.cell (by rw [hp, block_add]; exact h1)⟩
theorem Vs.drew (h : Vs w A l) : Vs w.drew A l := h
theorem Vs.alloc (h : Vs w A l) (o : Obj) : Vs (w.alloc o) A l := h.on ((Below.refl _ _).alloc (Nat.le_refl _) o)
theorem Vs.take (h : Vs w A l) (k : Nat) : Vs w A (l.take k) := fun j hj => by
  rw [List.length_take] at hj
  obtain ⟨ad, e, h1, h2⟩ := h j (by omega)
  refine ⟨ad, e, h1, ?_⟩
  rw [mv_take l k j (by omega)]
  exact h2
theorem Vs.drop {ad : Addr} (h : Vs w (some ad) l) (k : Nat) : Vs w (some (ad.add (k * 3))) (l.drop k) := fun j hj => by
  rw [List.length_drop] at hj
  obtain ⟨ad', e, h1, h2⟩ := h (k + j) (by omega)
  obtain rfl := Option.some.inj e
  refine ⟨_, rfl, by rw [block_add]; exact h1, ?_⟩
  rw [add_add, ← Nat.add_mul, mv_drop]
  exact h2
theorem Vs.nil (w : World) (A : Option Addr) : Vs w A [] := fun j hj => absurd hj (by simp)
theorem Vs.none_nil (h : Vs w none xs) : xs = [] := by
  rcases xs with _ | ⟨x, r⟩
  · rfl
  · obtain ⟨ad, e, _⟩ := h 0 (by simp)
    cases e
theorem cV_of_at {ad : Addr} (h : VAt w ad x) (r : Nat) (hr : r < 3) : w.cell? (ad.add r) = (cV1 x)[r]? := by
  match r, hr with
  | 0, _ => exact h.1
  | 1, _ => exact h.2.1
  | 2, _ => exact h.2.2
theorem Vs.cells {ad : Addr} (h : Vs w (some ad) xs) (j : Nat) (u : Value) (hu : (csV xs)[j]? = some u) : w.cell? (ad.add j) = some u := by
  have hl := (List.getElem?_eq_some_iff.1 hu).1
  rw [csV_len] at hl
  obtain ⟨ad', e, _, c⟩ := h (j / 3) (by omega)
  obtain rfl := Option.some.inj e
  have e2 : j / 3 * 3 + j % 3 = j := by omega
  have := cV_of_at c (j % 3) (by omega)
  rw [add_add, e2] at this
  rw [this, ← hu, ← e2, csV_at xs (j / 3) (j % 3) (by omega) (by omega)]
  simp [e2, mv]
theorem VAt.of {b j : Nat} (h : ∀ r, r < 3 → w.cell? ⟨b, j * 3 + r, none⟩ = (cV1 x)[r]?) : VAt w ((⟨b, 0, none⟩ : Addr).add (j * 3)) x := by
  have e : (⟨b, 0, none⟩ : Addr).add (j * 3) = ⟨b, j * 3, none⟩ := by unfold Addr.add; split <;> simp_all
  rw [e]
  exact ⟨h 0 (by decide), h 1 (by decide), h 2 (by decide)⟩
theorem OwnV.alloc (h : OwnV w B v xs) (o : Obj) : OwnV (w.alloc o) B v xs := World.ownsRow.alloc (w := w) h o
theorem OwnV.drew (h : OwnV w B v xs) : OwnV w.drew B v xs := h
theorem OwnV.ge (h : OwnV w B v xs) : ∀ k, v.ownBlock = some k → B ≤ k ∧ k < w.heap.size := World.ownsRow.lt (w := w) h
theorem OwnV.nil (w : World) (B : Nat) : OwnV w B (.slice none 0 0) [] := World.ownsRow_nil _ _ _ _
theorem OwnV.mono {B' : Nat} (h : OwnV w B v xs) (hB : B' ≤ B) : OwnV w B' v xs := by
  refine ⟨h.1, ?_⟩
  rcases h.2 with h | ⟨g, cap, cur, h1, h2, h3⟩
  · exact .inl h
  · exact .inr ⟨g, cap, cur, h1, Nat.le_trans hB h2, h3⟩
theorem OwnV.keep (h : OwnV w B v xs) (hk : ∀ k, v.ownBlock = some k → w'.heap[k]? = w.heap[k]?) : OwnV w' B v xs := by
  refine ⟨h.1, ?_⟩
  rcases h.2 with h | ⟨g, cap, cur, rfl, h2, h3, h4⟩
  · exact .inl h
  · exact .inr ⟨g, cap, cur, rfl, h2, (hk g rfl).trans h3, h4⟩
theorem OwnV.on (h : OwnV w B v xs) (hb : Below w.heap.size w w') : OwnV w' B v xs := h.keep fun k hk => hb.block k (h.ge k hk).2
/-- Where a block of the call's own is written, which is not this one. -/
theorem OwnV.grown {row : Option Nat} (h : OwnV w B v xs) (hg : w.grownBy w' row) (hne : ∀ k, v.ownBlock = some k → row ≠ some k) : OwnV w' B v xs :=
  h.keep fun k hk => hg.block k (h.ge k hk).2 (fun e => hne k hk e.symm)
/-- What a slice of the call's own holds, wherever it lies. -/
theorem OwnV.lst (h : OwnV w B v xs) : ∃ (A : Option Addr) (c : Nat), v = .slice A xs.length c ∧ xs.length ≤ c ∧ Vs w A xs := by
  rcases h.2 with ⟨rfl, hn⟩ | ⟨g, cap, cur, rfl, hg, hh, hcap, _, _, _⟩
  · have : xs = [] := List.eq_nil_of_length_eq_zero hn
    subst this
    exact ⟨none, 0, rfl, Nat.le_refl _, Vs.nil _ _⟩
  · have hlt := World.ownsRow.lt (w := w) (v := .slice (some ⟨g, 0, none⟩) xs.length cap) h g rfl
    refine ⟨some ⟨g, 0, none⟩, cap, rfl, hcap, fun j hj => ⟨_, rfl, hlt.2, VAt.of fun r hr => ?_⟩⟩
    rw [World.ownsRow.cellAt (w := w) h (j * 3 + r) (by omega), csV_at xs j r hj hr]
end
theorem run_append_nothingV (w : World) (ty : TypeId) (B : Nat) (v : Value) (xs : List Mv) (hown : OwnV w B v xs) (c : Nat) (i0 : TypeInfo) (hi0 : Try.prog.info? 39 = some i0) :
    (Builtin.append_ #[23, 23] ty #[v, .slice none 0 c]).run Try.prog w = .ok v w := by
  have ht := Try.underlying23
  rcases hown.2 with ⟨rfl, _⟩ | ⟨g, cap, cur, rfl, _, _, hnc, _⟩
  · simp [Builtin.append_, run_underlying ht, sizeOf, typeInfo, hi0, Builtin.lenOf, Builtin.firstCells]
  · simp [Builtin.append_, run_underlying ht, sizeOf, typeInfo, hi0, Builtin.lenOf, Builtin.firstCells, hnc, storeCells]
/-- append onto a slice of the call's own, of any slice, nil too: what comes, and where it lies. -/
theorem run_appendV (w : World) (ty : TypeId) (B : Nat) (v : Value) (xs : List Mv) (hown : OwnV w B v xs) (A : Option Addr) (c : Nat) (ys : List Mv) (hh : Vs w A ys) (hlen : xs.length + ys.length ≤ 100000) (hB : B ≤ w.heap.size) :
    ∃ v' w', (Builtin.append_ #[23, 23] ty #[v, .slice A ys.length c]).run Try.prog w = .ok v' w' ∧ OwnV w' B v' (xs ++ ys) ∧ w.grownBy w' v.ownBlock ∧ (v'.ownBlock = v.ownBlock ∨ v'.ownBlock = some w.heap.size) := by
  obtain ⟨i0, hi0, hz0, hz1, hz2⟩ := info_parts Try.infoV
  rcases A with _ | ad
  · obtain rfl := hh.none_nil
    exact ⟨v, w, run_append_nothingV w ty B v xs hown c i0 hi0, by simpa using hown, World.grownBy.refl _ _, Or.inl rfl⟩
  · obtain ⟨v', w', h1, h2, h3, _, h5⟩ := run_append_own_at (P := Try.prog) (w := w) B 23 ty 39 i0 (.agg #[.string ByteArray.empty, .int .i64 0, .int .i64 0]) 3 32 Try.underlying23 hi0 hz0 hz1 hz2 rfl (by decide) v _ _ hown ad ys.length c (csV ys) (csV_len ys) hh.cells (csV_one ys) (by unfold maxLen; omega) (by omega) hB
    exact ⟨v', w', h1, by simpa [OwnV, csV_append] using h2, h3, h5⟩
theorem wpList_appendV {w : World} {ops : Array Oper} {rest : List Oper} {o : Oper} {a : Act} {Q : Exit → Act → World → Prop} (hgd : o.guard = none) (s x : Operand)
    (ho : o.op = .call { callee := .builtin .append, args := #[s, x], argTypes := #[23, 23] })
    (B : Nat) (v : Value) (xs : List Mv) (hs : a.eval s = v) (hown : OwnV w B v xs) (A : Option Addr) (c : Nat) (ys : List Mv) (hx : a.eval x = .slice A ys.length c) (hh : Vs w A ys)
    (hlen : xs.length + ys.length ≤ 100000) (hB : B ≤ w.heap.size)
    (h : ∀ v' w', OwnV w' B v' (xs ++ ys) → w.grownBy w' v.ownBlock → (v'.ownBlock = v.ownBlock ∨ v'.ownBlock = some w.heap.size) → wpList Try.prog ops Q rest (a.put o.dst v') w') : wpList Try.prog ops Q (o :: rest) a w := by
  obtain ⟨v', w', hr, h2, h3, h4⟩ := run_appendV w o.type B v xs hown A c ys hh hlen hB
  refine wpList_plain hgd fun K hK => ?_
  unfold Oper.wp execOp
  simp only [ho, resolve, invoke, builtin, Sem.run_bind, Sem.run_pure, Result.andThen_ok, List.map_toArray, List.map_cons, List.map_nil, hs, hx, hr]
  exact hK _ _ (h v' w' h2 h3 h4)
theorem wp_appendV {w : World} {o : Oper} {a : Act} {K : Act → World → Prop} {Q : Exit → Act → World → Prop} (s x : Operand)
    (ho : o.op = .call { callee := .builtin .append, args := #[s, x], argTypes := #[23, 23] })
    (B : Nat) (v : Value) (xs : List Mv) (hs : a.eval s = v) (hown : OwnV w B v xs) (A : Option Addr) (c : Nat) (ys : List Mv) (hx : a.eval x = .slice A ys.length c) (hh : Vs w A ys)
    (hlen : xs.length + ys.length ≤ 100000) (hB : B ≤ w.heap.size)
    (h : ∀ v' w', OwnV w' B v' (xs ++ ys) → w.grownBy w' v.ownBlock → (v'.ownBlock = v.ownBlock ∨ v'.ownBlock = some w.heap.size) → K (a.put o.dst v') w') : o.wp Try.prog a w K Q := by
  obtain ⟨v', w', hr, h2, h3, h4⟩ := run_appendV w o.type B v xs hown A c ys hh hlen hB
  unfold Oper.wp execOp
  simp only [ho, resolve, invoke, builtin, Sem.run_bind, Sem.run_pure, Result.andThen_ok, List.map_toArray, List.map_cons, List.map_nil, hs, hx, hr]
  exact h v' w' h2 h3 h4
/-- Slices laid anew. -/
theorem Vs.one (w : World) (x : Mv) (t : TypeId) : Vs (w.alloc (.cells #[.string x.t, .int .i64 x.f, .int .i64 x.g] t)) (some ⟨w.heap.size, 0, none⟩) [x] := by
  intro j hj
  refine ⟨_, rfl, by simp, ?_⟩
  match j, hj with
  | 0, _ => exact VAt.of fun r hr => by match r, hr with | 0, _ => go_simp; simp [cV1, mv] | 1, _ => go_simp; simp [cV1, mv] | 2, _ => go_simp; simp [cV1, mv]
theorem Vs.two (w : World) (x y : Mv) (t : TypeId) : Vs (w.alloc (.cells #[.string x.t, .int .i64 x.f, .int .i64 x.g, .string y.t, .int .i64 y.f, .int .i64 y.g] t)) (some ⟨w.heap.size, 0, none⟩) [x, y] := by
  intro j hj
  refine ⟨_, rfl, by simp, ?_⟩
  match j, hj with
  | 0, _ => exact VAt.of fun r hr => by match r, hr with | 0, _ => go_simp; simp [cV1, mv] | 1, _ => go_simp; simp [cV1, mv] | 2, _ => go_simp; simp [cV1, mv]
  | 1, _ => exact VAt.of fun r hr => by match r, hr with | 0, _ => go_simp; simp [cV1, mv] | 1, _ => go_simp; simp [cV1, mv] | 2, _ => go_simp; simp [cV1, mv]
/-- The cells of block b hold x. -/
def BV (w : World) (b : Nat) (x : Mv) : Prop := w.cell? ⟨b, 0, none⟩ = some (.string x.t) ∧ w.cell? ⟨b, 1, none⟩ = some (.int .i64 x.f) ∧ w.cell? ⟨b, 2, none⟩ = some (.int .i64 x.g)
section
variable {w w' : World} {b : Nat} {x : Mv}
theorem BV.lt (h : BV w b x) : b < w.heap.size := World.block_lt_of_cell? w _ h.1
theorem BV.on (h : BV w b x) (hb : Below w.heap.size w w') : BV w' b x := ⟨(hb.cell h.lt).trans h.1, (hb.cell h.lt).trans h.2.1, (hb.cell h.lt).trans h.2.2⟩
theorem BV.new (w : World) (x : Mv) (t : TypeId) : BV (w.alloc (.cells #[.string x.t, .int .i64 x.f, .int .i64 x.g] t)) w.heap.size x := ⟨by go_simp, by go_simp, by go_simp⟩
theorem BV.alloc (h : BV w b x) (o : Obj) : BV (w.alloc o) b x := h.on ((Below.refl _ _).alloc (Nat.le_refl _) o)
end
theorem below_grownV {B C : Nat} {w0 w w' : World} {v : Value} {xs : List Mv} (hb : Below B w0 w) (ho : OwnV w C v xs) (hg : w.grownBy w' v.ownBlock) (hB : B ≤ w.heap.size) (hC : B ≤ C) : Below B w0 w' :=
  hb.grown hg hB (fun k hk => Nat.le_trans hC (ho.ge k hk).1)
end Go.Proofs.Ytdbndkccgpmkbaa
