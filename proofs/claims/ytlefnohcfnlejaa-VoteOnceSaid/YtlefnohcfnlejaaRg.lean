/-
  What memory holds: grants, and times, in slices.
-/
import Derived.Test.YtlefnohcfnlejaaVw
namespace Go.Proofs.Ytlefnohcfnlejaa
open Go.Sort Go.RowKit Go.Joins Go.Proofs.Ytlefnohcfnlejaa.Pure

theorem add_add (a : Addr) (i j : Nat) : (a.add i).add j = a.add (i + j) := by
  unfold Addr.add
  by_cases hi : i = 0 <;> by_cases hj : j = 0 <;> simp [hi, hj, Nat.add_assoc]
def zgr : Gr := ⟨0, 0, 0⟩
def gr (l : List Gr) (j : Nat) : Gr := l.getD j zgr
theorem gr_take (l : List Gr) (k j : Nat) (h : j < k) : gr (l.take k) j = gr l j := by simp [gr, List.getD, h]
theorem gr_drop (l : List Gr) (k j : Nat) : gr (l.drop k) j = gr l (k + j) := by simp [gr, List.getD]
theorem Try.infoG : (Try.prog.info? 33).map (fun i => (i.zero, i.size, i.bytes)) = some (some (.agg #[.int .u64 0, .int .i64 0, .int .i64 0]), 3, 24) := by kernel_rfl
/-- The cells from a on hold x. -/
def GAt (w : World) (a : Addr) (x : Gr) : Prop := w.cell? a = some (.int .u64 x.e) ∧ w.cell? (a.add 1) = some (.int .i64 x.t) ∧ w.cell? (a.add 2) = some (.int .i64 x.n)
/-- The slice that begins at A holds l. -/
def Gs (w : World) (A : Option Addr) (l : List Gr) : Prop := ∀ j, j < l.length → ∃ ad, A = some ad ∧ ad.block < w.heap.size ∧ GAt w (ad.add (j * 3)) (gr l j)
def cG1 (x : Gr) : List Value := [.int .u64 x.e, .int .i64 x.t, .int .i64 x.n]
def csG (xs : List Gr) : List Value := xs.flatMap cG1
/-- The slice v is the call's own, in blocks from B on, and holds xs. -/
def OwnG (w : World) (B : Nat) (v : Value) (xs : List Gr) : Prop := w.ownsRow B 33 3 v xs.length (csG xs)
theorem csG_len (xs : List Gr) : (csG xs).length = xs.length * 3 := by
  induction xs with
  | nil => rfl
  | cons x r ih => simp [csG, cG1] at ih ⊢; omega
theorem csG_append (xs ys : List Gr) : csG (xs ++ ys) = csG xs ++ csG ys := by simp [csG]
theorem csG_cons (x : Gr) (xs : List Gr) : csG (x :: xs) = cG1 x ++ csG xs := by simp [csG]
theorem csG_one (xs : List Gr) : ∀ u ∈ csG xs, u.oneCell' = true := by
  intro u hu
  obtain ⟨x, _, hx⟩ := List.mem_flatMap.1 hu
  simp [cG1] at hx
  rcases hx with rfl | rfl | rfl <;> rfl
theorem csG_at (xs : List Gr) (j r : Nat) (hj : j < xs.length) (hr : r < 3) : (csG xs)[j * 3 + r]? = (cG1 (gr xs j))[r]? := by
  induction xs generalizing j with
  | nil => simp at hj
  | cons x l ih =>
    rw [csG_cons]
    rcases j with _ | j
    · rw [List.getElem?_append_left (by simp [cG1]; omega)]
      simp [gr]
    · rw [List.getElem?_append_right (by simp [cG1]; omega)]
      have e2 : (j + 1) * 3 + r - (cG1 x).length = j * 3 + r := by simp [cG1]; omega
      rw [e2, ih j (by simpa using hj)]
      simp [gr]
section
variable {w w' : World} {A : Option Addr} {l : List Gr} {a : Addr} {x : Gr} {B : Nat} {v : Value} {xs : List Gr}
theorem GAt.keep (h : GAt w a x) (hk : ∀ p : Addr, p.block = a.block → w'.cell? p = w.cell? p) : GAt w' a x := ⟨(hk _ rfl).trans h.1, (hk _ (block_add _ _)).trans h.2.1, (hk _ (block_add _ _)).trans h.2.2⟩
theorem GAt.flat (h : GAt w a x) : w.cell? a = some (.int .u64 x.e) ∧ w.cell? ⟨a.block, a.off + 1, none⟩ = some (.int .i64 x.t) ∧ w.cell? ⟨a.block, a.off + 2, none⟩ = some (.int .i64 x.n) := h
theorem Gs.keep (h : Gs w A l) (hs : w.heap.size ≤ w'.heap.size) (hk : ∀ ad p : Addr, A = some ad → p.block = ad.block → w'.cell? p = w.cell? p) : Gs w' A l := fun j hj => by
  obtain ⟨ad, e, h1, h2⟩ := h j hj
  exact ⟨ad, e, by omega, h2.keep fun p hp => hk ad p e (by rw [hp, block_add])⟩
theorem Gs.on (h : Gs w A l) (hb : Below w.heap.size w w') : Gs w' A l := fun j hj => by
  obtain ⟨ad, e, h1, h2⟩ := h j hj
  have hs := hb.size
  exact ⟨ad, e, by omega, h2.keep fun p hp => hb.cell (by rw [hp, block_add]; exact h1)⟩
theorem Gs.drew (h : Gs w A l) : Gs w.drew A l := h
theorem Gs.alloc (h : Gs w A l) (o : Obj) : Gs (w.alloc o) A l := h.on ((Below.refl _ _).alloc (Nat.le_refl _) o)
theorem Gs.take (h : Gs w A l) (k : Nat) : Gs w A (l.take k) := fun j hj => by
  rw [List.length_take] at hj
  obtain ⟨ad, e, h1, h2⟩ := h j (by omega)
  refine ⟨ad, e, h1, ?_⟩
  rw [gr_take l k j (by omega)]
  exact h2
theorem Gs.drop {ad : Addr} (h : Gs w (some ad) l) (k : Nat) : Gs w (some (ad.add (k * 3))) (l.drop k) := fun j hj => by
  rw [List.length_drop] at hj
  obtain ⟨ad', e, h1, h2⟩ := h (k + j) (by omega)
  obtain rfl := Option.some.inj e
  refine ⟨_, rfl, by rw [block_add]; exact h1, ?_⟩
  rw [add_add, ← Nat.add_mul, gr_drop]
  exact h2
theorem Gs.nil (w : World) (A : Option Addr) : Gs w A [] := fun j hj => absurd hj (by simp)
theorem Gs.none_nil (h : Gs w none xs) : xs = [] := by
  rcases xs with _ | ⟨x, r⟩
  · rfl
  · obtain ⟨ad, e, _⟩ := h 0 (by simp)
    cases e
theorem cG_of_at {ad : Addr} (h : GAt w ad x) (r : Nat) (hr : r < 3) : w.cell? (ad.add r) = (cG1 x)[r]? := by
  match r, hr with
  | 0, _ => exact h.1
  | 1, _ => exact h.2.1
  | 2, _ => exact h.2.2
theorem Gs.cells {ad : Addr} (h : Gs w (some ad) xs) (j : Nat) (u : Value) (hu : (csG xs)[j]? = some u) : w.cell? (ad.add j) = some u := by
  have hl := (List.getElem?_eq_some_iff.1 hu).1
  rw [csG_len] at hl
  obtain ⟨ad', e, _, c⟩ := h (j / 3) (by omega)
  obtain rfl := Option.some.inj e
  have e2 : j / 3 * 3 + j % 3 = j := by omega
  have := cG_of_at c (j % 3) (by omega)
  rw [add_add, e2] at this
  rw [this, ← hu, ← e2, csG_at xs (j / 3) (j % 3) (by omega) (by omega)]
  simp [e2, gr]
theorem GAt.of {b j : Nat} (h : ∀ r, r < 3 → w.cell? ⟨b, j * 3 + r, none⟩ = (cG1 x)[r]?) : GAt w ((⟨b, 0, none⟩ : Addr).add (j * 3)) x := by
  have e : (⟨b, 0, none⟩ : Addr).add (j * 3) = ⟨b, j * 3, none⟩ := by unfold Addr.add; split <;> simp_all
  rw [e]
  exact ⟨h 0 (by decide), h 1 (by decide), h 2 (by decide)⟩
theorem OwnG.alloc (h : OwnG w B v xs) (o : Obj) : OwnG (w.alloc o) B v xs := World.ownsRow.alloc (w := w) h o
theorem OwnG.drew (h : OwnG w B v xs) : OwnG w.drew B v xs := h
theorem OwnG.ge (h : OwnG w B v xs) : ∀ k, v.ownBlock = some k → B ≤ k ∧ k < w.heap.size := World.ownsRow.lt (w := w) h
theorem OwnG.nil (w : World) (B : Nat) : OwnG w B (.slice none 0 0) [] := World.ownsRow_nil _ _ _ _
theorem OwnG.mono {B' : Nat} (h : OwnG w B v xs) (hB : B' ≤ B) : OwnG w B' v xs := by
  refine ⟨h.1, ?_⟩
  rcases h.2 with h | ⟨g, cap, cur, h1, h2, h3⟩
  · exact .inl h
  · exact .inr ⟨g, cap, cur, h1, Nat.le_trans hB h2, h3⟩
theorem OwnG.keep (h : OwnG w B v xs) (hk : ∀ k, v.ownBlock = some k → w'.heap[k]? = w.heap[k]?) : OwnG w' B v xs := by
  refine ⟨h.1, ?_⟩
  rcases h.2 with h | ⟨g, cap, cur, rfl, h2, h3, h4⟩
  · exact .inl h
  · exact .inr ⟨g, cap, cur, rfl, h2, (hk g rfl).trans h3, h4⟩
theorem OwnG.on (h : OwnG w B v xs) (hb : Below w.heap.size w w') : OwnG w' B v xs := h.keep fun k hk => hb.block k (h.ge k hk).2
/-- Where a block of the call's own is written, which is not this one. -/
theorem OwnG.grown {row : Option Nat} (h : OwnG w B v xs) (hg : w.grownBy w' row) (hne : ∀ k, v.ownBlock = some k → row ≠ some k) : OwnG w' B v xs :=
  h.keep fun k hk => hg.block k (h.ge k hk).2 (fun e => hne k hk e.symm)
/-- What a slice of the call's own holds, wherever it lies. -/
theorem OwnG.lst (h : OwnG w B v xs) : ∃ (A : Option Addr) (c : Nat), v = .slice A xs.length c ∧ xs.length ≤ c ∧ Gs w A xs := by
  rcases h.2 with ⟨rfl, hn⟩ | ⟨g, cap, cur, rfl, hg, hh, hcap, _, _, _⟩
  · have : xs = [] := List.eq_nil_of_length_eq_zero hn
    subst this
    exact ⟨none, 0, rfl, Nat.le_refl _, Gs.nil _ _⟩
  · have hlt := World.ownsRow.lt (w := w) (v := .slice (some ⟨g, 0, none⟩) xs.length cap) h g rfl
    refine ⟨some ⟨g, 0, none⟩, cap, rfl, hcap, fun j hj => ⟨_, rfl, hlt.2, GAt.of fun r hr => ?_⟩⟩
    rw [World.ownsRow.cellAt (w := w) h (j * 3 + r) (by omega), csG_at xs j r hj hr]
end
theorem run_append_nothingG (w : World) (ty : TypeId) (B : Nat) (v : Value) (xs : List Gr) (hown : OwnG w B v xs) (c : Nat) (i0 : TypeInfo) (hi0 : Try.prog.info? 33 = some i0) :
    (Builtin.append_ #[27, 27] ty #[v, .slice none 0 c]).run Try.prog w = .ok v w := by
  have ht := Try.underlying27
  rcases hown.2 with ⟨rfl, _⟩ | ⟨g, cap, cur, rfl, _, _, hnc, _⟩
  · simp [Builtin.append_, run_underlying ht, sizeOf, typeInfo, hi0, Builtin.lenOf, Builtin.firstCells]
  · simp [Builtin.append_, run_underlying ht, sizeOf, typeInfo, hi0, Builtin.lenOf, Builtin.firstCells, hnc, storeCells]
/-- append onto a slice of the call's own, of any slice, nil too: what comes, and where it lies. -/
theorem run_appendG (w : World) (ty : TypeId) (B : Nat) (v : Value) (xs : List Gr) (hown : OwnG w B v xs) (A : Option Addr) (c : Nat) (ys : List Gr) (hh : Gs w A ys) (hlen : xs.length + ys.length ≤ 100000) (hB : B ≤ w.heap.size) :
    ∃ v' w', (Builtin.append_ #[27, 27] ty #[v, .slice A ys.length c]).run Try.prog w = .ok v' w' ∧ OwnG w' B v' (xs ++ ys) ∧ w.grownBy w' v.ownBlock ∧ (v'.ownBlock = v.ownBlock ∨ v'.ownBlock = some w.heap.size) := by
  obtain ⟨i0, hi0, hz0, hz1, hz2⟩ := info_parts Try.infoG
  rcases A with _ | ad
  · obtain rfl := hh.none_nil
    exact ⟨v, w, run_append_nothingG w ty B v xs hown c i0 hi0, by simpa using hown, World.grownBy.refl _ _, Or.inl rfl⟩
  · obtain ⟨v', w', h1, h2, h3, _, h5⟩ := run_append_own_at (P := Try.prog) (w := w) B 27 ty 33 i0 (.agg #[.int .u64 0, .int .i64 0, .int .i64 0]) 3 24 Try.underlying27 hi0 hz0 hz1 hz2 rfl (by decide) v _ _ hown ad ys.length c (csG ys) (csG_len ys) hh.cells (csG_one ys) (by unfold maxLen; omega) (by omega) hB
    exact ⟨v', w', h1, by simpa [OwnG, csG_append] using h2, h3, h5⟩
theorem wpList_appendG {w : World} {ops : Array Oper} {rest : List Oper} {o : Oper} {a : Act} {Q : Exit → Act → World → Prop} (hgd : o.guard = none) (s x : Operand)
    (ho : o.op = .call { callee := .builtin .append, args := #[s, x], argTypes := #[27, 27] })
    (B : Nat) (v : Value) (xs : List Gr) (hs : a.eval s = v) (hown : OwnG w B v xs) (A : Option Addr) (c : Nat) (ys : List Gr) (hx : a.eval x = .slice A ys.length c) (hh : Gs w A ys)
    (hlen : xs.length + ys.length ≤ 100000) (hB : B ≤ w.heap.size)
    (h : ∀ v' w', OwnG w' B v' (xs ++ ys) → w.grownBy w' v.ownBlock → (v'.ownBlock = v.ownBlock ∨ v'.ownBlock = some w.heap.size) → wpList Try.prog ops Q rest (a.put o.dst v') w') : wpList Try.prog ops Q (o :: rest) a w := by
  obtain ⟨v', w', hr, h2, h3, h4⟩ := run_appendG w o.type B v xs hown A c ys hh hlen hB
  refine wpList_plain hgd fun K hK => ?_
  unfold Oper.wp execOp
  simp only [ho, resolve, invoke, builtin, Sem.run_bind, Sem.run_pure, Result.andThen_ok, List.map_toArray, List.map_cons, List.map_nil, hs, hx, hr]
  exact hK _ _ (h v' w' h2 h3 h4)
theorem wp_appendG {w : World} {o : Oper} {a : Act} {K : Act → World → Prop} {Q : Exit → Act → World → Prop} (s x : Operand)
    (ho : o.op = .call { callee := .builtin .append, args := #[s, x], argTypes := #[27, 27] })
    (B : Nat) (v : Value) (xs : List Gr) (hs : a.eval s = v) (hown : OwnG w B v xs) (A : Option Addr) (c : Nat) (ys : List Gr) (hx : a.eval x = .slice A ys.length c) (hh : Gs w A ys)
    (hlen : xs.length + ys.length ≤ 100000) (hB : B ≤ w.heap.size)
    (h : ∀ v' w', OwnG w' B v' (xs ++ ys) → w.grownBy w' v.ownBlock → (v'.ownBlock = v.ownBlock ∨ v'.ownBlock = some w.heap.size) → K (a.put o.dst v') w') : o.wp Try.prog a w K Q := by
  obtain ⟨v', w', hr, h2, h3, h4⟩ := run_appendG w o.type B v xs hown A c ys hh hlen hB
  unfold Oper.wp execOp
  simp only [ho, resolve, invoke, builtin, Sem.run_bind, Sem.run_pure, Result.andThen_ok, List.map_toArray, List.map_cons, List.map_nil, hs, hx, hr]
  exact h v' w' h2 h3 h4
/-- Slices laid anew. -/
theorem Gs.one (w : World) (x : Gr) (t : TypeId) : Gs (w.alloc (.cells #[.int .u64 x.e, .int .i64 x.t, .int .i64 x.n] t)) (some ⟨w.heap.size, 0, none⟩) [x] := by
  intro j hj
  refine ⟨_, rfl, by simp, ?_⟩
  match j, hj with
  | 0, _ => exact GAt.of fun r hr => by match r, hr with | 0, _ => go_simp; simp [cG1, gr] | 1, _ => go_simp; simp [cG1, gr] | 2, _ => go_simp; simp [cG1, gr]
theorem Gs.two (w : World) (x y : Gr) (t : TypeId) : Gs (w.alloc (.cells #[.int .u64 x.e, .int .i64 x.t, .int .i64 x.n, .int .u64 y.e, .int .i64 y.t, .int .i64 y.n] t)) (some ⟨w.heap.size, 0, none⟩) [x, y] := by
  intro j hj
  refine ⟨_, rfl, by simp, ?_⟩
  match j, hj with
  | 0, _ => exact GAt.of fun r hr => by match r, hr with | 0, _ => go_simp; simp [cG1, gr] | 1, _ => go_simp; simp [cG1, gr] | 2, _ => go_simp; simp [cG1, gr]
  | 1, _ => exact GAt.of fun r hr => by match r, hr with | 0, _ => go_simp; simp [cG1, gr] | 1, _ => go_simp; simp [cG1, gr] | 2, _ => go_simp; simp [cG1, gr]
/-- The cells of block b hold x. -/
def BG (w : World) (b : Nat) (x : Gr) : Prop := w.cell? ⟨b, 0, none⟩ = some (.int .u64 x.e) ∧ w.cell? ⟨b, 1, none⟩ = some (.int .i64 x.t) ∧ w.cell? ⟨b, 2, none⟩ = some (.int .i64 x.n)
section
variable {w w' : World} {b : Nat} {x : Gr}
theorem BG.lt (h : BG w b x) : b < w.heap.size := World.block_lt_of_cell? w _ h.1
theorem BG.on (h : BG w b x) (hb : Below w.heap.size w w') : BG w' b x := ⟨(hb.cell h.lt).trans h.1, (hb.cell h.lt).trans h.2.1, (hb.cell h.lt).trans h.2.2⟩
theorem BG.new (w : World) (x : Gr) (t : TypeId) : BG (w.alloc (.cells #[.int .u64 x.e, .int .i64 x.t, .int .i64 x.n] t)) w.heap.size x := ⟨by go_simp, by go_simp, by go_simp⟩
theorem BG.alloc (h : BG w b x) (o : Obj) : BG (w.alloc o) b x := h.on ((Below.refl _ _).alloc (Nat.le_refl _) o)
end
theorem below_grownG {B C : Nat} {w0 w w' : World} {v : Value} {xs : List Gr} (hb : Below B w0 w) (ho : OwnG w C v xs) (hg : w.grownBy w' v.ownBlock) (hB : B ≤ w.heap.size) (hC : B ≤ C) : Below B w0 w' :=
  hb.grown hg hB (fun k hk => Nat.le_trans hC (ho.ge k hk).1)
/-- The slice that begins at A holds the numbers xs, in blocks from lo on, below hi. -/
def Has (w : World) (lo hi : Nat) (A : Option Addr) (xs : List Int) : Prop :=
  ∀ j, j < xs.length → ∃ ad, A = some ad ∧ lo ≤ ad.block ∧ ad.block < hi ∧ w.cell? (ad.add j) = some (.int .i64 (xs.getD j 0))
section
variable {w w' : World} {lo hi : Nat} {A : Option Addr} {xs : List Int}
theorem Has.keep (h : Has w lo hi A xs) (hk : ∀ p : Addr, lo ≤ p.block → p.block < hi → w'.cell? p = w.cell? p) : Has w' lo hi A xs := fun j hj => by
  obtain ⟨ad, e, h1, h2, h3⟩ := h j hj
  exact ⟨ad, e, h1, h2, (hk _ (by rw [block_add]; exact h1) (by rw [block_add]; exact h2)).trans h3⟩
theorem Has.nil (w : World) (lo hi : Nat) (A : Option Addr) : Has w lo hi A [] := fun j hj => absurd hj (by simp)
theorem Has.on {B : Nat} (h : Has w lo hi A xs) (hb : Below B w w') (hB : hi ≤ B) : Has w' lo hi A xs := h.keep fun _ _ hp => hb.cell (by omega)
end
theorem Try.infoInt : (Try.prog.info? 2).map (fun i => (i.zero, i.size, i.bytes)) = some (some (.int .i64 0), 1, 8) := by kernel_rfl
/-- The cells of numbers. -/
def ints (xs : List Int) : List Value := xs.map (Value.int .i64)
/-- The slice v is the call's own, in blocks from B on, and holds the numbers xs. -/
def Own (w : World) (B : Nat) (v : Value) (xs : List Int) : Prop := w.ownsRow B 2 1 v xs.length (ints xs)
theorem ints_one (xs : List Int) : ∀ u ∈ ints xs, u.oneCell' = true := by
  intro u hu
  obtain ⟨x, _, rfl⟩ := List.mem_map.1 hu
  rfl
theorem ints_at (xs : List Int) (j : Nat) (u : Value) (h : (ints xs)[j]? = some u) : j < xs.length ∧ u = .int .i64 (xs.getD j 0) := by
  unfold ints at h
  rw [List.getElem?_map] at h
  rcases hj : xs[j]? with _ | x
  · rw [hj] at h; cases h
  · rw [hj] at h
    have hl := (List.getElem?_eq_some_iff.1 hj).1
    simp at h
    exact ⟨hl, by rw [← h, List.getD, hj]; rfl⟩
theorem Has.cells {w : World} {lo hi : Nat} {ad : Addr} {xs : List Int} (h : Has w lo hi (some ad) xs) (j : Nat) (u : Value) (hu : (ints xs)[j]? = some u) : w.cell? (ad.add j) = some u := by
  obtain ⟨hj, rfl⟩ := ints_at xs j u hu
  obtain ⟨ad', e, _, _, c⟩ := h j hj
  obtain rfl := Option.some.inj e
  exact c
/-- The numbers of a slice of the call's own, wherever it lies. -/
theorem Own.has {w : World} {B : Nat} {v : Value} {xs : List Int} (h : Own w B v xs) : ∃ (A : Option Addr) (c : Nat), v = .slice A xs.length c ∧ xs.length ≤ c ∧ Has w B w.heap.size A xs := by
  rcases h.2 with ⟨rfl, hn⟩ | ⟨g, cap, cur, rfl, hg, hh, hcap, _, _, _⟩
  · have : xs = [] := List.eq_nil_of_length_eq_zero hn
    subst this
    exact ⟨none, 0, rfl, Nat.le_refl _, Has.nil _ _ _ _⟩
  · have hlt := World.ownsRow.lt (w := w) (v := .slice (some ⟨g, 0, none⟩) xs.length cap) h g rfl
    refine ⟨some ⟨g, 0, none⟩, cap, rfl, hcap, fun j hj => ⟨_, rfl, hlt.1, hlt.2, ?_⟩⟩
    exact World.ownsRow.cells (w := w) (v := .slice (some ⟨g, 0, none⟩) xs.length cap) h (g := g) rfl j _ (by simp [ints, List.getD, hj])
theorem Has.none_nil {w : World} {lo hi : Nat} {xs : List Int} (h : Has w lo hi none xs) : xs = [] := by
  rcases xs with _ | ⟨x, r⟩
  · rfl
  · obtain ⟨ad, e, _⟩ := h 0 (by simp)
    cases e
theorem run_append_nothing (w : World) (ty : TypeId) (B : Nat) (v : Value) (xs : List Int) (hown : Own w B v xs) (c : Nat) (i0 : TypeInfo) (hi0 : Try.prog.info? 2 = some i0) :
    (Builtin.append_ #[28, 28] ty #[v, .slice none 0 c]).run Try.prog w = .ok v w := by
  have ht := Try.underlying28
  rcases hown.2 with ⟨rfl, _⟩ | ⟨g, cap, cur, rfl, _, _, hnc, _⟩
  · simp [Builtin.append_, run_underlying ht, sizeOf, typeInfo, hi0, Builtin.lenOf, Builtin.firstCells]
  · simp [Builtin.append_, run_underlying ht, sizeOf, typeInfo, hi0, Builtin.lenOf, Builtin.firstCells, hnc, storeCells]
section
variable {w w' : World} {B : Nat} {v : Value} {xs : List Int}
theorem Own.ge (h : Own w B v xs) : ∀ k, v.ownBlock = some k → B ≤ k ∧ k < w.heap.size := World.ownsRow.lt (w := w) h
theorem Own.keepB (h : Own w B v xs) (hk : ∀ k, v.ownBlock = some k → w'.heap[k]? = w.heap[k]?) : Own w' B v xs := by
  refine ⟨h.1, ?_⟩
  rcases h.2 with h | ⟨g, cap, cur, rfl, h2, h3, h4⟩
  · exact .inl h
  · exact .inr ⟨g, cap, cur, rfl, h2, (hk g rfl).trans h3, h4⟩
theorem Own.on (h : Own w B v xs) (hb : Below w.heap.size w w') : Own w' B v xs := h.keepB fun k hk => hb.block k (h.ge k hk).2
theorem Own.alloc (h : Own w B v xs) (o : Obj) : Own (w.alloc o) B v xs := h.on ((Below.refl _ _).alloc (Nat.le_refl _) o)
theorem Own.mono {B' : Nat} (h : Own w B v xs) (hB : B' ≤ B) : Own w B' v xs := by
  refine ⟨h.1, ?_⟩
  rcases h.2 with h | ⟨g, cap, cur, h1, h2, h3⟩
  · exact .inl h
  · exact .inr ⟨g, cap, cur, h1, Nat.le_trans hB h2, h3⟩
theorem Own.nil (w : World) (B : Nat) : Own w B (.slice none 0 0) [] := World.ownsRow_nil _ _ _ _
theorem below_grownO {B C : Nat} {w0 w w' : World} (hb : Below B w0 w) (ho : Own w C v xs) (hg : w.grownBy w' v.ownBlock) (hB : B ≤ w.heap.size) (hC : B ≤ C) : Below B w0 w' :=
  hb.grown hg hB (fun k hk => Nat.le_trans hC (ho.ge k hk).1)
end
theorem Has.one (w : World) (x : Int) (t : TypeId) : Has (w.alloc (.cells #[.int .i64 x] t)) w.heap.size (w.heap.size + 1) (some ⟨w.heap.size, 0, none⟩) [x] := by
  intro j hj
  have hj0 : j = 0 := by simp at hj; omega
  subst hj0
  exact ⟨_, rfl, Nat.le_refl _, Nat.lt_succ_self _, by go_simp⟩
/-- append of one number onto a slice of the call's own: where the answer lies, too. -/
theorem append_one {w : World} {ops : Array Oper} {rest : List Oper} {o : Oper} {a : Act} {Q : Exit → Act → World → Prop} (hgd : o.guard = none) (s x : Operand)
    (ho : o.op = .call { callee := .builtin .append, args := #[s, x], argTypes := #[28, 28] })
    (B : Nat) (v : Value) (xs : List Int) (hs : a.eval s = v) (hown : Own w B v xs) (g : Nat) (y : Int) (hx : a.eval x = .slice (some ⟨g, 0, none⟩) 1 1) (hc : w.cell? ⟨g, 0, none⟩ = some (.int .i64 y))
    (hlen : xs.length ≤ 100000) (hB : B ≤ w.heap.size)
    (h : ∀ v' w', Own w' B v' (xs ++ [y]) → w.grownBy w' v.ownBlock → (v'.ownBlock = v.ownBlock ∨ v'.ownBlock = some w.heap.size) → wpList Try.prog ops Q rest (a.put o.dst v') w') : wpList Try.prog ops Q (o :: rest) a w := by
  obtain ⟨i0, hi0, hz0, hz1, hz2⟩ := info_parts Try.infoInt
  refine wpList_plain hgd fun K hK => ?_
  obtain ⟨v', w', h1, h2, h3, _, h5⟩ := run_append_own_at (P := Try.prog) (w := w) B 28 o.type 2 i0 (.int .i64 0) 1 8 Try.underlying28 hi0 hz0 hz1 hz2 rfl (by decide) v _ _ hown ⟨g, 0, none⟩ 1 1 [.int .i64 y] (by simp) (fun j u hu => by
    rcases j with _ | j
    · simp at hu; subst hu; exact hc
    · simp at hu) (by simp [Value.oneCell']) (by unfold maxLen; omega) (by omega) hB
  unfold Oper.wp execOp
  simp only [ho, resolve, invoke, builtin, Sem.run_bind, Sem.run_pure, Result.andThen_ok, List.map_toArray, List.map_cons, List.map_nil, hs, hx, h1]
  exact hK _ _ (h v' w' (by simpa [Own, ints] using h2) h3 h5)
/-- Two slices of the call's own lie apart. -/
def Dis (u v : Value) : Prop := ∀ k, u.ownBlock = some k → v.ownBlock ≠ some k
theorem Dis.symm {u v : Value} (h : Dis u v) : Dis v u := fun k hk hu => h k hu hk
theorem Own.grown {w w' : World} {B : Nat} {u v : Value} {xs : List Int} (h : Own w B u xs) (hg : w.grownBy w' v.ownBlock) (hd : Dis u v) : Own w' B u xs :=
  h.keepB fun k hk => hg.block k (h.ge k hk).2 (fun e => hd k hk e.symm)
theorem dis_after {w : World} {B : Nat} {u v v' : Value} {xs : List Int} (h : Own w B u xs) (hd : Dis u v) (he : v'.ownBlock = v.ownBlock ∨ v'.ownBlock = some w.heap.size) : Dis u v' := fun k hk => by
  rcases he with e | e
  · rw [e]; exact hd k hk
  · rw [e]; intro e2; injection e2 with e2; have := (h.ge k hk).2; omega
theorem u8_mod (n m k : Nat) (h : n ≤ 255) (hm : n % k = m) (hk : 0 < k) (hk2 : k ≤ 100) : Int.tmod (n : Int) (k : Int) = (m : Int) ∧ (n : Int) % (k : Int) = (m : Int) ∧ IntKind.i64.wrap (m : Int) = (m : Int) ∧ IntKind.u8.wrap (m : Int) = (m : Int) ∧ m < k := by
  have hlt : m < k := by rw [← hm]; exact Nat.mod_lt _ hk
  have e : (n : Int) % (k : Int) = (m : Int) := by rw [← hm]; rfl
  refine ⟨by rw [Int.tmod_eq_emod_of_nonneg (by omega)]; exact e, e, IntWalk.i64_in _ (by omega), ?_, hlt⟩
  simp [IntKind.wrap, IntKind.bits, IntKind.signed]; omega
theorem dis_afterG {w : World} {B : Nat} {u v v' : Value} {xs : List Gr} (h : OwnG w B u xs) (hd : Dis u v) (he : v'.ownBlock = v.ownBlock ∨ v'.ownBlock = some w.heap.size) : Dis u v' := fun k hk => by
  rcases he with e | e
  · rw [e]; exact hd k hk
  · rw [e]; intro e2; injection e2 with e2; have := (h.ge k hk).2; omega
end Go.Proofs.Ytlefnohcfnlejaa
