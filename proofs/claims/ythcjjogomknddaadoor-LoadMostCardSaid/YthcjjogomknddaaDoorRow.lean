/-
  What memory holds: points, in slices, and in a variable; slices of the call's own.
-/
import Derived.Test.YthcjjogomknddaaDoorRp
import Derived.Test.YthcjjogomknddaaDoorTail
import Derived.Test.YthcjjogomknddaaDoorPlanC
import Derived.Test.YthcjjogomknddaaDoorOk
import Derived.Test.YthcjjogomknddaaDoorRok
import Derived.Test.YthcjjogomknddaaDoorLeaf
import Derived.Test.YthcjjogomknddaaDoorFSum
namespace Go.Proofs.YthcjjogomknddaaDoor
open Go.Sort Go.RowKit Go.Proofs.YthcjjogomknddaaDoor.Pure

theorem add_add (a : Addr) (i j : Nat) : (a.add i).add j = a.add (i + j) := by
  unfold Addr.add
  by_cases hi : i = 0 <;> by_cases hj : j = 0 <;> simp [hi, hj, Nat.add_assoc]
theorem pt_take (l : List Pt) (k j : Nat) (h : j < k) : pt (l.take k) j = pt l j := by simp [pt, List.getD, h]
theorem pt_drop (l : List Pt) (k j : Nat) : pt (l.drop k) j = pt l (k + j) := by simp [pt, List.getD]
/-! ### points -/
theorem Tryd.infoPt : (Tryd.prog.info? 67).map (fun i => (i.zero, i.size, i.bytes)) = some (some (.agg #[.int .u64 0, .int .i64 0, .int .i64 0]), 3, 24) := by kernel_rfl
/-- The cells from a on hold x. -/
def PAt (w : World) (a : Addr) (x : Pt) : Prop := w.cell? a = some (.int .u64 x.h) ∧ w.cell? (a.add 1) = some (.int .i64 x.n) ∧ w.cell? (a.add 2) = some (.int .i64 x.i)
/-- The slice that begins at A holds l. -/
def Ps (w : World) (A : Option Addr) (l : List Pt) : Prop := ∀ j, j < l.length → ∃ ad, A = some ad ∧ ad.block < w.heap.size ∧ PAt w (ad.add (j * 3)) (pt l j)
def ps1 (x : Pt) : List Value := [.int .u64 x.h, .int .i64 x.n, .int .i64 x.i]
def pss (xs : List Pt) : List Value := xs.flatMap ps1
/-- The slice v is the call's own, in blocks from B on, and holds xs. -/
def OwnP (w : World) (B : Nat) (v : Value) (xs : List Pt) : Prop := w.ownsRow B 67 3 v xs.length (pss xs)

theorem pss_len (xs : List Pt) : (pss xs).length = xs.length * 3 := by
  induction xs with
  | nil => rfl
  | cons x r ih => simp [pss, ps1] at ih ⊢; omega
theorem pss_append (xs ys : List Pt) : pss (xs ++ ys) = pss xs ++ pss ys := by simp [pss]
theorem pss_cons (x : Pt) (xs : List Pt) : pss (x :: xs) = ps1 x ++ pss xs := by simp [pss]
theorem pss_one (xs : List Pt) : ∀ u ∈ pss xs, u.oneCell' = true := by
  intro u hu
  obtain ⟨x, _, hx⟩ := List.mem_flatMap.1 hu
  simp [ps1] at hx
  rcases hx with rfl | rfl | rfl <;> rfl
theorem pss_at (xs : List Pt) (j r : Nat) (hj : j < xs.length) (hr : r < 3) : (pss xs)[j * 3 + r]? = (ps1 (pt xs j))[r]? := by
  induction xs generalizing j with
  | nil => simp at hj
  | cons x l ih =>
    rw [pss_cons]
    rcases j with _ | j
    · rw [List.getElem?_append_left (by simp [ps1]; omega)]
      simp [pt]
    · rw [List.getElem?_append_right (by simp [ps1]; omega)]
      have e2 : (j + 1) * 3 + r - (ps1 x).length = j * 3 + r := by simp [ps1]; omega
      rw [e2, ih j (by simpa using hj)]
      simp [pt]
theorem pss_set (xs : List Pt) (i : Nat) (y : Pt) : pss (xs.set i y) = (((pss xs).set (i * 3) (.int .u64 y.h)).set (i * 3 + 1) (.int .i64 y.n)).set (i * 3 + 2) (.int .i64 y.i) := by
  induction xs generalizing i with
  | nil => rfl
  | cons x l ih =>
    have e : pss (x :: l) = .int .u64 x.h :: .int .i64 x.n :: .int .i64 x.i :: pss l := by simp [pss, ps1]
    rcases i with _ | i
    · rw [List.set_cons_zero]
      rw [e, show pss (y :: l) = .int .u64 y.h :: .int .i64 y.n :: .int .i64 y.i :: pss l by simp [pss, ps1]]
      rfl
    · rw [List.set_cons_succ]
      rw [e, show pss (x :: l.set i y) = .int .u64 x.h :: .int .i64 x.n :: .int .i64 x.i :: pss (l.set i y) by simp [pss, ps1], ih]
      rw [show (i + 1) * 3 = i * 3 + 3 by omega]
      rfl

section
variable {w w' : World} {A : Option Addr} {l : List Pt} {a : Addr} {x : Pt} {B : Nat} {v : Value} {xs : List Pt}
theorem PAt.keep (h : PAt w a x) (hk : ∀ p : Addr, p.block = a.block → w'.cell? p = w.cell? p) : PAt w' a x :=
  ⟨(hk _ rfl).trans h.1, (hk _ (block_add _ _)).trans h.2.1, (hk _ (block_add _ _)).trans h.2.2⟩
theorem PAt.flat (h : PAt w a x) : w.cell? a = some (.int .u64 x.h) ∧ w.cell? ⟨a.block, a.off + 1, none⟩ = some (.int .i64 x.n) ∧ w.cell? ⟨a.block, a.off + 2, none⟩ = some (.int .i64 x.i) := h
theorem Ps.keep (h : Ps w A l) (hs : w.heap.size ≤ w'.heap.size) (hk : ∀ ad p : Addr, A = some ad → p.block = ad.block → w'.cell? p = w.cell? p) : Ps w' A l := fun j hj => by
  obtain ⟨ad, e, h1, h2⟩ := h j hj
  exact ⟨ad, e, by omega, h2.keep fun p hp => hk ad p e (by rw [hp, block_add])⟩
theorem Ps.on (h : Ps w A l) (hb : Below w.heap.size w w') : Ps w' A l := fun j hj => by
  obtain ⟨ad, e, h1, h2⟩ := h j hj
  have hs := hb.size
  exact ⟨ad, e, by omega, h2.keep fun p hp => hb.cell (by rw [hp, block_add]; exact h1)⟩
theorem Ps.drew (h : Ps w A l) : Ps w.drew A l := h
theorem Ps.alloc (h : Ps w A l) (o : Obj) : Ps (w.alloc o) A l := h.on ((Below.refl _ _).alloc (Nat.le_refl _) o)
theorem Ps.take (h : Ps w A l) (k : Nat) : Ps w A (l.take k) := fun j hj => by
  rw [List.length_take] at hj
  obtain ⟨ad, e, h1, h2⟩ := h j (by omega)
  refine ⟨ad, e, h1, ?_⟩
  rw [pt_take l k j (by omega)]
  exact h2
theorem Ps.nil (w : World) (A : Option Addr) : Ps w A [] := fun j hj => absurd hj (by simp)
theorem Ps.none_nil (h : Ps w none xs) : xs = [] := by
  rcases xs with _ | ⟨x, r⟩
  · rfl
  · obtain ⟨ad, e, _⟩ := h 0 (by simp)
    cases e
theorem pss_of_at {ad : Addr} (h : PAt w ad x) (r : Nat) (hr : r < 3) : w.cell? (ad.add r) = (ps1 x)[r]? := by
  match r, hr with
  | 0, _ => exact h.1
  | 1, _ => exact h.2.1
  | 2, _ => exact h.2.2
theorem Ps.cells {ad : Addr} (h : Ps w (some ad) xs) (j : Nat) (u : Value) (hu : (pss xs)[j]? = some u) : w.cell? (ad.add j) = some u := by
  have hl := (List.getElem?_eq_some_iff.1 hu).1
  rw [pss_len] at hl
  obtain ⟨ad', e, _, c⟩ := h (j / 3) (by omega)
  obtain rfl := Option.some.inj e
  have e2 : j / 3 * 3 + j % 3 = j := by omega
  have := pss_of_at c (j % 3) (by omega)
  rw [add_add, e2] at this
  rw [this, ← hu, ← e2, pss_at xs (j / 3) (j % 3) (by omega) (by omega)]
  simp [e2, pt]
/-- Cells of a block, one by one. -/
theorem PAt.of {b j : Nat} (h : ∀ r, r < 3 → w.cell? ⟨b, j * 3 + r, none⟩ = (ps1 x)[r]?) : PAt w ((⟨b, 0, none⟩ : Addr).add (j * 3)) x := by
  have e : (⟨b, 0, none⟩ : Addr).add (j * 3) = ⟨b, j * 3, none⟩ := by unfold Addr.add; split <;> simp_all
  rw [e]
  exact ⟨h 0 (by decide), h 1 (by decide), h 2 (by decide)⟩
theorem OwnP.alloc (h : OwnP w B v xs) (o : Obj) : OwnP (w.alloc o) B v xs := World.ownsRow.alloc (w := w) h o
theorem OwnP.drew (h : OwnP w B v xs) : OwnP w.drew B v xs := h
theorem OwnP.ge (h : OwnP w B v xs) : ∀ k, v.ownBlock = some k → B ≤ k ∧ k < w.heap.size := World.ownsRow.lt (w := w) h
theorem OwnP.nil (w : World) (B : Nat) : OwnP w B (.slice none 0 0) [] := World.ownsRow_nil _ _ _ _
theorem OwnP.mono {B' : Nat} (h : OwnP w B v xs) (hB : B' ≤ B) : OwnP w B' v xs := by
  refine ⟨h.1, ?_⟩
  rcases h.2 with h | ⟨g, cap, cur, h1, h2, h3⟩
  · exact .inl h
  · exact .inr ⟨g, cap, cur, h1, Nat.le_trans hB h2, h3⟩
theorem OwnP.keep (h : OwnP w B v xs) (hk : ∀ k, v.ownBlock = some k → w'.heap[k]? = w.heap[k]?) : OwnP w' B v xs := by
  refine ⟨h.1, ?_⟩
  rcases h.2 with h | ⟨g, cap, cur, rfl, h2, h3, h4⟩
  · exact .inl h
  · exact .inr ⟨g, cap, cur, rfl, h2, (hk g rfl).trans h3, h4⟩
theorem OwnP.on (h : OwnP w B v xs) (hb : Below w.heap.size w w') : OwnP w' B v xs := h.keep fun k hk => hb.block k (h.ge k hk).2
/-- Where a block of the call's own is written, which is not this one. -/
theorem OwnP.grown {row : Option Nat} (h : OwnP w B v xs) (hg : w.grownBy w' row) (hne : ∀ k, v.ownBlock = some k → row ≠ some k) : OwnP w' B v xs :=
  h.keep fun k hk => hg.block k (h.ge k hk).2 (fun e => hne k hk e.symm)
/-- What a slice of the call's own holds, wherever it lies. -/
theorem OwnP.lst (h : OwnP w B v xs) : ∃ (A : Option Addr) (c : Nat), v = .slice A xs.length c ∧ xs.length ≤ c ∧ Ps w A xs := by
  rcases h.2 with ⟨rfl, hn⟩ | ⟨g, cap, cur, rfl, hg, hh, hcap, _, _, _⟩
  · have : xs = [] := List.eq_nil_of_length_eq_zero hn
    subst this
    exact ⟨none, 0, rfl, Nat.le_refl _, Ps.nil _ _⟩
  · have hlt := World.ownsRow.lt (w := w) (v := .slice (some ⟨g, 0, none⟩) xs.length cap) h g rfl
    refine ⟨some ⟨g, 0, none⟩, cap, rfl, hcap, fun j hj => ⟨_, rfl, hlt.2, PAt.of fun r hr => ?_⟩⟩
    rw [World.ownsRow.cellAt (w := w) h (j * 3 + r) (by omega), pss_at xs j r hj hr]
theorem OwnP.cell {g c : Nat} (h : OwnP w B (.slice (some ⟨g, 0, none⟩) xs.length c) xs) (j : Nat) (hj : j < xs.length) : w.cell? ⟨g, j * 3, none⟩ = some (.int .u64 (pt xs j).h) ∧ w.cell? ⟨g, j * 3 + 1, none⟩ = some (.int .i64 (pt xs j).n) ∧ w.cell? ⟨g, j * 3 + 2, none⟩ = some (.int .i64 (pt xs j).i) :=
  ⟨(World.ownsRow.cellAt (w := w) h (j * 3 + 0) (by omega)).trans (pss_at xs j 0 hj (by decide)), (World.ownsRow.cellAt (w := w) h (j * 3 + 1) (by omega)).trans (pss_at xs j 1 hj (by decide)), (World.ownsRow.cellAt (w := w) h (j * 3 + 2) (by omega)).trans (pss_at xs j 2 hj (by decide))⟩
/-- One of them laid anew. -/
theorem OwnP.set {g c i : Nat} (h : OwnP w B (.slice (some ⟨g, 0, none⟩) xs.length c) xs) (y : Pt) : OwnP (((w.setCell ⟨g, i * 3, none⟩ (.int .u64 y.h)).setCell ⟨g, i * 3 + 1, none⟩ (.int .i64 y.n)).setCell ⟨g, i * 3 + 2, none⟩ (.int .i64 y.i)) B (.slice (some ⟨g, 0, none⟩) xs.length c) (xs.set i y) := by
  have h0 := (World.ownsRow.stored (w := w) h (i * 3) (.int .u64 y.h)).1
  have h1 := (World.ownsRow.stored h0 (i * 3 + 1) (.int .i64 y.n)).1
  have h2 := (World.ownsRow.stored h1 (i * 3 + 2) (.int .i64 y.i)).1
  unfold OwnP
  rw [pss_set, List.length_set]
  exact h2
end
theorem run_append_nothingPt (w : World) (ty : TypeId) (B : Nat) (v : Value) (xs : List Pt) (hown : OwnP w B v xs) (c : Nat) (i0 : TypeInfo) (hi0 : Tryd.prog.info? 67 = some i0) :
    (Builtin.append_ #[49, 49] ty #[v, .slice none 0 c]).run Tryd.prog w = .ok v w := by
  have ht := Tryd.underlying49
  rcases hown.2 with ⟨rfl, _⟩ | ⟨g, cap, cur, rfl, _, _, hnc, _⟩
  · simp [Builtin.append_, run_underlying ht, sizeOf, typeInfo, hi0, Builtin.lenOf, Builtin.firstCells]
  · simp [Builtin.append_, run_underlying ht, sizeOf, typeInfo, hi0, Builtin.lenOf, Builtin.firstCells, hnc, storeCells]
/-- append onto a slice of the call's own, of any slice, nil too. -/
theorem wpList_appendPt {w : World} {ops : Array Oper} {rest : List Oper} {o : Oper} {a : Act} {Q : Exit → Act → World → Prop} (hgd : o.guard = none) (s x : Operand)
    (ho : o.op = .call { callee := .builtin .append, args := #[s, x], argTypes := #[49, 49] })
    (B : Nat) (v : Value) (xs : List Pt) (hs : a.eval s = v) (hown : OwnP w B v xs) (A : Option Addr) (c : Nat) (ys : List Pt) (hx : a.eval x = .slice A ys.length c) (hh : Ps w A ys)
    (hlen : xs.length + ys.length ≤ 100000) (hB : B ≤ w.heap.size)
    (h : ∀ v' w', OwnP w' B v' (xs ++ ys) → w.grownBy w' v.ownBlock → wpList Tryd.prog ops Q rest (a.put o.dst v') w') : wpList Tryd.prog ops Q (o :: rest) a w := by
  obtain ⟨i0, hi0, hz0, hz1, hz2⟩ := info_parts Tryd.infoPt
  rcases A with _ | ad
  · obtain rfl := hh.none_nil
    refine wpList_plain hgd fun K hK => ?_
    have hr := run_append_nothingPt w o.type B v xs hown c i0 hi0
    unfold Oper.wp execOp
    simp only [List.length_nil] at hx
    simp only [ho, resolve, invoke, builtin, Sem.run_bind, Sem.run_pure, Result.andThen_ok, List.map_toArray, List.map_cons, List.map_nil, hs, hx, hr]
    exact hK _ _ (h v w (by simpa using hown) (World.grownBy.refl _ _))
  · refine wpList_append_own _ hgd s x 49 ho B 67 i0 (.agg #[.int .u64 0, .int .i64 0, .int .i64 0]) 3 24 Tryd.underlying49 hi0 hz0 hz1 hz2 rfl (by decide) v _ _ hs hown ad ys.length c (pss ys) hx (pss_len ys) hh.cells (pss_one ys) (by unfold maxLen; omega) (by omega) hB ?_
    intro v' w1 hown1 hgrow _
    exact h v' w1 (by simpa [OwnP, pss_append] using hown1) hgrow
/-- A slice of one, laid anew. -/
theorem Ps.one (w : World) (x : Pt) (t : TypeId) : Ps (w.alloc (.cells #[.int .u64 x.h, .int .i64 x.n, .int .i64 x.i] t)) (some ⟨w.heap.size, 0, none⟩) [x] := by
  intro j hj
  refine ⟨_, rfl, by simp, ?_⟩
  match j, hj with
  | 0, _ => exact PAt.of fun r hr => by match r, hr with | 0, _ => go_simp; simp [ps1, pt] | 1, _ => go_simp; simp [ps1, pt] | 2, _ => go_simp; simp [ps1, pt]
theorem Ps.two (w : World) (x y : Pt) (t : TypeId) : Ps (w.alloc (.cells #[.int .u64 x.h, .int .i64 x.n, .int .i64 x.i, .int .u64 y.h, .int .i64 y.n, .int .i64 y.i] t)) (some ⟨w.heap.size, 0, none⟩) [x, y] := by
  intro j hj
  refine ⟨_, rfl, by simp, ?_⟩
  match j, hj with
  | 0, _ => exact PAt.of fun r hr => by match r, hr with | 0, _ => go_simp; simp [ps1, pt] | 1, _ => go_simp; simp [ps1, pt] | 2, _ => go_simp; simp [ps1, pt]
  | 1, _ => exact PAt.of fun r hr => by match r, hr with | 0, _ => go_simp; simp [ps1, pt] | 1, _ => go_simp; simp [ps1, pt] | 2, _ => go_simp; simp [ps1, pt]

/-- The rest of a slice. -/
theorem Ps.drop {w : World} {ad : Addr} {l : List Pt} (h : Ps w (some ad) l) (k : Nat) : Ps w (some (ad.add (k * 3))) (l.drop k) := fun j hj => by
  rw [List.length_drop] at hj
  obtain ⟨ad', e, h1, h2⟩ := h (k + j) (by omega)
  obtain rfl := Option.some.inj e
  refine ⟨_, rfl, by rw [block_add]; exact h1, ?_⟩
  rw [add_add, ← Nat.add_mul, pt_drop]
  exact h2
/-- The cells of block b hold x. -/
def Bt (w : World) (b : Nat) (x : Pt) : Prop := w.cell? ⟨b, 0, none⟩ = some (.int .u64 x.h) ∧ w.cell? ⟨b, 1, none⟩ = some (.int .i64 x.n) ∧ w.cell? ⟨b, 2, none⟩ = some (.int .i64 x.i)
section
variable {w w' : World} {b : Nat} {x : Pt}
theorem Bt.lt (h : Bt w b x) : b < w.heap.size := World.block_lt_of_cell? w _ h.1
theorem Bt.on (h : Bt w b x) (hb : Below w.heap.size w w') : Bt w' b x := ⟨(hb.cell h.lt).trans h.1, (hb.cell h.lt).trans h.2.1, (hb.cell h.lt).trans h.2.2⟩
theorem Bt.new (w : World) (x : Pt) (t : TypeId) : Bt (w.alloc (.cells #[.int .u64 x.h, .int .i64 x.n, .int .i64 x.i] t)) w.heap.size x := ⟨by go_simp, by go_simp, by go_simp⟩
theorem Bt.alloc (h : Bt w b x) (o : Obj) : Bt (w.alloc o) b x := h.on ((Below.refl _ _).alloc (Nat.le_refl _) o)
end
/-- Memory grows, nothing that was there turns. -/
def Grew (w w' : World) : Prop := ∃ q os', w' = grow (w.drewN q) os'
theorem Grew.refl (w : World) : Grew w w := ⟨0, #[], by rw [grow_empty]; rfl⟩
theorem Grew.trans {a b c : World} (h : Grew a b) (k : Grew b c) : Grew a c := by
  obtain ⟨q, os, rfl⟩ := h
  obtain ⟨q', os', rfl⟩ := k
  exact ⟨q + q', os ++ os', by show grow (grow ((a.drewN q).drewN q') os) os' = _; rw [grow_grow, World.drewN_drewN]⟩
theorem Grew.alloc {a b : World} (h : Grew a b) (o : Obj) : Grew a (b.alloc o) := h.trans ⟨0, #[o], by rw [alloc_eq_grow]; rfl⟩
theorem Grew.drew {a b : World} (h : Grew a b) : Grew a b.drew := h.trans ⟨1, #[], by rw [grow_empty]; rfl⟩
theorem Grew.below {a b : World} (h : Grew a b) : Below a.heap.size a b := by
  obtain ⟨q, os, rfl⟩ := h
  exact ⟨rfl, rfl, rfl, by simp, fun k hk => heap_grow_old _ _ (by simpa using hk)⟩

end Go.Proofs.YthcjjogomknddaaDoor
