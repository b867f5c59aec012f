/-
  Slices of the call's own: of what is known, and of nodes; the library's Clone.
-/
import Derived.Test.YtjeepmdklbfgeaaDoorLeaf
import Derived.Test.YtjeepmdklbfgeaaDoorTab
import Derived.Test.YtjeepmdklbfgeaaDoorNw
namespace Go.Proofs.YtjeepmdklbfgeaaDoor
open Go.RowKit Go.Proofs.YtjeepmdklbfgeaaDoor.Pure

theorem Tryd.infoKn : (Tryd.prog.info? 24).map (fun i => (i.zero, i.size, i.bytes)) = some (some (.agg #[.int .u64 0, .int .i64 0]), 2, 16) := by kernel_rfl
theorem Tryd.infoInt : (Tryd.prog.info? 3).map (fun i => (i.zero, i.size, i.bytes)) = some (some (.int .i64 0), 1, 8) := by kernel_rfl

/-! ### what is known -/
def cells1 (x : Kn) : List Value := [.int .u64 x.i, .int .i64 x.s]
def kns (xs : List Kn) : List Value := xs.flatMap cells1
/-- The slice v is the call's own, in blocks from B on, and holds xs. -/
def Own (w : World) (B : Nat) (v : Value) (xs : List Kn) : Prop := w.ownsRow B 24 2 v xs.length (kns xs)

theorem kns_len (xs : List Kn) : (kns xs).length = xs.length * 2 := by
  induction xs with
  | nil => rfl
  | cons x r ih => simp [kns, cells1] at ih ⊢; omega
theorem kns_append (xs ys : List Kn) : kns (xs ++ ys) = kns xs ++ kns ys := by simp [kns]
theorem kns_one (xs : List Kn) : ∀ u ∈ kns xs, u.oneCell' = true := by
  intro u hu
  obtain ⟨x, _, hx⟩ := List.mem_flatMap.1 hu
  simp [cells1] at hx
  rcases hx with rfl | rfl <;> rfl
theorem kns_at (xs : List Kn) (j r : Nat) (hj : j < xs.length) (hr : r < 2) : (kns xs)[j * 2 + r]? = (cells1 (kn xs j))[r]? := by
  induction xs generalizing j with
  | nil => simp at hj
  | cons x l ih =>
    have e : kns (x :: l) = cells1 x ++ kns l := by simp [kns]
    rw [e]
    rcases j with _ | j
    · rw [List.getElem?_append_left (by simp [cells1]; omega)]
      simp [kn]
    · rw [List.getElem?_append_right (by simp [cells1]; omega)]
      have e2 : (j + 1) * 2 + r - (cells1 x).length = j * 2 + r := by simp [cells1]; omega
      rw [e2, ih j (by simpa using hj)]
      simp [kn]
theorem kns_set (xs : List Kn) (i : Nat) (y : Kn) : kns (xs.set i y) = ((kns xs).set (i * 2) (.int .u64 y.i)).set (i * 2 + 1) (.int .i64 y.s) := by
  induction xs generalizing i with
  | nil => rfl
  | cons x l ih =>
    have e : kns (x :: l) = .int .u64 x.i :: .int .i64 x.s :: kns l := by simp [kns, cells1]
    rcases i with _ | i
    · rw [List.set_cons_zero]
      rw [e, show kns (y :: l) = .int .u64 y.i :: .int .i64 y.s :: kns l by simp [kns, cells1]]
      rfl
    · rw [List.set_cons_succ]
      rw [e, show kns (x :: l.set i y) = .int .u64 x.i :: .int .i64 x.s :: kns (l.set i y) by simp [kns, cells1], ih]
      rw [show (i + 1) * 2 = i * 2 + 2 by omega]
      rfl

theorem cells_of_kat {w : World} {ad : Addr} {x : Kn} (h : KAt w ad x) (r : Nat) (hr : r < 2) : w.cell? (ad.add r) = (cells1 x)[r]? := by
  match r, hr with
  | 0, _ => exact h.1
  | 1, _ => exact h.2
theorem Lst.cells {w : World} {ad : Addr} {xs : List Kn} (h : Lst w (some ad) xs) (j : Nat) (u : Value) (hu : (kns xs)[j]? = some u) : w.cell? (ad.add j) = some u := by
  have hl := (List.getElem?_eq_some_iff.1 hu).1
  rw [kns_len] at hl
  obtain ⟨ad', e, _, c⟩ := h (j / 2) (by omega)
  obtain rfl := Option.some.inj e
  have e2 : j / 2 * 2 + j % 2 = j := by omega
  have := cells_of_kat c (j % 2) (by omega)
  rw [add_add, e2] at this
  rw [this, ← hu, ← e2, kns_at xs (j / 2) (j % 2) (by omega) (by omega)]
  simp [e2, kn]
theorem Lst.none_nil {w : World} {xs : List Kn} (h : Lst w none xs) : xs = [] := by
  rcases xs with _ | ⟨x, r⟩
  · rfl
  · obtain ⟨ad, e, _⟩ := h 0 (by simp)
    cases e
section
variable {w w' : World} {B : Nat} {v : Value} {xs : List Kn}
theorem Own.alloc (h : Own w B v xs) (o : Obj) : Own (w.alloc o) B v xs := World.ownsRow.alloc (w := w) h o
theorem Own.drew (h : Own w B v xs) : Own w.drew B v xs := h
theorem Own.ge (h : Own w B v xs) : ∀ k, v.ownBlock = some k → B ≤ k ∧ k < w.heap.size := World.ownsRow.lt (w := w) h
theorem Own.nil (w : World) (B : Nat) : Own w B (.slice none 0 0) [] := World.ownsRow_nil _ _ _ _
theorem Own.mono {B' : Nat} (h : Own w B v xs) (hB : B' ≤ B) : Own w B' v xs := by
  refine ⟨h.1, ?_⟩
  rcases h.2 with h | ⟨g, cap, cur, h1, h2, h3⟩
  · exact .inl h
  · exact .inr ⟨g, cap, cur, h1, Nat.le_trans hB h2, h3⟩
theorem Own.on (h : Own w B v xs) (hb : Below w.heap.size w w') : Own w' B v xs := by
  refine ⟨h.1, ?_⟩
  have hk := h.ge
  rcases h.2 with h | ⟨g, cap, cur, rfl, h2, h3, h4⟩
  · exact .inl h
  · exact .inr ⟨g, cap, cur, rfl, h2, (hb.block g (hk g rfl).2).trans h3, h4⟩
/-- What a slice of the call's own holds, wherever it lies. -/
theorem Own.lst (h : Own w B v xs) : ∃ (A : Option Addr) (c : Nat), v = .slice A xs.length c ∧ xs.length ≤ c ∧ Lst w A xs := by
  rcases h.2 with ⟨rfl, hn⟩ | ⟨g, cap, cur, rfl, hg, hh, hcap, _, _, _⟩
  · have : xs = [] := List.eq_nil_of_length_eq_zero hn
    subst this
    exact ⟨none, 0, rfl, Nat.le_refl _, Lst.nil _ _⟩
  · have hlt := World.ownsRow.lt (w := w) (v := .slice (some ⟨g, 0, none⟩) xs.length cap) h g rfl
    refine ⟨some ⟨g, 0, none⟩, cap, rfl, hcap, fun j hj => ⟨_, rfl, hlt.2, ?_⟩⟩
    have e : (⟨g, 0, none⟩ : Addr).add (j * 2) = ⟨g, j * 2, none⟩ := by unfold Addr.add; split <;> simp_all
    rw [e]
    have h0 := (World.ownsRow.cellAt (w := w) h (j * 2 + 0) (by omega)).trans (kns_at xs j 0 hj (by decide))
    have h1 := (World.ownsRow.cellAt (w := w) h (j * 2 + 1) (by omega)).trans (kns_at xs j 1 hj (by decide))
    exact ⟨h0, h1⟩
/-- The same, where there is something. -/
theorem Own.opened (h : Own w B v xs) (hn : 0 < xs.length) : ∃ g c, v = .slice (some ⟨g, 0, none⟩) xs.length c ∧ B ≤ g ∧ g < w.heap.size ∧ (∀ o : Nat, w.frozen? ⟨g, o, none⟩ = false) ∧ (∀ j, j < xs.length → w.cell? ⟨g, j * 2, none⟩ = some (.int .u64 (kn xs j).i) ∧ w.cell? ⟨g, j * 2 + 1, none⟩ = some (.int .i64 (kn xs j).s)) := by
  rcases h.2 with ⟨_, h0⟩ | ⟨g, cap, cur, rfl, hg, hh, hcap, _, _, _⟩
  · omega
  · have hlt := World.ownsRow.lt (w := w) (v := .slice (some ⟨g, 0, none⟩) xs.length cap) h g rfl
    exact ⟨g, cap, rfl, hg, hlt.2, World.ownsRow.frozenAt (w := w) h, fun j hj => ⟨(World.ownsRow.cellAt (w := w) h (j * 2 + 0) (by omega)).trans (kns_at xs j 0 hj (by decide)), (World.ownsRow.cellAt (w := w) h (j * 2 + 1) (by omega)).trans (kns_at xs j 1 hj (by decide))⟩⟩
/-- One of them laid anew. -/
theorem Own.set {g c i : Nat} (h : Own w B (.slice (some ⟨g, 0, none⟩) xs.length c) xs) (y : Kn) : Own ((w.setCell ⟨g, i * 2, none⟩ (.int .u64 y.i)).setCell ⟨g, i * 2 + 1, none⟩ (.int .i64 y.s)) B (.slice (some ⟨g, 0, none⟩) xs.length c) (xs.set i y) := by
  have h1 := (World.ownsRow.stored (w := w) h (i * 2) (.int .u64 y.i)).1
  have h2 := (World.ownsRow.stored h1 (i * 2 + 1) (.int .i64 y.s)).1
  unfold Own
  rw [kns_set, List.length_set]
  exact h2
end

theorem run_append_nothing (w : World) (ty : TypeId) (B : Nat) (v : Value) (xs : List Kn) (hown : Own w B v xs) (c : Nat) (i0 : TypeInfo) (hi0 : Tryd.prog.info? 24 = some i0) :
    (Builtin.append_ #[26, 26] ty #[v, .slice none 0 c]).run Tryd.prog w = .ok v w := by
  have ht := Tryd.underlying26
  rcases hown.2 with ⟨rfl, _⟩ | ⟨g, cap, cur, rfl, _, _, hnc, _⟩
  · simp [Builtin.append_, run_underlying ht, sizeOf, typeInfo, hi0, Builtin.lenOf, Builtin.firstCells]
  · simp [Builtin.append_, run_underlying ht, sizeOf, typeInfo, hi0, Builtin.lenOf, Builtin.firstCells, hnc, storeCells]

/-- append onto a slice of the call's own, of any slice, nil too. -/
theorem wpList_append_lst {w : World} {ops : Array Oper} {rest : List Oper} {o : Oper} {a : Act} {Q : Exit → Act → World → Prop} (hgd : o.guard = none) (s x : Operand)
    (ho : o.op = .call { callee := .builtin .append, args := #[s, x], argTypes := #[26, 26] })
    (B : Nat) (v : Value) (xs : List Kn) (hs : a.eval s = v) (hown : Own w B v xs) (A : Option Addr) (c : Nat) (ys : List Kn) (hx : a.eval x = .slice A ys.length c) (hh : Lst w A ys)
    (hlen : xs.length + ys.length ≤ 100000) (hB : B ≤ w.heap.size)
    (h : ∀ v' w', Own w' B v' (xs ++ ys) → w.grownBy w' v.ownBlock → wpList Tryd.prog ops Q rest (a.put o.dst v') w') : wpList Tryd.prog ops Q (o :: rest) a w := by
  obtain ⟨i0, hi0, hz0, hz1, hz2⟩ := info_parts Tryd.infoKn
  rcases A with _ | ad
  · obtain rfl := hh.none_nil
    refine wpList_plain hgd fun K hK => ?_
    have hr := run_append_nothing w o.type B v xs hown c i0 hi0
    unfold Oper.wp execOp
    simp only [List.length_nil] at hx
    simp only [ho, resolve, invoke, builtin, Sem.run_bind, Sem.run_pure, Result.andThen_ok, List.map_toArray, List.map_cons, List.map_nil, hs, hx, hr]
    exact hK _ _ (h v w (by simpa using hown) (World.grownBy.refl _ _))
  · refine wpList_append_own _ hgd s x 26 ho B 24 i0 (.agg #[.int .u64 0, .int .i64 0]) 2 16 Tryd.underlying26 hi0 hz0 hz1 hz2 rfl (by decide) v _ _ hs hown ad ys.length c (kns ys) hx (kns_len ys) hh.cells (kns_one ys) (by unfold maxLen; omega) (by omega) hB ?_
    intro v' w1 hown1 hgrow _
    exact h v' w1 (by simpa [Own, kns_append] using hown1) hgrow

theorem Tryd.infoNw : (Tryd.prog.info? 63).map (fun i => (i.zero, i.size, i.bytes)) = some (some (.agg #[.int .i64 0, .int .u64 0, .int .i64 0]), 3, 24) := by kernel_rfl
/-- The cells from a on hold x. -/
def NAt (w : World) (a : Addr) (x : Nw) : Prop := w.cell? a = some (.int .i64 x.w) ∧ w.cell? (a.add 1) = some (.int .u64 x.i) ∧ w.cell? (a.add 2) = some (.int .i64 x.s)
/-- The slice that begins at A holds l. -/
def Ns (w : World) (A : Option Addr) (l : List Nw) : Prop := ∀ j, j < l.length → ∃ ad, A = some ad ∧ ad.block < w.heap.size ∧ NAt w (ad.add (j * 3)) (nw l j)
def nws1 (x : Nw) : List Value := [.int .i64 x.w, .int .u64 x.i, .int .i64 x.s]
def nws (xs : List Nw) : List Value := xs.flatMap nws1
/-- The slice v is the call's own, in blocks from B on, and holds xs. -/
def OwnN (w : World) (B : Nat) (v : Value) (xs : List Nw) : Prop := w.ownsRow B 63 3 v xs.length (nws xs)

theorem nws_len (xs : List Nw) : (nws xs).length = xs.length * 3 := by
  induction xs with
  | nil => rfl
  | cons x r ih => simp [nws, nws1] at ih ⊢; omega
theorem nws_append (xs ys : List Nw) : nws (xs ++ ys) = nws xs ++ nws ys := by simp [nws]
theorem nws_cons (x : Nw) (xs : List Nw) : nws (x :: xs) = nws1 x ++ nws xs := by simp [nws]
theorem nws_one (xs : List Nw) : ∀ u ∈ nws xs, u.oneCell' = true := by
  intro u hu
  obtain ⟨x, _, hx⟩ := List.mem_flatMap.1 hu
  simp [nws1] at hx
  rcases hx with rfl | rfl | rfl <;> rfl
theorem nws_at (xs : List Nw) (j r : Nat) (hj : j < xs.length) (hr : r < 3) : (nws xs)[j * 3 + r]? = (nws1 (nw xs j))[r]? := by
  induction xs generalizing j with
  | nil => simp at hj
  | cons x l ih =>
    rw [nws_cons]
    rcases j with _ | j
    · rw [List.getElem?_append_left (by simp [nws1]; omega)]
      simp [nw]
    · rw [List.getElem?_append_right (by simp [nws1]; omega)]
      have e2 : (j + 1) * 3 + r - (nws1 x).length = j * 3 + r := by simp [nws1]; omega
      rw [e2, ih j (by simpa using hj)]
      simp [nw]
theorem nws_take (xs : List Nw) (k : Nat) : nws (xs.take k) = (nws xs).take (k * 3) := by
  induction xs generalizing k with
  | nil => simp [nws]
  | cons x l ih =>
    rcases k with _ | k
    · simp [nws]
    · rw [List.take_succ_cons, nws_cons, nws_cons, ih, List.take_append]
      have h1 : (nws1 x).take ((k + 1) * 3) = nws1 x := List.take_of_length_le (by simp [nws1]; omega)
      have h2 : (k + 1) * 3 - (nws1 x).length = k * 3 := by simp [nws1]; omega
      rw [h1, h2]
theorem nws_drop (xs : List Nw) (k : Nat) : nws (xs.drop k) = (nws xs).drop (k * 3) := by
  induction xs generalizing k with
  | nil => simp [nws]
  | cons x l ih =>
    rcases k with _ | k
    · simp
    · rw [List.drop_succ_cons, nws_cons, ih, List.drop_append]
      have h1 : (nws1 x).drop ((k + 1) * 3) = [] := List.drop_eq_nil_of_le (by simp [nws1]; omega)
      have h2 : (k + 1) * 3 - (nws1 x).length = k * 3 := by simp [nws1]; omega
      rw [h1, h2, List.nil_append]
theorem nws_set (xs : List Nw) (i : Nat) (y : Nw) : nws (xs.set i y) = (((nws xs).set (i * 3) (.int .i64 y.w)).set (i * 3 + 1) (.int .u64 y.i)).set (i * 3 + 2) (.int .i64 y.s) := by
  induction xs generalizing i with
  | nil => rfl
  | cons x l ih =>
    have e : nws (x :: l) = .int .i64 x.w :: .int .u64 x.i :: .int .i64 x.s :: nws l := by simp [nws, nws1]
    rcases i with _ | i
    · rw [List.set_cons_zero]
      rw [e, show nws (y :: l) = .int .i64 y.w :: .int .u64 y.i :: .int .i64 y.s :: nws l by simp [nws, nws1]]
      rfl
    · rw [List.set_cons_succ]
      rw [e, show nws (x :: l.set i y) = .int .i64 x.w :: .int .u64 x.i :: .int .i64 x.s :: nws (l.set i y) by simp [nws, nws1], ih]
      rw [show (i + 1) * 3 = i * 3 + 3 by omega]
      rfl

section
variable {w w' : World} {A : Option Addr} {l : List Nw} {a : Addr} {x : Nw} {B : Nat} {v : Value} {xs : List Nw}
theorem NAt.keep (h : NAt w a x) (hk : ∀ p : Addr, p.block = a.block → w'.cell? p = w.cell? p) : NAt w' a x :=
  ⟨(hk _ rfl).trans h.1, (hk _ (block_add _ _)).trans h.2.1, (hk _ (block_add _ _)).trans h.2.2⟩
theorem NAt.flat (h : NAt w a x) : w.cell? a = some (.int .i64 x.w) ∧ w.cell? ⟨a.block, a.off + 1, none⟩ = some (.int .u64 x.i) ∧ w.cell? ⟨a.block, a.off + 2, none⟩ = some (.int .i64 x.s) := h
theorem Ns.keep (h : Ns w A l) (hs : w.heap.size ≤ w'.heap.size) (hk : ∀ ad p : Addr, A = some ad → p.block = ad.block → w'.cell? p = w.cell? p) : Ns w' A l := fun j hj => by
  obtain ⟨ad, e, h1, h2⟩ := h j hj
  exact ⟨ad, e, by omega, h2.keep fun p hp => hk ad p e (by rw [hp, block_add])⟩
theorem Ns.on (h : Ns w A l) (hb : Below w.heap.size w w') : Ns w' A l := fun j hj => by
  obtain ⟨ad, e, h1, h2⟩ := h j hj
  have hs := hb.size
  exact ⟨ad, e, by omega, h2.keep fun p hp => hb.cell (by rw [hp, block_add]; exact h1)⟩
theorem Ns.drew (h : Ns w A l) : Ns w.drew A l := h
theorem Ns.alloc (h : Ns w A l) (o : Obj) : Ns (w.alloc o) A l := h.on ((Below.refl _ _).alloc (Nat.le_refl _) o)
theorem Ns.take (h : Ns w A l) (k : Nat) : Ns w A (l.take k) := fun j hj => by
  rw [List.length_take] at hj
  obtain ⟨ad, e, h1, h2⟩ := h j (by omega)
  refine ⟨ad, e, h1, ?_⟩
  rw [nw_take l k j (by omega)]
  exact h2
theorem Ns.nil (w : World) (A : Option Addr) : Ns w A [] := fun j hj => absurd hj (by simp)
theorem Ns.none_nil (h : Ns w none xs) : xs = [] := by
  rcases xs with _ | ⟨x, r⟩
  · rfl
  · obtain ⟨ad, e, _⟩ := h 0 (by simp)
    cases e
theorem nws_of_at {ad : Addr} (h : NAt w ad x) (r : Nat) (hr : r < 3) : w.cell? (ad.add r) = (nws1 x)[r]? := by
  match r, hr with
  | 0, _ => exact h.1
  | 1, _ => exact h.2.1
  | 2, _ => exact h.2.2
theorem Ns.cells {ad : Addr} (h : Ns w (some ad) xs) (j : Nat) (u : Value) (hu : (nws xs)[j]? = some u) : w.cell? (ad.add j) = some u := by
  have hl := (List.getElem?_eq_some_iff.1 hu).1
  rw [nws_len] at hl
  obtain ⟨ad', e, _, c⟩ := h (j / 3) (by omega)
  obtain rfl := Option.some.inj e
  have e2 : j / 3 * 3 + j % 3 = j := by omega
  have := nws_of_at c (j % 3) (by omega)
  rw [add_add, e2] at this
  rw [this, ← hu, ← e2, nws_at xs (j / 3) (j % 3) (by omega) (by omega)]
  simp [e2, nw]
/-- Cells of a block, one by one. -/
theorem NAt.of {b j : Nat} (h : ∀ r, r < 3 → w.cell? ⟨b, j * 3 + r, none⟩ = (nws1 x)[r]?) : NAt w ((⟨b, 0, none⟩ : Addr).add (j * 3)) x := by
  have e : (⟨b, 0, none⟩ : Addr).add (j * 3) = ⟨b, j * 3, none⟩ := by unfold Addr.add; split <;> simp_all
  rw [e]
  exact ⟨h 0 (by decide), h 1 (by decide), h 2 (by decide)⟩
theorem OwnN.alloc (h : OwnN w B v xs) (o : Obj) : OwnN (w.alloc o) B v xs := World.ownsRow.alloc (w := w) h o
theorem OwnN.drew (h : OwnN w B v xs) : OwnN w.drew B v xs := h
theorem OwnN.ge (h : OwnN w B v xs) : ∀ k, v.ownBlock = some k → B ≤ k ∧ k < w.heap.size := World.ownsRow.lt (w := w) h
theorem OwnN.nil (w : World) (B : Nat) : OwnN w B (.slice none 0 0) [] := World.ownsRow_nil _ _ _ _
theorem OwnN.mono {B' : Nat} (h : OwnN w B v xs) (hB : B' ≤ B) : OwnN w B' v xs := by
  refine ⟨h.1, ?_⟩
  rcases h.2 with h | ⟨g, cap, cur, h1, h2, h3⟩
  · exact .inl h
  · exact .inr ⟨g, cap, cur, h1, Nat.le_trans hB h2, h3⟩
theorem OwnN.keep (h : OwnN w B v xs) (hk : ∀ k, v.ownBlock = some k → w'.heap[k]? = w.heap[k]?) : OwnN w' B v xs := by
  refine ⟨h.1, ?_⟩
  rcases h.2 with h | ⟨g, cap, cur, rfl, h2, h3, h4⟩
  · exact .inl h
  · exact .inr ⟨g, cap, cur, rfl, h2, (hk g rfl).trans h3, h4⟩
theorem OwnN.on (h : OwnN w B v xs) (hb : Below w.heap.size w w') : OwnN w' B v xs := h.keep fun k hk => hb.block k (h.ge k hk).2
/-- Where a block of the call's own is written, which is not this one. -/
theorem OwnN.grown {row : Option Nat} (h : OwnN w B v xs) (hg : w.grownBy w' row) (hne : ∀ k, v.ownBlock = some k → row ≠ some k) : OwnN w' B v xs :=
  h.keep fun k hk => hg.block k (h.ge k hk).2 (fun e => hne k hk e.symm)
/-- What a slice of the call's own holds, wherever it lies. -/
theorem OwnN.lst (h : OwnN w B v xs) : ∃ (A : Option Addr) (c : Nat), v = .slice A xs.length c ∧ xs.length ≤ c ∧ Ns w A xs := by
  rcases h.2 with ⟨rfl, hn⟩ | ⟨g, cap, cur, rfl, hg, hh, hcap, _, _, _⟩
  · have : xs = [] := List.eq_nil_of_length_eq_zero hn
    subst this
    exact ⟨none, 0, rfl, Nat.le_refl _, Ns.nil _ _⟩
  · have hlt := World.ownsRow.lt (w := w) (v := .slice (some ⟨g, 0, none⟩) xs.length cap) h g rfl
    refine ⟨some ⟨g, 0, none⟩, cap, rfl, hcap, fun j hj => ⟨_, rfl, hlt.2, NAt.of fun r hr => ?_⟩⟩
    rw [World.ownsRow.cellAt (w := w) h (j * 3 + r) (by omega), nws_at xs j r hj hr]
/-- The same, where there is something. -/
theorem OwnN.opened (h : OwnN w B v xs) (hn : 0 < xs.length) : ∃ g c, v = .slice (some ⟨g, 0, none⟩) xs.length c ∧ B ≤ g ∧ g < w.heap.size ∧ xs.length ≤ c ∧ c ≤ maxLen ∧ (∀ o : Nat, w.frozen? ⟨g, o, none⟩ = false) := by
  rcases h.2 with ⟨_, h0⟩ | ⟨g, cap, cur, rfl, hg, hh, hcap, hm, _, _⟩
  · omega
  · have hlt := World.ownsRow.lt (w := w) (v := .slice (some ⟨g, 0, none⟩) xs.length cap) h g rfl
    exact ⟨g, cap, rfl, hg, hlt.2, hcap, hm, World.ownsRow.frozenAt (w := w) h⟩
theorem OwnN.cell {g c : Nat} (h : OwnN w B (.slice (some ⟨g, 0, none⟩) xs.length c) xs) (j : Nat) (hj : j < xs.length) : w.cell? ⟨g, j * 3, none⟩ = some (.int .i64 (nw xs j).w) ∧ w.cell? ⟨g, j * 3 + 1, none⟩ = some (.int .u64 (nw xs j).i) ∧ w.cell? ⟨g, j * 3 + 2, none⟩ = some (.int .i64 (nw xs j).s) :=
  ⟨(World.ownsRow.cellAt (w := w) h (j * 3 + 0) (by omega)).trans (nws_at xs j 0 hj (by decide)), (World.ownsRow.cellAt (w := w) h (j * 3 + 1) (by omega)).trans (nws_at xs j 1 hj (by decide)), (World.ownsRow.cellAt (w := w) h (j * 3 + 2) (by omega)).trans (nws_at xs j 2 hj (by decide))⟩
/-- One of them laid anew. -/
theorem OwnN.set {g c i : Nat} (h : OwnN w B (.slice (some ⟨g, 0, none⟩) xs.length c) xs) (y : Nw) : OwnN (((w.setCell ⟨g, i * 3, none⟩ (.int .i64 y.w)).setCell ⟨g, i * 3 + 1, none⟩ (.int .u64 y.i)).setCell ⟨g, i * 3 + 2, none⟩ (.int .i64 y.s)) B (.slice (some ⟨g, 0, none⟩) xs.length c) (xs.set i y) := by
  have h0 := (World.ownsRow.stored (w := w) h (i * 3) (.int .i64 y.w)).1
  have h1 := (World.ownsRow.stored h0 (i * 3 + 1) (.int .u64 y.i)).1
  have h2 := (World.ownsRow.stored h1 (i * 3 + 2) (.int .i64 y.s)).1
  unfold OwnN
  rw [nws_set, List.length_set]
  exact h2
end
theorem run_append_nothingNw (w : World) (ty : TypeId) (B : Nat) (v : Value) (xs : List Nw) (hown : OwnN w B v xs) (c : Nat) (i0 : TypeInfo) (hi0 : Tryd.prog.info? 63 = some i0) :
    (Builtin.append_ #[25, 25] ty #[v, .slice none 0 c]).run Tryd.prog w = .ok v w := by
  have ht := Tryd.underlying25
  rcases hown.2 with ⟨rfl, _⟩ | ⟨g, cap, cur, rfl, _, _, hnc, _⟩
  · simp [Builtin.append_, run_underlying ht, sizeOf, typeInfo, hi0, Builtin.lenOf, Builtin.firstCells]
  · simp [Builtin.append_, run_underlying ht, sizeOf, typeInfo, hi0, Builtin.lenOf, Builtin.firstCells, hnc, storeCells]
/-- append onto a slice of the call's own, of any slice, nil too. -/
theorem wpList_appendNw {w : World} {ops : Array Oper} {rest : List Oper} {o : Oper} {a : Act} {Q : Exit → Act → World → Prop} (hgd : o.guard = none) (s x : Operand)
    (ho : o.op = .call { callee := .builtin .append, args := #[s, x], argTypes := #[25, 25] })
    (B : Nat) (v : Value) (xs : List Nw) (hs : a.eval s = v) (hown : OwnN w B v xs) (A : Option Addr) (c : Nat) (ys : List Nw) (hx : a.eval x = .slice A ys.length c) (hh : Ns w A ys)
    (hlen : xs.length + ys.length ≤ 100000) (hB : B ≤ w.heap.size)
    (h : ∀ v' w', OwnN w' B v' (xs ++ ys) → w.grownBy w' v.ownBlock → wpList Tryd.prog ops Q rest (a.put o.dst v') w') : wpList Tryd.prog ops Q (o :: rest) a w := by
  obtain ⟨i0, hi0, hz0, hz1, hz2⟩ := info_parts Tryd.infoNw
  rcases A with _ | ad
  · obtain rfl := hh.none_nil
    refine wpList_plain hgd fun K hK => ?_
    have hr := run_append_nothingNw w o.type B v xs hown c i0 hi0
    unfold Oper.wp execOp
    simp only [List.length_nil] at hx
    simp only [ho, resolve, invoke, builtin, Sem.run_bind, Sem.run_pure, Result.andThen_ok, List.map_toArray, List.map_cons, List.map_nil, hs, hx, hr]
    exact hK _ _ (h v w (by simpa using hown) (World.grownBy.refl _ _))
  · refine wpList_append_own _ hgd s x 25 ho B 63 i0 (.agg #[.int .i64 0, .int .u64 0, .int .i64 0]) 3 24 Tryd.underlying25 hi0 hz0 hz1 hz2 rfl (by decide) v _ _ hs hown ad ys.length c (nws ys) hx (nws_len ys) hh.cells (nws_one ys) (by unfold maxLen; omega) (by omega) hB ?_
    intro v' w1 hown1 hgrow _
    exact h v' w1 (by simpa [OwnN, nws_append] using hown1) hgrow
/-- A slice of one, laid anew. -/
theorem Ns.one (w : World) (x : Nw) (t : TypeId) : Ns (w.alloc (.cells #[.int .i64 x.w, .int .u64 x.i, .int .i64 x.s] t)) (some ⟨w.heap.size, 0, none⟩) [x] := by
  intro j hj
  refine ⟨_, rfl, by simp, ?_⟩
  match j, hj with
  | 0, _ => exact NAt.of fun r hr => by match r, hr with | 0, _ => go_simp; simp [nws1, nw] | 1, _ => go_simp; simp [nws1, nw] | 2, _ => go_simp; simp [nws1, nw]
theorem Ns.two (w : World) (x y : Nw) (t : TypeId) : Ns (w.alloc (.cells #[.int .i64 x.w, .int .u64 x.i, .int .i64 x.s, .int .i64 y.w, .int .u64 y.i, .int .i64 y.s] t)) (some ⟨w.heap.size, 0, none⟩) [x, y] := by
  intro j hj
  refine ⟨_, rfl, by simp, ?_⟩
  match j, hj with
  | 0, _ => exact NAt.of fun r hr => by match r, hr with | 0, _ => go_simp; simp [nws1, nw] | 1, _ => go_simp; simp [nws1, nw] | 2, _ => go_simp; simp [nws1, nw]
  | 1, _ => exact NAt.of fun r hr => by match r, hr with | 0, _ => go_simp; simp [nws1, nw] | 1, _ => go_simp; simp [nws1, nw] | 2, _ => go_simp; simp [nws1, nw]

end Go.Proofs.YtjeepmdklbfgeaaDoor
