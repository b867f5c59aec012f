/-
  What memory holds: what is told, and news, in slices; slices of the call's own; the library's Clone.
-/
import Derived.Test.YtipepmnnjhhjbaaJoin
import Derived.Test.YtipepmnnjhhjbaaTold
namespace Go.Proofs.Ytipepmnnjhhjbaa
open Go.Sort Go.RowKit Go.Proofs.Ytipepmnnjhhjbaa.Pure

theorem Td.ext4 {x : Td} : (⟨x.w, x.i, x.s, x.l⟩ : Td) = x := rfl

/-! ### what is told -/
theorem Try.infoTd : (Try.prog.info? 59).map (fun i => (i.zero, i.size, i.bytes)) = some (some (.agg #[.int .i64 0, .int .u64 0, .int .i64 0, .int .i64 0]), 4, 32) := by kernel_rfl
/-- The cells from a on hold x. -/
def TAt (w : World) (a : Addr) (x : Td) : Prop := w.cell? a = some (.int .i64 x.w) ∧ w.cell? (a.add 1) = some (.int .u64 x.i) ∧ w.cell? (a.add 2) = some (.int .i64 x.s) ∧ w.cell? (a.add 3) = some (.int .i64 x.l)
/-- The slice that begins at A holds l. -/
def Ts (w : World) (A : Option Addr) (l : List Td) : Prop := ∀ j, j < l.length → ∃ ad, A = some ad ∧ ad.block < w.heap.size ∧ TAt w (ad.add (j * 4)) (td l j)
def tds1 (x : Td) : List Value := [.int .i64 x.w, .int .u64 x.i, .int .i64 x.s, .int .i64 x.l]
def tds (xs : List Td) : List Value := xs.flatMap tds1
/-- The slice v is the call's own, in blocks from B on, and holds xs. -/
def OwnT (w : World) (B : Nat) (v : Value) (xs : List Td) : Prop := w.ownsRow B 59 4 v xs.length (tds xs)

theorem tds_len (xs : List Td) : (tds xs).length = xs.length * 4 := by
  induction xs with
  | nil => rfl
  | cons x r ih => simp [tds, tds1] at ih ⊢; omega
theorem tds_append (xs ys : List Td) : tds (xs ++ ys) = tds xs ++ tds ys := by simp [tds]
theorem tds_cons (x : Td) (xs : List Td) : tds (x :: xs) = tds1 x ++ tds xs := by simp [tds]
theorem tds_one (xs : List Td) : ∀ u ∈ tds xs, u.oneCell' = true := by
  intro u hu
  obtain ⟨x, _, hx⟩ := List.mem_flatMap.1 hu
  simp [tds1] at hx
  rcases hx with rfl | rfl | rfl | rfl <;> rfl
theorem tds_at (xs : List Td) (j r : Nat) (hj : j < xs.length) (hr : r < 4) : (tds xs)[j * 4 + r]? = (tds1 (td xs j))[r]? := by
  induction xs generalizing j with
  | nil => simp at hj
  | cons x l ih =>
    rw [tds_cons]
    rcases j with _ | j
    · rw [List.getElem?_append_left (by simp [tds1]; omega)]
      simp [td]
    · rw [List.getElem?_append_right (by simp [tds1]; omega)]
      have e2 : (j + 1) * 4 + r - (tds1 x).length = j * 4 + r := by simp [tds1]; omega
      rw [e2, ih j (by simpa using hj)]
      simp [td]
theorem tds_take (xs : List Td) (k : Nat) : tds (xs.take k) = (tds xs).take (k * 4) := by
  induction xs generalizing k with
  | nil => simp [tds]
  | cons x l ih =>
    rcases k with _ | k
    · simp [tds]
    · rw [List.take_succ_cons, tds_cons, tds_cons, ih, List.take_append]
      have h1 : (tds1 x).take ((k + 1) * 4) = tds1 x := List.take_of_length_le (by simp [tds1]; omega)
      have h2 : (k + 1) * 4 - (tds1 x).length = k * 4 := by simp [tds1]; omega
      rw [h1, h2]
theorem tds_drop (xs : List Td) (k : Nat) : tds (xs.drop k) = (tds xs).drop (k * 4) := by
  induction xs generalizing k with
  | nil => simp [tds]
  | cons x l ih =>
    rcases k with _ | k
    · simp
    · rw [List.drop_succ_cons, tds_cons, ih, List.drop_append]
      have h1 : (tds1 x).drop ((k + 1) * 4) = [] := List.drop_eq_nil_of_le (by simp [tds1]; omega)
      have h2 : (k + 1) * 4 - (tds1 x).length = k * 4 := by simp [tds1]; omega
      rw [h1, h2, List.nil_append]
theorem tds_set (xs : List Td) (i : Nat) (y : Td) : tds (xs.set i y) = ((((tds xs).set (i * 4) (.int .i64 y.w)).set (i * 4 + 1) (.int .u64 y.i)).set (i * 4 + 2) (.int .i64 y.s)).set (i * 4 + 3) (.int .i64 y.l) := by
  induction xs generalizing i with
  | nil => rfl
  | cons x l ih =>
    have e : tds (x :: l) = .int .i64 x.w :: .int .u64 x.i :: .int .i64 x.s :: .int .i64 x.l :: tds l := by simp [tds, tds1]
    rcases i with _ | i
    · rw [List.set_cons_zero]
      rw [e, show tds (y :: l) = .int .i64 y.w :: .int .u64 y.i :: .int .i64 y.s :: .int .i64 y.l :: tds l by simp [tds, tds1]]
      rfl
    · rw [List.set_cons_succ]
      rw [e, show tds (x :: l.set i y) = .int .i64 x.w :: .int .u64 x.i :: .int .i64 x.s :: .int .i64 x.l :: tds (l.set i y) by simp [tds, tds1], ih]
      rw [show (i + 1) * 4 = i * 4 + 4 by omega]
      rfl

section
variable {w w' : World} {A : Option Addr} {l : List Td} {a : Addr} {x : Td} {B : Nat} {v : Value} {xs : List Td}
theorem TAt.keep (h : TAt w a x) (hk : ∀ p : Addr, p.block = a.block → w'.cell? p = w.cell? p) : TAt w' a x :=
  ⟨(hk _ rfl).trans h.1, (hk _ (block_add _ _)).trans h.2.1, (hk _ (block_add _ _)).trans h.2.2.1, (hk _ (block_add _ _)).trans h.2.2.2⟩
theorem TAt.flat (h : TAt w a x) : w.cell? a = some (.int .i64 x.w) ∧ w.cell? ⟨a.block, a.off + 1, none⟩ = some (.int .u64 x.i) ∧ w.cell? ⟨a.block, a.off + 2, none⟩ = some (.int .i64 x.s) ∧ w.cell? ⟨a.block, a.off + 3, none⟩ = some (.int .i64 x.l) := h
theorem Ts.keep (h : Ts w A l) (hs : w.heap.size ≤ w'.heap.size) (hk : ∀ ad p : Addr, A = some ad → p.block = ad.block → w'.cell? p = w.cell? p) : Ts w' A l := fun j hj => by
  obtain ⟨ad, e, h1, h2⟩ := h j hj
  exact ⟨ad, e, by omega, h2.keep fun p hp => hk ad p e (by rw [hp, block_add])⟩
theorem Ts.on (h : Ts w A l) (hb : Below w.heap.size w w') : Ts w' A l := fun j hj => by
  obtain ⟨ad, e, h1, h2⟩ := h j hj
  have hs := hb.size
  exact ⟨ad, e, by omega, h2.keep fun p hp => hb.cell (by rw [hp, block_add]; exact h1)⟩
theorem Ts.drew (h : Ts w A l) : Ts w.drew A l := h
theorem Ts.alloc (h : Ts w A l) (o : Obj) : Ts (w.alloc o) A l := h.on ((Below.refl _ _).alloc (Nat.le_refl _) o)
theorem Ts.take (h : Ts w A l) (k : Nat) : Ts w A (l.take k) := fun j hj => by
  rw [List.length_take] at hj
  obtain ⟨ad, e, h1, h2⟩ := h j (by omega)
  refine ⟨ad, e, h1, ?_⟩
  rw [td_take l k j (by omega)]
  exact h2
theorem Ts.nil (w : World) (A : Option Addr) : Ts w A [] := fun j hj => absurd hj (by simp)
theorem Ts.none_nil (h : Ts w none xs) : xs = [] := by
  rcases xs with _ | ⟨x, r⟩
  · rfl
  · obtain ⟨ad, e, _⟩ := h 0 (by simp)
    cases e
theorem tds_of_at {ad : Addr} (h : TAt w ad x) (r : Nat) (hr : r < 4) : w.cell? (ad.add r) = (tds1 x)[r]? := by
  match r, hr with
  | 0, _ => exact h.1
  | 1, _ => exact h.2.1
  | 2, _ => exact h.2.2.1
  | 3, _ => exact h.2.2.2
theorem Ts.cells {ad : Addr} (h : Ts w (some ad) xs) (j : Nat) (u : Value) (hu : (tds xs)[j]? = some u) : w.cell? (ad.add j) = some u := by
  have hl := (List.getElem?_eq_some_iff.1 hu).1
  rw [tds_len] at hl
  obtain ⟨ad', e, _, c⟩ := h (j / 4) (by omega)
  obtain rfl := Option.some.inj e
  have e2 : j / 4 * 4 + j % 4 = j := by omega
  have := tds_of_at c (j % 4) (by omega)
  rw [add_add, e2] at this
  rw [this, ← hu, ← e2, tds_at xs (j / 4) (j % 4) (by omega) (by omega)]
  simp [e2, td]
/-- Cells of a block, one by one. -/
theorem TAt.of {b j : Nat} (h : ∀ r, r < 4 → w.cell? ⟨b, j * 4 + r, none⟩ = (tds1 x)[r]?) : TAt w ((⟨b, 0, none⟩ : Addr).add (j * 4)) x := by
  have e : (⟨b, 0, none⟩ : Addr).add (j * 4) = ⟨b, j * 4, none⟩ := by unfold Addr.add; split <;> simp_all
  rw [e]
  exact ⟨h 0 (by decide), h 1 (by decide), h 2 (by decide), h 3 (by decide)⟩
theorem OwnT.alloc (h : OwnT w B v xs) (o : Obj) : OwnT (w.alloc o) B v xs := World.ownsRow.alloc (w := w) h o
theorem OwnT.drew (h : OwnT w B v xs) : OwnT w.drew B v xs := h
theorem OwnT.ge (h : OwnT w B v xs) : ∀ k, v.ownBlock = some k → B ≤ k ∧ k < w.heap.size := World.ownsRow.lt (w := w) h
theorem OwnT.nil (w : World) (B : Nat) : OwnT w B (.slice none 0 0) [] := World.ownsRow_nil _ _ _ _
theorem OwnT.mono {B' : Nat} (h : OwnT w B v xs) (hB : B' ≤ B) : OwnT w B' v xs := by
  refine ⟨h.1, ?_⟩
  rcases h.2 with h | ⟨g, cap, cur, h1, h2, h3⟩
  · exact .inl h
  · exact .inr ⟨g, cap, cur, h1, Nat.le_trans hB h2, h3⟩
theorem OwnT.keep (h : OwnT w B v xs) (hk : ∀ k, v.ownBlock = some k → w'.heap[k]? = w.heap[k]?) : OwnT w' B v xs := by
  refine ⟨h.1, ?_⟩
  rcases h.2 with h | ⟨g, cap, cur, rfl, h2, h3, h4⟩
  · exact .inl h
  · exact .inr ⟨g, cap, cur, rfl, h2, (hk g rfl).trans h3, h4⟩
theorem OwnT.on (h : OwnT w B v xs) (hb : Below w.heap.size w w') : OwnT w' B v xs := h.keep fun k hk => hb.block k (h.ge k hk).2
/-- Where a block of the call's own is written, which is not this one. -/
theorem OwnT.grown {row : Option Nat} (h : OwnT w B v xs) (hg : w.grownBy w' row) (hne : ∀ k, v.ownBlock = some k → row ≠ some k) : OwnT w' B v xs :=
  h.keep fun k hk => hg.block k (h.ge k hk).2 (fun e => hne k hk e.symm)
/-- What a slice of the call's own holds, wherever it lies. -/
theorem OwnT.lst (h : OwnT w B v xs) : ∃ (A : Option Addr) (c : Nat), v = .slice A xs.length c ∧ xs.length ≤ c ∧ Ts w A xs := by
  rcases h.2 with ⟨rfl, hn⟩ | ⟨g, cap, cur, rfl, hg, hh, hcap, _, _, _⟩
  · have : xs = [] := List.eq_nil_of_length_eq_zero hn
    subst this
    exact ⟨none, 0, rfl, Nat.le_refl _, Ts.nil _ _⟩
  · have hlt := World.ownsRow.lt (w := w) (v := .slice (some ⟨g, 0, none⟩) xs.length cap) h g rfl
    refine ⟨some ⟨g, 0, none⟩, cap, rfl, hcap, fun j hj => ⟨_, rfl, hlt.2, TAt.of fun r hr => ?_⟩⟩
    rw [World.ownsRow.cellAt (w := w) h (j * 4 + r) (by omega), tds_at xs j r hj hr]
/-- The same, where there is something. -/
theorem OwnT.opened (h : OwnT w B v xs) (hn : 0 < xs.length) : ∃ g c, v = .slice (some ⟨g, 0, none⟩) xs.length c ∧ B ≤ g ∧ g < w.heap.size ∧ xs.length ≤ c ∧ c ≤ maxLen ∧ (∀ o : Nat, w.frozen? ⟨g, o, none⟩ = false) := by
  rcases h.2 with ⟨_, h0⟩ | ⟨g, cap, cur, rfl, hg, hh, hcap, hm, _, _⟩
  · omega
  · have hlt := World.ownsRow.lt (w := w) (v := .slice (some ⟨g, 0, none⟩) xs.length cap) h g rfl
    exact ⟨g, cap, rfl, hg, hlt.2, hcap, hm, World.ownsRow.frozenAt (w := w) h⟩
theorem OwnT.cell {g c : Nat} (h : OwnT w B (.slice (some ⟨g, 0, none⟩) xs.length c) xs) (j : Nat) (hj : j < xs.length) : w.cell? ⟨g, j * 4, none⟩ = some (.int .i64 (td xs j).w) ∧ w.cell? ⟨g, j * 4 + 1, none⟩ = some (.int .u64 (td xs j).i) ∧ w.cell? ⟨g, j * 4 + 2, none⟩ = some (.int .i64 (td xs j).s) ∧ w.cell? ⟨g, j * 4 + 3, none⟩ = some (.int .i64 (td xs j).l) :=
  ⟨(World.ownsRow.cellAt (w := w) h (j * 4 + 0) (by omega)).trans (tds_at xs j 0 hj (by decide)), (World.ownsRow.cellAt (w := w) h (j * 4 + 1) (by omega)).trans (tds_at xs j 1 hj (by decide)), (World.ownsRow.cellAt (w := w) h (j * 4 + 2) (by omega)).trans (tds_at xs j 2 hj (by decide)), (World.ownsRow.cellAt (w := w) h (j * 4 + 3) (by omega)).trans (tds_at xs j 3 hj (by decide))⟩
/-- One of them laid anew. -/
theorem OwnT.set {g c i : Nat} (h : OwnT w B (.slice (some ⟨g, 0, none⟩) xs.length c) xs) (y : Td) : OwnT ((((w.setCell ⟨g, i * 4, none⟩ (.int .i64 y.w)).setCell ⟨g, i * 4 + 1, none⟩ (.int .u64 y.i)).setCell ⟨g, i * 4 + 2, none⟩ (.int .i64 y.s)).setCell ⟨g, i * 4 + 3, none⟩ (.int .i64 y.l)) B (.slice (some ⟨g, 0, none⟩) xs.length c) (xs.set i y) := by
  have h0 := (World.ownsRow.stored (w := w) h (i * 4) (.int .i64 y.w)).1
  have h1 := (World.ownsRow.stored h0 (i * 4 + 1) (.int .u64 y.i)).1
  have h2 := (World.ownsRow.stored h1 (i * 4 + 2) (.int .i64 y.s)).1
  have h3 := (World.ownsRow.stored h2 (i * 4 + 3) (.int .i64 y.l)).1
  unfold OwnT
  rw [tds_set, List.length_set]
  exact h3
end
theorem run_append_nothingTd (w : World) (ty : TypeId) (B : Nat) (v : Value) (xs : List Td) (hown : OwnT w B v xs) (c : Nat) (i0 : TypeInfo) (hi0 : Try.prog.info? 59 = some i0) :
    (Builtin.append_ #[22, 22] ty #[v, .slice none 0 c]).run Try.prog w = .ok v w := by
  have ht := Try.underlying22
  rcases hown.2 with ⟨rfl, _⟩ | ⟨g, cap, cur, rfl, _, _, hnc, _⟩
  · simp [Builtin.append_, run_underlying ht, sizeOf, typeInfo, hi0, Builtin.lenOf, Builtin.firstCells]
  · simp [Builtin.append_, run_underlying ht, sizeOf, typeInfo, hi0, Builtin.lenOf, Builtin.firstCells, hnc, storeCells]
/-- append onto a slice of the call's own, of any slice, nil too. -/
theorem wpList_appendTd {w : World} {ops : Array Oper} {rest : List Oper} {o : Oper} {a : Act} {Q : Exit → Act → World → Prop} (hgd : o.guard = none) (s x : Operand)
    (ho : o.op = .call { callee := .builtin .append, args := #[s, x], argTypes := #[22, 22] })
    (B : Nat) (v : Value) (xs : List Td) (hs : a.eval s = v) (hown : OwnT w B v xs) (A : Option Addr) (c : Nat) (ys : List Td) (hx : a.eval x = .slice A ys.length c) (hh : Ts w A ys)
    (hlen : xs.length + ys.length ≤ 100000) (hB : B ≤ w.heap.size)
    (h : ∀ v' w', OwnT w' B v' (xs ++ ys) → w.grownBy w' v.ownBlock → wpList Try.prog ops Q rest (a.put o.dst v') w') : wpList Try.prog ops Q (o :: rest) a w := by
  obtain ⟨i0, hi0, hz0, hz1, hz2⟩ := info_parts Try.infoTd
  rcases A with _ | ad
  · obtain rfl := hh.none_nil
    refine wpList_plain hgd fun K hK => ?_
    have hr := run_append_nothingTd w o.type B v xs hown c i0 hi0
    unfold Oper.wp execOp
    simp only [List.length_nil] at hx
    simp only [ho, resolve, invoke, builtin, Sem.run_bind, Sem.run_pure, Result.andThen_ok, List.map_toArray, List.map_cons, List.map_nil, hs, hx, hr]
    exact hK _ _ (h v w (by simpa using hown) (World.grownBy.refl _ _))
  · refine wpList_append_own _ hgd s x 22 ho B 59 i0 (.agg #[.int .i64 0, .int .u64 0, .int .i64 0, .int .i64 0]) 4 32 Try.underlying22 hi0 hz0 hz1 hz2 rfl (by decide) v _ _ hs hown ad ys.length c (tds ys) hx (tds_len ys) hh.cells (tds_one ys) (by unfold maxLen; omega) (by omega) hB ?_
    intro v' w1 hown1 hgrow _
    exact h v' w1 (by simpa [OwnT, tds_append] using hown1) hgrow
/-- A slice of one, laid anew. -/
theorem Ts.one (w : World) (x : Td) (t : TypeId) : Ts (w.alloc (.cells #[.int .i64 x.w, .int .u64 x.i, .int .i64 x.s, .int .i64 x.l] t)) (some ⟨w.heap.size, 0, none⟩) [x] := by
  intro j hj
  refine ⟨_, rfl, by simp, ?_⟩
  match j, hj with
  | 0, _ => exact TAt.of fun r hr => by match r, hr with | 0, _ => go_simp; simp [tds1, td] | 1, _ => go_simp; simp [tds1, td] | 2, _ => go_simp; simp [tds1, td] | 3, _ => go_simp; simp [tds1, td]
theorem Ts.two (w : World) (x y : Td) (t : TypeId) : Ts (w.alloc (.cells #[.int .i64 x.w, .int .u64 x.i, .int .i64 x.s, .int .i64 x.l, .int .i64 y.w, .int .u64 y.i, .int .i64 y.s, .int .i64 y.l] t)) (some ⟨w.heap.size, 0, none⟩) [x, y] := by
  intro j hj
  refine ⟨_, rfl, by simp, ?_⟩
  match j, hj with
  | 0, _ => exact TAt.of fun r hr => by match r, hr with | 0, _ => go_simp; simp [tds1, td] | 1, _ => go_simp; simp [tds1, td] | 2, _ => go_simp; simp [tds1, td] | 3, _ => go_simp; simp [tds1, td]
  | 1, _ => exact TAt.of fun r hr => by match r, hr with | 0, _ => go_simp; simp [tds1, td] | 1, _ => go_simp; simp [tds1, td] | 2, _ => go_simp; simp [tds1, td] | 3, _ => go_simp; simp [tds1, td]

/-! ### news -/
theorem Try.infoNw : (Try.prog.info? 27).map (fun i => (i.zero, i.size, i.bytes)) = some (some (.agg #[.int .i64 0, .int .u64 0, .int .i64 0]), 3, 24) := by kernel_rfl
/-- The cells from a on hold x. -/
def NAt (w : World) (a : Addr) (x : Nw) : Prop := w.cell? a = some (.int .i64 x.w) ∧ w.cell? (a.add 1) = some (.int .u64 x.i) ∧ w.cell? (a.add 2) = some (.int .i64 x.s)
/-- The slice that begins at A holds l. -/
def Ns (w : World) (A : Option Addr) (l : List Nw) : Prop := ∀ j, j < l.length → ∃ ad, A = some ad ∧ ad.block < w.heap.size ∧ NAt w (ad.add (j * 3)) (nw l j)
def nws1 (x : Nw) : List Value := [.int .i64 x.w, .int .u64 x.i, .int .i64 x.s]
def nws (xs : List Nw) : List Value := xs.flatMap nws1
/-- The slice v is the call's own, in blocks from B on, and holds xs. -/
def OwnN (w : World) (B : Nat) (v : Value) (xs : List Nw) : Prop := w.ownsRow B 27 3 v xs.length (nws xs)

theorem nws_len (xs : List Nw) : (nws xs).length = xs.length * 3 := by
  induction xs with
  | nil => rfl
  | cons x r ih => simp [nws, nws1] at ih ⊢; omega
theorem nws_append (xs ys : List Nw) : nws (xs ++ ys) = nws xs ++ nws ys := by simp [nws]
theorem nws_cons (x : Nw) (xs : List Nw) : nws (x :: xs) = nws1 x ++ nws xs := by simp [nws]
theorem nws_one (xs : List Nw) : ∀ u ∈ nws xs, u.oneCell' = true := by
  intro u hu
  obtain ⟨x, _, hx⟩ := List.mem_flatMap.1 hu
  simp [nws1] at hx
  rcases hx with rfl | rfl | rfl <;> rfl
theorem nws_at (xs : List Nw) (j r : Nat) (hj : j < xs.length) (hr : r < 3) : (nws xs)[j * 3 + r]? = (nws1 (nw xs j))[r]? := by
  induction xs generalizing j with
  | nil => simp at hj
  | cons x l ih =>
    rw [nws_cons]
    rcases j with _ | j
    · rw [List.getElem?_append_left (by simp [nws1]; omega)]
      simp [nw]
    · rw [List.getElem?_append_right (by simp [nws1]; omega)]
      have e2 : (j + 1) * 3 + r - (nws1 x).length = j * 3 + r := by simp [nws1]; omega
      rw [e2, ih j (by simpa using hj)]
      simp [nw]
theorem nws_take (xs : List Nw) (k : Nat) : nws (xs.take k) = (nws xs).take (k * 3) := by
  induction xs generalizing k with
  | nil => simp [nws]
  | cons x l ih =>
    rcases k with _ | k
    · simp [nws]
    · rw [List.take_succ_cons, nws_cons, nws_cons, ih, List.take_append]
      have h1 : (nws1 x).take ((k + 1) * 3) = nws1 x := List.take_of_length_le (by simp [nws1]; omega)
      have h2 : (k + 1) * 3 - (nws1 x).length = k * 3 := by simp [nws1]; omega
      rw [h1, h2]
theorem nws_drop (xs : List Nw) (k : Nat) : nws (xs.drop k) = (nws xs).drop (k * 3) := by
  induction xs generalizing k with
  | nil => simp [nws]
  | cons x l ih =>
    rcases k with _ | k
    · simp
    · rw [List.drop_succ_cons, nws_cons, ih, List.drop_append]
      have h1 : (nws1 x).drop ((k + 1) * 3) = [] := List.drop_eq_nil_of_le (by simp [nws1]; omega)
      have h2 : (k + 1) * 3 - (nws1 x).length = k * 3 := by simp [nws1]; omega
      rw [h1, h2, List.nil_append]
theorem nws_set (xs : List Nw) (i : Nat) (y : Nw) : nws (xs.set i y) = (((nws xs).set (i * 3) (.int .i64 y.w)).set (i * 3 + 1) (.int .u64 y.i)).set (i * 3 + 2) (.int .i64 y.s) := by
  induction xs generalizing i with
  | nil => rfl
  | cons x l ih =>
    have e : nws (x :: l) = .int .i64 x.w :: .int .u64 x.i :: .int .i64 x.s :: nws l := by simp [nws, nws1]
    rcases i with _ | i
    · rw [List.set_cons_zero]
      rw [e, show nws (y :: l) = .int .i64 y.w :: .int .u64 y.i :: .int .i64 y.s :: nws l by simp [nws, nws1]]
      rfl
    · rw [List.set_cons_succ]
      rw [e, show nws (x :: l.set i y) = .int .i64 x.w :: .int .u64 x.i :: .int .i64 x.s :: nws (l.set i y) by simp [nws, nws1], ih]
      rw [show (i + 1) * 3 = i * 3 + 3 by omega]
      rfl

section
variable {w w' : World} {A : Option Addr} {l : List Nw} {a : Addr} {x : Nw} {B : Nat} {v : Value} {xs : List Nw}
theorem NAt.keep (h : NAt w a x) (hk : ∀ p : Addr, p.block = a.block → w'.cell? p = w.cell? p) : NAt w' a x :=
  ⟨(hk _ rfl).trans h.1, (hk _ (block_add _ _)).trans h.2.1, (hk _ (block_add _ _)).trans h.2.2⟩
theorem NAt.flat (h : NAt w a x) : w.cell? a = some (.int .i64 x.w) ∧ w.cell? ⟨a.block, a.off + 1, none⟩ = some (.int .u64 x.i) ∧ w.cell? ⟨a.block, a.off + 2, none⟩ = some (.int .i64 x.s) := h
theorem Ns.keep (h : Ns w A l) (hs : w.heap.size ≤ w'.heap.size) (hk : ∀ ad p : Addr, A = some ad → p.block = ad.block → w'.cell? p = w.cell? p) : Ns w' A l := fun j hj => by
  obtain ⟨ad, e, h1, h2⟩ := h j hj
  exact ⟨ad, e, by omega, h2.keep fun p hp => hk ad p e (by rw [hp, block_add])⟩
theorem Ns.on (h : Ns w A l) (hb : Below w.heap.size w w') : Ns w' A l := fun j hj => by
  obtain ⟨ad, e, h1, h2⟩ := h j hj
  have hs := hb.size
  exact ⟨ad, e, by omega, h2.keep fun p hp => hb.cell (by rw [hp, block_add]; exact h1)⟩
theorem Ns.drew (h : Ns w A l) : Ns w.drew A l := h
theorem Ns.alloc (h : Ns w A l) (o : Obj) : Ns (w.alloc o) A l := h.on ((Below.refl _ _).alloc (Nat.le_refl _) o)
theorem Ns.take (h : Ns w A l) (k : Nat) : Ns w A (l.take k) := fun j hj => by
  rw [List.length_take] at hj
  obtain ⟨ad, e, h1, h2⟩ := h j (by omega)
  refine ⟨ad, e, h1, ?_⟩
  rw [nw_take l k j (by omega)]
  exact h2
theorem Ns.nil (w : World) (A : Option Addr) : Ns w A [] := fun j hj => absurd hj (by simp)
theorem Ns.none_nil (h : Ns w none xs) : xs = [] := by
  rcases xs with _ | ⟨x, r⟩
  · rfl
  · obtain ⟨ad, e, _⟩ := h 0 (by simp)
    cases e
theorem nws_of_at {ad : Addr} (h : NAt w ad x) (r : Nat) (hr : r < 3) : w.cell? (ad.add r) = (nws1 x)[r]? := by
  match r, hr with
  | 0, _ => exact h.1
  | 1, _ => exact h.2.1
  | 2, _ => exact h.2.2
theorem Ns.cells {ad : Addr} (h : Ns w (some ad) xs) (j : Nat) (u : Value) (hu : (nws xs)[j]? = some u) : w.cell? (ad.add j) = some u := by
  have hl := (List.getElem?_eq_some_iff.1 hu).1
  rw [nws_len] at hl
  obtain ⟨ad', e, _, c⟩ := h (j / 3) (by omega)
  obtain rfl := Option.some.inj e
  have e2 : j / 3 * 3 + j % 3 = j := by omega
  have := nws_of_at c (j % 3) (by omega)
  rw [add_add, e2] at this
  rw [this, ← hu, ← e2, nws_at xs (j / 3) (j % 3) (by omega) (by omega)]
  simp [e2, nw]
/-- Cells of a block, one by one. -/
theorem NAt.of {b j : Nat} (h : ∀ r, r < 3 → w.cell? ⟨b, j * 3 + r, none⟩ = (nws1 x)[r]?) : NAt w ((⟨b, 0, none⟩ : Addr).add (j * 3)) x := by
  have e : (⟨b, 0, none⟩ : Addr).add (j * 3) = ⟨b, j * 3, none⟩ := by unfold Addr.add; split <;> simp_all
  rw [e]
  exact ⟨h 0 (by decide), h 1 (by decide), h 2 (by decide)⟩
theorem OwnN.alloc (h : OwnN w B v xs) (o : Obj) : OwnN (w.alloc o) B v xs := World.ownsRow.alloc (w := w) h o
theorem OwnN.drew (h : OwnN w B v xs) : OwnN w.drew B v xs := h
theorem OwnN.ge (h : OwnN w B v xs) : ∀ k, v.ownBlock = some k → B ≤ k ∧ k < w.heap.size := World.ownsRow.lt (w := w) h
theorem OwnN.nil (w : World) (B : Nat) : OwnN w B (.slice none 0 0) [] := World.ownsRow_nil _ _ _ _
theorem OwnN.mono {B' : Nat} (h : OwnN w B v xs) (hB : B' ≤ B) : OwnN w B' v xs := by
  refine ⟨h.1, ?_⟩
  rcases h.2 with h | ⟨g, cap, cur, h1, h2, h3⟩
  · exact .inl h
  · exact .inr ⟨g, cap, cur, h1, Nat.le_trans hB h2, h3⟩
theorem OwnN.keep (h : OwnN w B v xs) (hk : ∀ k, v.ownBlock = some k → w'.heap[k]? = w.heap[k]?) : OwnN w' B v xs := by
  refine ⟨h.1, ?_⟩
  rcases h.2 with h | ⟨g, cap, cur, rfl, h2, h3, h4⟩
  · exact .inl h
  · exact .inr ⟨g, cap, cur, rfl, h2, (hk g rfl).trans h3, h4⟩
theorem OwnN.on (h : OwnN w B v xs) (hb : Below w.heap.size w w') : OwnN w' B v xs := h.keep fun k hk => hb.block k (h.ge k hk).2
/-- Where a block of the call's own is written, which is not this one. -/
theorem OwnN.grown {row : Option Nat} (h : OwnN w B v xs) (hg : w.grownBy w' row) (hne : ∀ k, v.ownBlock = some k → row ≠ some k) : OwnN w' B v xs :=
  h.keep fun k hk => hg.block k (h.ge k hk).2 (fun e => hne k hk e.symm)
/-- What a slice of the call's own holds, wherever it lies. -/
theorem OwnN.lst (h : OwnN w B v xs) : ∃ (A : Option Addr) (c : Nat), v = .slice A xs.length c ∧ xs.length ≤ c ∧ Ns w A xs := by
  rcases h.2 with ⟨rfl, hn⟩ | ⟨g, cap, cur, rfl, hg, hh, hcap, _, _, _⟩
  · have : xs = [] := List.eq_nil_of_length_eq_zero hn
    subst this
    exact ⟨none, 0, rfl, Nat.le_refl _, Ns.nil _ _⟩
  · have hlt := World.ownsRow.lt (w := w) (v := .slice (some ⟨g, 0, none⟩) xs.length cap) h g rfl
    refine ⟨some ⟨g, 0, none⟩, cap, rfl, hcap, fun j hj => ⟨_, rfl, hlt.2, NAt.of fun r hr => ?_⟩⟩
    rw [World.ownsRow.cellAt (w := w) h (j * 3 + r) (by omega), nws_at xs j r hj hr]
/-- The same, where there is something. -/
theorem OwnN.opened (h : OwnN w B v xs) (hn : 0 < xs.length) : ∃ g c, v = .slice (some ⟨g, 0, none⟩) xs.length c ∧ B ≤ g ∧ g < w.heap.size ∧ xs.length ≤ c ∧ c ≤ maxLen ∧ (∀ o : Nat, w.frozen? ⟨g, o, none⟩ = false) := by
  rcases h.2 with ⟨_, h0⟩ | ⟨g, cap, cur, rfl, hg, hh, hcap, hm, _, _⟩
  · omega
  · have hlt := World.ownsRow.lt (w := w) (v := .slice (some ⟨g, 0, none⟩) xs.length cap) h g rfl
    exact ⟨g, cap, rfl, hg, hlt.2, hcap, hm, World.ownsRow.frozenAt (w := w) h⟩
theorem OwnN.cell {g c : Nat} (h : OwnN w B (.slice (some ⟨g, 0, none⟩) xs.length c) xs) (j : Nat) (hj : j < xs.length) : w.cell? ⟨g, j * 3, none⟩ = some (.int .i64 (nw xs j).w) ∧ w.cell? ⟨g, j * 3 + 1, none⟩ = some (.int .u64 (nw xs j).i) ∧ w.cell? ⟨g, j * 3 + 2, none⟩ = some (.int .i64 (nw xs j).s) :=
  ⟨(World.ownsRow.cellAt (w := w) h (j * 3 + 0) (by omega)).trans (nws_at xs j 0 hj (by decide)), (World.ownsRow.cellAt (w := w) h (j * 3 + 1) (by omega)).trans (nws_at xs j 1 hj (by decide)), (World.ownsRow.cellAt (w := w) h (j * 3 + 2) (by omega)).trans (nws_at xs j 2 hj (by decide))⟩
/-- One of them laid anew. -/
theorem OwnN.set {g c i : Nat} (h : OwnN w B (.slice (some ⟨g, 0, none⟩) xs.length c) xs) (y : Nw) : OwnN (((w.setCell ⟨g, i * 3, none⟩ (.int .i64 y.w)).setCell ⟨g, i * 3 + 1, none⟩ (.int .u64 y.i)).setCell ⟨g, i * 3 + 2, none⟩ (.int .i64 y.s)) B (.slice (some ⟨g, 0, none⟩) xs.length c) (xs.set i y) := by
  have h0 := (World.ownsRow.stored (w := w) h (i * 3) (.int .i64 y.w)).1
  have h1 := (World.ownsRow.stored h0 (i * 3 + 1) (.int .u64 y.i)).1
  have h2 := (World.ownsRow.stored h1 (i * 3 + 2) (.int .i64 y.s)).1
  unfold OwnN
  rw [nws_set, List.length_set]
  exact h2
end
theorem run_append_nothingNw (w : World) (ty : TypeId) (B : Nat) (v : Value) (xs : List Nw) (hown : OwnN w B v xs) (c : Nat) (i0 : TypeInfo) (hi0 : Try.prog.info? 27 = some i0) :
    (Builtin.append_ #[37, 37] ty #[v, .slice none 0 c]).run Try.prog w = .ok v w := by
  have ht := Try.underlying37
  rcases hown.2 with ⟨rfl, _⟩ | ⟨g, cap, cur, rfl, _, _, hnc, _⟩
  · simp [Builtin.append_, run_underlying ht, sizeOf, typeInfo, hi0, Builtin.lenOf, Builtin.firstCells]
  · simp [Builtin.append_, run_underlying ht, sizeOf, typeInfo, hi0, Builtin.lenOf, Builtin.firstCells, hnc, storeCells]
/-- append onto a slice of the call's own, of any slice, nil too. -/
theorem wpList_appendNw {w : World} {ops : Array Oper} {rest : List Oper} {o : Oper} {a : Act} {Q : Exit → Act → World → Prop} (hgd : o.guard = none) (s x : Operand)
    (ho : o.op = .call { callee := .builtin .append, args := #[s, x], argTypes := #[37, 37] })
    (B : Nat) (v : Value) (xs : List Nw) (hs : a.eval s = v) (hown : OwnN w B v xs) (A : Option Addr) (c : Nat) (ys : List Nw) (hx : a.eval x = .slice A ys.length c) (hh : Ns w A ys)
    (hlen : xs.length + ys.length ≤ 100000) (hB : B ≤ w.heap.size)
    (h : ∀ v' w', OwnN w' B v' (xs ++ ys) → w.grownBy w' v.ownBlock → wpList Try.prog ops Q rest (a.put o.dst v') w') : wpList Try.prog ops Q (o :: rest) a w := by
  obtain ⟨i0, hi0, hz0, hz1, hz2⟩ := info_parts Try.infoNw
  rcases A with _ | ad
  · obtain rfl := hh.none_nil
    refine wpList_plain hgd fun K hK => ?_
    have hr := run_append_nothingNw w o.type B v xs hown c i0 hi0
    unfold Oper.wp execOp
    simp only [List.length_nil] at hx
    simp only [ho, resolve, invoke, builtin, Sem.run_bind, Sem.run_pure, Result.andThen_ok, List.map_toArray, List.map_cons, List.map_nil, hs, hx, hr]
    exact hK _ _ (h v w (by simpa using hown) (World.grownBy.refl _ _))
  · refine wpList_append_own _ hgd s x 37 ho B 27 i0 (.agg #[.int .i64 0, .int .u64 0, .int .i64 0]) 3 24 Try.underlying37 hi0 hz0 hz1 hz2 rfl (by decide) v _ _ hs hown ad ys.length c (nws ys) hx (nws_len ys) hh.cells (nws_one ys) (by unfold maxLen; omega) (by omega) hB ?_
    intro v' w1 hown1 hgrow _
    exact h v' w1 (by simpa [OwnN, nws_append] using hown1) hgrow
/-- A slice of one, laid anew. -/
theorem Ns.one (w : World) (x : Nw) (t : TypeId) : Ns (w.alloc (.cells #[.int .i64 x.w, .int .u64 x.i, .int .i64 x.s] t)) (some ⟨w.heap.size, 0, none⟩) [x] := by
  intro j hj
  refine ⟨_, rfl, by simp, ?_⟩
  match j, hj with
  | 0, _ => exact NAt.of fun r hr => by match r, hr with | 0, _ => go_simp; simp [nws1, nw] | 1, _ => go_simp; simp [nws1, nw] | 2, _ => go_simp; simp [nws1, nw]
theorem Ns.two (w : World) (x y : Nw) (t : TypeId) : Ns (w.alloc (.cells #[.int .i64 x.w, .int .u64 x.i, .int .i64 x.s, .int .i64 y.w, .int .u64 y.i, .int .i64 y.s] t)) (some ⟨w.heap.size, 0, none⟩) [x, y] := by
  intro j hj
  refine ⟨_, rfl, by simp, ?_⟩
  match j, hj with
  | 0, _ => exact NAt.of fun r hr => by match r, hr with | 0, _ => go_simp; simp [nws1, nw] | 1, _ => go_simp; simp [nws1, nw] | 2, _ => go_simp; simp [nws1, nw]
  | 1, _ => exact NAt.of fun r hr => by match r, hr with | 0, _ => go_simp; simp [nws1, nw] | 1, _ => go_simp; simp [nws1, nw] | 2, _ => go_simp; simp [nws1, nw]

set_option maxRecDepth 100000 in
set_option maxHeartbeats 1000000 in
theorem clone_any (A : Option Addr) (c : Nat) (xs : List Td) (w : World) (hn : xs.length ≤ 1000) (hc : Ts w A xs) :
    Calls Try.prog 25 #[.slice A xs.length c] w fun e w' => ∃ v, e = .returned v ∧ OwnT w' w.heap.size v xs ∧ Below w.heap.size w w' := by
  obtain ⟨i0, hi0, hz0, hz1, hz2⟩ := info_parts Try.infoTd
  have q : ∀ (w : World) (a : Option Addr) (n c n' c' : Nat), (binOp .eql 22 (.slice a n c) (.slice none n' c')).run Try.prog w = .ok (.bool a.isNone) w := fun w a n c n' c' => Lib.run_eql_slice_nil w _ _ a n c n' c' Try.underlying22
  rcases A with _ | ad
  · obtain rfl := hc.none_nil
    clear hc
    go_enter Try.func25, Try.ntmps25
    go_wp2
    go_ret
    exact ⟨_, rfl, OwnT.nil _ _, Below.refl _ _⟩
  · have HC := Lib.hid (hc.alloc (.cells #[] 59))
    clear hc
    go_enter Try.func25, Try.ntmps25
    go_wp2_with (at_builtin; refine wpList_append_own _ rfl _ _ 22 rfl w.heap.size 59 i0 (.agg #[.int .i64 0, .int .u64 0, .int .i64 0, .int .i64 0]) 4 32 Try.underlying22 hi0 hz0 hz1 hz2 rfl (by decide) _ _ _ rfl (World.ownsRow_made w #[] 0 (Nat.le_refl _) (Nat.zero_le _) rfl) ad xs.length c (tds xs) rfl ?c1 ?c2 ?c3 ?c4 ?c5 ?c6 ?_)
    case c1 => exact tds_len xs
    case c2 => exact HC.out.cells
    case c3 => exact tds_one xs
    case c4 => unfold maxLen; omega
    case c5 => omega
    case c6 => simp
    intro v' w1 hown hgrow hnil
    go_wp2
    go_ret
    refine ⟨v', rfl, by simpa [OwnT] using hown, ?_⟩
    exact ((Below.refl _ w).alloc (Nat.le_refl _) _).grown hgrow (by simp) (by intro k hk; simp [Value.ownBlock] at hk; omega)
end Go.Proofs.Ytipepmnnjhhjbaa
