/-
  Slices of the call's own: of what is known, and of nodes; the library's Clone.
-/
import Derived.Test.YtmfpipcedblklaaJoins
import Derived.Test.YtmfpipcedblklaaTab
namespace Go.Proofs.Ytmfpipcedblklaa
open Go.RowKit Go.Proofs.Ytmfpipcedblklaa.Pure

theorem Try.infoKn : (Try.prog.info? 25).map (fun i => (i.zero, i.size, i.bytes)) = some (some (.agg #[.int .u64 0, .int .i64 0]), 2, 16) := by kernel_rfl
theorem Try.infoInt : (Try.prog.info? 3).map (fun i => (i.zero, i.size, i.bytes)) = some (some (.int .i64 0), 1, 8) := by kernel_rfl

/-! ### what is known -/
def cells1 (x : Kn) : List Value := [.int .u64 x.i, .int .i64 x.s]
def kns (xs : List Kn) : List Value := xs.flatMap cells1
/-- The slice v is the call's own, in blocks from B on, and holds xs. -/
def Own (w : World) (B : Nat) (v : Value) (xs : List Kn) : Prop := w.ownsRow B 25 2 v xs.length (kns xs)

theorem kns_len (xs : List Kn) : (kns xs).length = xs.length * 2 := by
  induction xs with
  | nil => rfl
  | cons x r ih => simp [kns, cells1] at ih ⊢; omega
theorem kns_append (xs ys : List Kn) : kns (xs ++ ys) = kns xs ++ kns ys := by simp [kns]
theorem kns_one (xs : List Kn) : ∀ u ∈ kns xs, u.oneCell' = true := by
  intro u hu
  obtain ⟨x, _, hx⟩ := List.mem_flatMap.1 hu
  simp [cells1] at hx
  rcases hx with rfl | rfl <;> rfl
theorem kns_at (xs : List Kn) (j r : Nat) (hj : j < xs.length) (hr : r < 2) : (kns xs)[j * 2 + r]? = (cells1 (kn xs j))[r]? := by
  induction xs generalizing j with
  | nil => simp at hj
  | cons x l ih =>
    have e : kns (x :: l) = cells1 x ++ kns l := by simp [kns]
    rw [e]
    rcases j with _ | j
    · rw [List.getElem?_append_left (by simp [cells1]; omega)]
      simp [kn]
    · rw [List.getElem?_append_right (by simp [cells1]; omega)]
      have e2 : (j + 1) * 2 + r - (cells1 x).length = j * 2 + r := by simp [cells1]; omega
      rw [e2, ih j (by simpa using hj)]
      simp [kn]
theorem kns_set (xs : List Kn) (i : Nat) (y : Kn) : kns (xs.set i y) = ((kns xs).set (i * 2) (.int .u64 y.i)).set (i * 2 + 1) (.int .i64 y.s) := by
  induction xs generalizing i with
  | nil => rfl
  | cons x l ih =>
    have e : kns (x :: l) = .int .u64 x.i :: .int .i64 x.s :: kns l := by simp [kns, cells1]
    rcases i with _ | i
    · rw [List.set_cons_zero]
      rw [e, show kns (y :: l) = .int .u64 y.i :: .int .i64 y.s :: kns l by simp [kns, cells1]]
      rfl
    · rw [List.set_cons_succ]
      rw [e, show kns (x :: l.set i y) = .int .u64 x.i :: .int .i64 x.s :: kns (l.set i y) by simp [kns, cells1], ih]
      rw [show (i + 1) * 2 = i * 2 + 2 by omega]
      rfl

theorem cells_of_kat {w : World} {ad : Addr} {x : Kn} (h : KAt w ad x) (r : Nat) (hr : r < 2) : w.cell? (ad.add r) = (cells1 x)[r]? := by
  match r, hr with
  | 0, _ => exact h.1
  | 1, _ => exact h.2
theorem Lst.cells {w : World} {ad : Addr} {xs : List Kn} (h : Lst w (some ad) xs) (j : Nat) (u : Value) (hu : (kns xs)[j]? = some u) : w.cell? (ad.add j) = some u := by
  have hl := (List.getElem?_eq_some_iff.1 hu).1
  rw [kns_len] at hl
  obtain ⟨ad', e, _, c⟩ := h (j / 2) (by omega)
  obtain rfl := Option.some.inj e
  have e2 : j / 2 * 2 + j % 2 = j := by omega
  have := cells_of_kat c (j % 2) (by omega)
  rw [add_add, e2] at this
  rw [this, ← hu, ← e2, kns_at xs (j / 2) (j % 2) (by omega) (by omega)]
  simp [e2, kn]
theorem Lst.none_nil {w : World} {xs : List Kn} (h : Lst w none xs) : xs = [] := by
  rcases xs with _ | ⟨x, r⟩
  · rfl
  · obtain ⟨ad, e, _⟩ := h 0 (by simp)
    cases e
section
variable {w w' : World} {B : Nat} {v : Value} {xs : List Kn}
theorem Own.alloc (h : Own w B v xs) (o : Obj) : Own (w.alloc o) B v xs := World.ownsRow.alloc (w := w) h o
theorem Own.drew (h : Own w B v xs) : Own w.drew B v xs := h
theorem Own.ge (h : Own w B v xs) : ∀ k, v.ownBlock = some k → B ≤ k ∧ k < w.heap.size := World.ownsRow.lt (w := w) h
theorem Own.nil (w : World) (B : Nat) : Own w B (.slice none 0 0) [] := World.ownsRow_nil _ _ _ _
theorem Own.mono {B' : Nat} (h : Own w B v xs) (hB : B' ≤ B) : Own w B' v xs := by
  refine ⟨h.1, ?_⟩
  rcases h.2 with h | ⟨g, cap, cur, h1, h2, h3⟩
  · exact .inl h
  · exact .inr ⟨g, cap, cur, h1, Nat.le_trans hB h2, h3⟩
theorem Own.on (h : Own w B v xs) (hb : Below w.heap.size w w') : Own w' B v xs := by
  refine ⟨h.1, ?_⟩
  have hk := h.ge
  rcases h.2 with h | ⟨g, cap, cur, rfl, h2, h3, h4⟩
  · exact .inl h
  · exact .inr ⟨g, cap, cur, rfl, h2, (hb.block g (hk g rfl).2).trans h3, h4⟩
/-- What a slice of the call's own holds, wherever it lies. -/
theorem Own.lst (h : Own w B v xs) : ∃ (A : Option Addr) (c : Nat), v = .slice A xs.length c ∧ xs.length ≤ c ∧ Lst w A xs := by
  rcases h.2 with ⟨rfl, hn⟩ | ⟨g, cap, cur, rfl, hg, hh, hcap, _, _, _⟩
  · have : xs = [] := List.eq_nil_of_length_eq_zero hn
    subst this
    exact ⟨none, 0, rfl, Nat.le_refl _, Lst.nil _ _⟩
  · have hlt := World.ownsRow.lt (w := w) (v := .slice (some ⟨g, 0, none⟩) xs.length cap) h g rfl
    refine ⟨some ⟨g, 0, none⟩, cap, rfl, hcap, fun j hj => ⟨_, rfl, hlt.2, ?_⟩⟩
    have e : (⟨g, 0, none⟩ : Addr).add (j * 2) = ⟨g, j * 2, none⟩ := by unfold Addr.add; split <;> simp_all
    rw [e]
    have h0 := (World.ownsRow.cellAt (w := w) h (j * 2 + 0) (by omega)).trans (kns_at xs j 0 hj (by decide))
    have h1 := (World.ownsRow.cellAt (w := w) h (j * 2 + 1) (by omega)).trans (kns_at xs j 1 hj (by decide))
    exact ⟨h0, h1⟩
/-- The same, where there is something. -/
theorem Own.opened (h : Own w B v xs) (hn : 0 < xs.length) : ∃ g c, v = .slice (some ⟨g, 0, none⟩) xs.length c ∧ B ≤ g ∧ g < w.heap.size ∧ (∀ o : Nat, w.frozen? ⟨g, o, none⟩ = false) ∧ (∀ j, j < xs.length → w.cell? ⟨g, j * 2, none⟩ = some (.int .u64 (kn xs j).i) ∧ w.cell? ⟨g, j * 2 + 1, none⟩ = some (.int .i64 (kn xs j).s)) := by
  rcases h.2 with ⟨_, h0⟩ | ⟨g, cap, cur, rfl, hg, hh, hcap, _, _, _⟩
  · omega
  · have hlt := World.ownsRow.lt (w := w) (v := .slice (some ⟨g, 0, none⟩) xs.length cap) h g rfl
    exact ⟨g, cap, rfl, hg, hlt.2, World.ownsRow.frozenAt (w := w) h, fun j hj => ⟨(World.ownsRow.cellAt (w := w) h (j * 2 + 0) (by omega)).trans (kns_at xs j 0 hj (by decide)), (World.ownsRow.cellAt (w := w) h (j * 2 + 1) (by omega)).trans (kns_at xs j 1 hj (by decide))⟩⟩
/-- One of them laid anew. -/
theorem Own.set {g c i : Nat} (h : Own w B (.slice (some ⟨g, 0, none⟩) xs.length c) xs) (y : Kn) : Own ((w.setCell ⟨g, i * 2, none⟩ (.int .u64 y.i)).setCell ⟨g, i * 2 + 1, none⟩ (.int .i64 y.s)) B (.slice (some ⟨g, 0, none⟩) xs.length c) (xs.set i y) := by
  have h1 := (World.ownsRow.stored (w := w) h (i * 2) (.int .u64 y.i)).1
  have h2 := (World.ownsRow.stored h1 (i * 2 + 1) (.int .i64 y.s)).1
  unfold Own
  rw [kns_set, List.length_set]
  exact h2
end

theorem run_append_nothing (w : World) (ty : TypeId) (B : Nat) (v : Value) (xs : List Kn) (hown : Own w B v xs) (c : Nat) (i0 : TypeInfo) (hi0 : Try.prog.info? 25 = some i0) :
    (Builtin.append_ #[22, 22] ty #[v, .slice none 0 c]).run Try.prog w = .ok v w := by
  have ht := Try.underlying22
  rcases hown.2 with ⟨rfl, _⟩ | ⟨g, cap, cur, rfl, _, _, hnc, _⟩
  · simp [Builtin.append_, run_underlying ht, sizeOf, typeInfo, hi0, Builtin.lenOf, Builtin.firstCells]
  · simp [Builtin.append_, run_underlying ht, sizeOf, typeInfo, hi0, Builtin.lenOf, Builtin.firstCells, hnc, storeCells]

/-- append onto a slice of the call's own, of any slice, nil too. -/
theorem wpList_append_lst {w : World} {ops : Array Oper} {rest : List Oper} {o : Oper} {a : Act} {Q : Exit → Act → World → Prop} (hgd : o.guard = none) (s x : Operand)
    (ho : o.op = .call { callee := .builtin .append, args := #[s, x], argTypes := #[22, 22] })
    (B : Nat) (v : Value) (xs : List Kn) (hs : a.eval s = v) (hown : Own w B v xs) (A : Option Addr) (c : Nat) (ys : List Kn) (hx : a.eval x = .slice A ys.length c) (hh : Lst w A ys)
    (hlen : xs.length + ys.length ≤ 100000) (hB : B ≤ w.heap.size)
    (h : ∀ v' w', Own w' B v' (xs ++ ys) → w.grownBy w' v.ownBlock → wpList Try.prog ops Q rest (a.put o.dst v') w') : wpList Try.prog ops Q (o :: rest) a w := by
  obtain ⟨i0, hi0, hz0, hz1, hz2⟩ := info_parts Try.infoKn
  rcases A with _ | ad
  · obtain rfl := hh.none_nil
    refine wpList_plain hgd fun K hK => ?_
    have hr := run_append_nothing w o.type B v xs hown c i0 hi0
    unfold Oper.wp execOp
    simp only [List.length_nil] at hx
    simp only [ho, resolve, invoke, builtin, Sem.run_bind, Sem.run_pure, Result.andThen_ok, List.map_toArray, List.map_cons, List.map_nil, hs, hx, hr]
    exact hK _ _ (h v w (by simpa using hown) (World.grownBy.refl _ _))
  · refine wpList_append_own _ hgd s x 22 ho B 25 i0 (.agg #[.int .u64 0, .int .i64 0]) 2 16 Try.underlying22 hi0 hz0 hz1 hz2 rfl (by decide) v _ _ hs hown ad ys.length c (kns ys) hx (kns_len ys) hh.cells (kns_one ys) (by unfold maxLen; omega) (by omega) hB ?_
    intro v' w1 hown1 hgrow _
    exact h v' w1 (by simpa [Own, kns_append] using hown1) hgrow

set_option maxRecDepth 100000 in
set_option maxHeartbeats 1000000 in
theorem clone_any (A : Option Addr) (c : Nat) (xs : List Kn) (w : World) (hn : xs.length ≤ 1000) (hc : Lst w A xs) :
    Calls Try.prog 34 #[.slice A xs.length c] w fun e w' => ∃ v, e = .returned v ∧ Own w' w.heap.size v xs ∧ Below w.heap.size w w' := by
  obtain ⟨i0, hi0, hz0, hz1, hz2⟩ := info_parts Try.infoKn
  have q : ∀ (w : World) (a : Option Addr) (n c n' c' : Nat), (binOp .eql 22 (.slice a n c) (.slice none n' c')).run Try.prog w = .ok (.bool a.isNone) w := fun w a n c n' c' => Lib.run_eql_slice_nil w _ _ a n c n' c' Try.underlying22
  rcases A with _ | ad
  · obtain rfl := hc.none_nil
    clear hc
    go_enter Try.func34, Try.ntmps34
    go_wp2
    go_ret
    exact ⟨_, rfl, Own.nil _ _, Below.refl _ _⟩
  · have HC := Lib.hid (hc.alloc (.cells #[] 25))
    clear hc
    go_enter Try.func34, Try.ntmps34
    go_wp2_with (at_builtin; refine wpList_append_own _ rfl _ _ 22 rfl w.heap.size 25 i0 (.agg #[.int .u64 0, .int .i64 0]) 2 16 Try.underlying22 hi0 hz0 hz1 hz2 rfl (by decide) _ _ _ rfl (World.ownsRow_made w #[] 0 (Nat.le_refl _) (Nat.zero_le _) rfl) ad xs.length c (kns xs) rfl ?c1 ?c2 ?c3 ?c4 ?c5 ?c6 ?_)
    case c1 => exact kns_len xs
    case c2 => exact HC.out.cells
    case c3 => exact kns_one xs
    case c4 => unfold maxLen; omega
    case c5 => omega
    case c6 => simp
    intro v' w1 hown hgrow hnil
    go_wp2
    go_ret
    refine ⟨v', rfl, by simpa [Own] using hown, ?_⟩
    exact ((Below.refl _ w).alloc (Nat.le_refl _) _).grown hgrow (by simp) (by intro k hk; simp [Value.ownBlock] at hk; omega)

/-! ### nodes -/
/-- The slice that begins at A holds the nodes xs. -/
def Ns (w : World) (A : Option Addr) (xs : List Nat) : Prop := ∀ j, j < xs.length → ∃ ad, A = some ad ∧ ad.block < w.heap.size ∧ w.cell? (ad.add j) = some (.int .i64 ((xs.getD j 0 : Nat) : Int))
def ints (xs : List Nat) : List Value := xs.map fun (x : Nat) => Value.int .i64 (Int.ofNat x)
def OwnN (w : World) (B : Nat) (v : Value) (xs : List Nat) : Prop := w.ownsRow B 3 1 v xs.length (ints xs)
section
variable {w w' : World} {A : Option Addr} {B : Nat} {v : Value} {xs : List Nat}
theorem Ns.on (h : Ns w A xs) (hb : Below w.heap.size w w') : Ns w' A xs := fun j hj => by
  obtain ⟨ad, e, h1, h2⟩ := h j hj
  have hs := hb.size
  exact ⟨ad, e, by omega, (hb.cell (by rw [block_add]; exact h1)).trans h2⟩
theorem Ns.nil (w : World) (A : Option Addr) : Ns w A [] := fun j hj => absurd hj (by simp)
theorem Ns.alloc (h : Ns w A xs) (o : Obj) : Ns (w.alloc o) A xs := h.on ((Below.refl _ _).alloc (Nat.le_refl _) o)
theorem ints_one (xs : List Nat) : ∀ u ∈ ints xs, u.oneCell' = true := by
  intro u hu
  obtain ⟨x, _, rfl⟩ := List.mem_map.1 hu
  rfl
theorem OwnN.nil (w : World) (B : Nat) : OwnN w B (.slice none 0 0) [] := World.ownsRow_nil _ _ _ _
theorem OwnN.alloc (h : OwnN w B v xs) (o : Obj) : OwnN (w.alloc o) B v xs := World.ownsRow.alloc (w := w) h o
theorem OwnN.ge (h : OwnN w B v xs) : ∀ k, v.ownBlock = some k → B ≤ k ∧ k < w.heap.size := World.ownsRow.lt (w := w) h
theorem OwnN.on (h : OwnN w B v xs) (hb : Below w.heap.size w w') : OwnN w' B v xs := by
  refine ⟨h.1, ?_⟩
  have hk := h.ge
  rcases h.2 with h | ⟨g, cap, cur, rfl, h2, h3, h4⟩
  · exact .inl h
  · exact .inr ⟨g, cap, cur, rfl, h2, (hb.block g (hk g rfl).2).trans h3, h4⟩
theorem OwnN.ns (h : OwnN w B v xs) : ∃ (A : Option Addr) (c : Nat), v = .slice A xs.length c ∧ xs.length ≤ c ∧ Ns w A xs := by
  rcases h.2 with ⟨rfl, hn⟩ | ⟨g, cap, cur, rfl, hg, hh, hcap, _, _, _⟩
  · have : xs = [] := List.eq_nil_of_length_eq_zero hn
    subst this
    exact ⟨none, 0, rfl, Nat.le_refl _, Ns.nil _ _⟩
  · have hlt := World.ownsRow.lt (w := w) (v := .slice (some ⟨g, 0, none⟩) xs.length cap) h g rfl
    refine ⟨some ⟨g, 0, none⟩, cap, rfl, hcap, fun j hj => ⟨_, rfl, hlt.2, ?_⟩⟩
    have e : (⟨g, 0, none⟩ : Addr).add j = ⟨g, j, none⟩ := by unfold Addr.add; split <;> simp_all
    rw [e, World.ownsRow.cellAt (w := w) h j (by omega)]
    simp [ints, List.getD, hj]
end
/-- append of one node. -/
theorem wpList_append_node {w : World} {ops : Array Oper} {rest : List Oper} {o : Oper} {a : Act} {Q : Exit → Act → World → Prop} (hgd : o.guard = none) (s x : Operand)
    (ho : o.op = .call { callee := .builtin .append, args := #[s, x], argTypes := #[36, 36] })
    (B : Nat) (v : Value) (xs : List Nat) (hs : a.eval s = v) (hown : OwnN w B v xs) (ad : Addr) (c : Nat) (y : Nat) (hx : a.eval x = .slice (some ad) 1 c) (hh : w.cell? ad = some (.int .i64 (y : Int)))
    (hlen : xs.length ≤ 100000) (hB : B ≤ w.heap.size)
    (h : ∀ v' w', OwnN w' B v' (xs ++ [y]) → w.grownBy w' v.ownBlock → wpList Try.prog ops Q rest (a.put o.dst v') w') : wpList Try.prog ops Q (o :: rest) a w := by
  obtain ⟨i0, hi0, hz0, hz1, hz2⟩ := info_parts Try.infoInt
  refine wpList_append_own _ hgd s x 36 ho B 3 i0 (.int .i64 0) 1 8 Try.underlying36 hi0 hz0 hz1 hz2 rfl (by decide) v _ _ hs hown ad 1 c (ints [y]) hx (by simp [ints]) ?_ (ints_one [y]) (by unfold maxLen; omega) (by omega) hB ?_
  · intro j u hu
    rcases j with _ | j
    · simp [ints] at hu
      subst hu
      exact hh
    · simp [ints] at hu
  intro v' w1 hown1 hgrow _
  exact h v' w1 (by simpa [OwnN, ints] using hown1) hgrow
end Go.Proofs.Ytmfpipcedblklaa
