/-
  Slices of timers of the call's own; the library's Clone.
-/
import Derived.Test.YtbhpinmdpngbkaaCheck
import Derived.Test.YtbhpinmdpngbkaaHeapMath
namespace Go.Proofs.Ytbhpinmdpngbkaa
open Go.RowKit Go.Proofs.Ytbhpinmdpngbkaa.Pure

theorem Try.infoTm : (Try.prog.info? 33).map (fun i => (i.zero, i.size, i.bytes)) = some (some (.agg #[.int .i64 0, .int .i64 0, .int .i64 0, .int .u64 0]), 4, 32) := by kernel_rfl

/-- A timer's cells. -/
def cells1 (x : Tm) : List Value := [.int .i64 x.a, .int .i64 x.k, .int .i64 x.o, .int .u64 x.n]
/-- The cells of timers. -/
def tms (xs : List Tm) : List Value := xs.flatMap cells1
/-- The slice v is the call's own, in blocks from B on, and holds the timers xs. -/
def Own (w : World) (B : Nat) (v : Value) (xs : List Tm) : Prop := w.ownsRow B 33 4 v xs.length (tms xs)

theorem tms_len (xs : List Tm) : (tms xs).length = xs.length * 4 := by
  induction xs with
  | nil => rfl
  | cons x r ih => simp [tms, cells1] at ih ⊢; omega
theorem tms_append (xs ys : List Tm) : tms (xs ++ ys) = tms xs ++ tms ys := by simp [tms]
theorem tms_one (xs : List Tm) : ∀ u ∈ tms xs, u.oneCell' = true := by
  intro u hu
  obtain ⟨x, _, hx⟩ := List.mem_flatMap.1 hu
  simp [cells1] at hx
  rcases hx with rfl | rfl | rfl | rfl <;> rfl
theorem tms_at (xs : List Tm) (j r : Nat) (hj : j < xs.length) (hr : r < 4) : (tms xs)[j * 4 + r]? = (cells1 (nth xs j))[r]? := by
  induction xs generalizing j with
  | nil => simp at hj
  | cons x l ih =>
    have e : tms (x :: l) = cells1 x ++ tms l := by simp [tms]
    rw [e]
    rcases j with _ | j
    · rw [List.getElem?_append_left (by simp [cells1]; omega)]
      simp [nth]
    · rw [List.getElem?_append_right (by simp [cells1]; omega)]
      have e2 : (j + 1) * 4 + r - (cells1 x).length = j * 4 + r := by simp [cells1]; omega
      rw [e2, ih j (by simpa using hj)]
      simp [nth]
theorem tms_take (xs : List Tm) (k : Nat) : tms (xs.take k) = (tms xs).take (k * 4) := by
  induction xs generalizing k with
  | nil => simp [tms]
  | cons x l ih =>
    rcases k with _ | k
    · simp [tms]
    · have e : tms (x :: l) = cells1 x ++ tms l := by simp [tms]
      have e' : tms ((x :: l).take (k + 1)) = cells1 x ++ tms (l.take k) := by simp [tms]
      rw [e, e', ih, List.take_append]
      have h1 : (cells1 x).take ((k + 1) * 4) = cells1 x := List.take_of_length_le (by simp [cells1]; omega)
      have h2 : (k + 1) * 4 - (cells1 x).length = k * 4 := by simp [cells1]; omega
      rw [h1, h2]

/-- Cells, one by one, as a timer. -/
theorem at_of_cells {w : World} {b j : Nat} {x : Tm} (h : ∀ r, r < 4 → w.cell? ⟨b, j * 4 + r, none⟩ = (cells1 x)[r]?) : At w ((⟨b, 0, none⟩ : Addr).add (j * 4)) x := by
  have e : (⟨b, 0, none⟩ : Addr).add (j * 4) = ⟨b, j * 4, none⟩ := by unfold Addr.add; split <;> simp_all
  rw [e]
  exact ⟨h 0 (by decide), h 1 (by decide), h 2 (by decide), h 3 (by decide)⟩
theorem cells_of_at {w : World} {ad : Addr} {x : Tm} (h : At w ad x) (r : Nat) (hr : r < 4) : w.cell? (ad.add r) = (cells1 x)[r]? := by
  match r, hr with
  | 0, _ => exact h.1
  | 1, _ => exact h.2.1
  | 2, _ => exact h.2.2.1
  | 3, _ => exact h.2.2.2

theorem Has.cells {w : World} {lo hi : Nat} {ad : Addr} {xs : List Tm} (h : Has w lo hi (some ad) xs) (j : Nat) (u : Value) (hu : (tms xs)[j]? = some u) : w.cell? (ad.add j) = some u := by
  have hl := (List.getElem?_eq_some_iff.1 hu).1
  rw [tms_len] at hl
  obtain ⟨ad', e, _, _, c⟩ := h (j / 4) (by omega)
  obtain rfl := Option.some.inj e
  have e2 : j / 4 * 4 + j % 4 = j := by omega
  have := cells_of_at c (j % 4) (by omega)
  rw [add_add, e2] at this
  rw [this, ← hu, ← e2, tms_at xs (j / 4) (j % 4) (by omega) (by omega)]
  simp [e2, nth]

/-- The timers of a slice of the call's own, wherever it lies. -/
theorem Own.has {w : World} {B : Nat} {v : Value} {xs : List Tm} (h : Own w B v xs) : ∃ (A : Option Addr) (c : Nat), v = .slice A xs.length c ∧ xs.length ≤ c ∧ Has w B w.heap.size A xs := by
  rcases h.2 with ⟨rfl, hn⟩ | ⟨g, cap, cur, rfl, hg, hh, hcap, _, _, _⟩
  · have : xs = [] := List.eq_nil_of_length_eq_zero hn
    subst this
    exact ⟨none, 0, rfl, Nat.le_refl _, Has.nil _ _ _ _⟩
  · have hlt := World.ownsRow.lt (w := w) (v := .slice (some ⟨g, 0, none⟩) xs.length cap) h g rfl
    refine ⟨some ⟨g, 0, none⟩, cap, rfl, hcap, fun j hj => ⟨_, rfl, hlt.1, hlt.2, at_of_cells fun r hr => ?_⟩⟩
    rw [World.ownsRow.cellAt (w := w) h (j * 4 + r) (by omega), tms_at xs j r hj hr]
    rfl
theorem Own.alloc {w : World} {B : Nat} {v : Value} {xs : List Tm} (h : Own w B v xs) (o : Obj) : Own (w.alloc o) B v xs := World.ownsRow.alloc (w := w) h o
theorem Own.ge {w : World} {B : Nat} {v : Value} {xs : List Tm} (h : Own w B v xs) : ∀ k, v.ownBlock = some k → B ≤ k ∧ k < w.heap.size := World.ownsRow.lt (w := w) h
theorem Own.nil (w : World) (B : Nat) : Own w B (.slice none 0 0) [] := World.ownsRow_nil _ _ _ _
theorem Own.mono {w : World} {B B' : Nat} {v : Value} {xs : List Tm} (h : Own w B v xs) (hB : B' ≤ B) : Own w B' v xs := by
  refine ⟨h.1, ?_⟩
  rcases h.2 with h | ⟨g, cap, cur, h1, h2, h3⟩
  · exact .inl h
  · exact .inr ⟨g, cap, cur, h1, Nat.le_trans hB h2, h3⟩
/-- What owns a slice reads its own block alone. -/
theorem Own.keep {w w' : World} {B : Nat} {v : Value} {xs : List Tm} (h : Own w B v xs) (hk : ∀ k, v.ownBlock = some k → w'.heap[k]? = w.heap[k]?) : Own w' B v xs := by
  refine ⟨h.1, ?_⟩
  rcases h.2 with h | ⟨g, cap, cur, rfl, h2, h3, h4⟩
  · exact .inl h
  · exact .inr ⟨g, cap, cur, rfl, h2, (hk g rfl).trans h3, h4⟩

theorem run_append_nothing (w : World) (ty : TypeId) (B : Nat) (v : Value) (xs : List Tm) (hown : Own w B v xs) (c : Nat) (i0 : TypeInfo) (hi0 : Try.prog.info? 33 = some i0) :
    (Builtin.append_ #[22, 22] ty #[v, .slice none 0 c]).run Try.prog w = .ok v w := by
  have ht := Try.underlying22
  rcases hown.2 with ⟨rfl, _⟩ | ⟨g, cap, cur, rfl, _, _, hnc, _⟩
  · simp [Builtin.append_, run_underlying ht, sizeOf, typeInfo, hi0, Builtin.lenOf, Builtin.firstCells]
  · simp [Builtin.append_, run_underlying ht, sizeOf, typeInfo, hi0, Builtin.lenOf, Builtin.firstCells, hnc, storeCells]

/-- append onto a slice of the call's own, of any slice of timers, nil too. -/
theorem wpList_append_has {w : World} {ops : Array Oper} {rest : List Oper} {o : Oper} {a : Act} {Q : Exit → Act → World → Prop} (hgd : o.guard = none) (s x : Operand)
    (ho : o.op = .call { callee := .builtin .append, args := #[s, x], argTypes := #[22, 22] })
    (B : Nat) (v : Value) (xs : List Tm) (hs : a.eval s = v) (hown : Own w B v xs) (A : Option Addr) (c lo hi : Nat) (ys : List Tm) (hx : a.eval x = .slice A ys.length c) (hh : Has w lo hi A ys)
    (hlen : xs.length + ys.length ≤ 100000) (hB : B ≤ w.heap.size)
    (h : ∀ v' w', Own w' B v' (xs ++ ys) → w.grownBy w' v.ownBlock → wpList Try.prog ops Q rest (a.put o.dst v') w') : wpList Try.prog ops Q (o :: rest) a w := by
  obtain ⟨i0, hi0, hz0, hz1, hz2⟩ := info_parts Try.infoTm
  rcases A with _ | ad
  · obtain rfl := hh.none_nil
    refine wpList_plain hgd fun K hK => ?_
    have hr := run_append_nothing w o.type B v xs hown c i0 hi0
    unfold Oper.wp execOp
    simp only [List.length_nil] at hx
    simp only [ho, resolve, invoke, builtin, Sem.run_bind, Sem.run_pure, Result.andThen_ok, List.map_toArray, List.map_cons, List.map_nil, hs, hx, hr]
    exact hK _ _ (h v w (by simpa using hown) (World.grownBy.refl _ _))
  · refine wpList_append_own _ hgd s x 22 ho B 33 i0 (.agg #[.int .i64 0, .int .i64 0, .int .i64 0, .int .u64 0]) 4 32 Try.underlying22 hi0 hz0 hz1 hz2 rfl (by decide) v _ _ hs hown ad ys.length c (tms ys) hx (tms_len ys) hh.cells (tms_one ys) (by unfold maxLen; omega) (by omega) hB ?_
    intro v' w1 hown1 hgrow _
    exact h v' w1 (by simpa [Own, tms_append] using hown1) hgrow

set_option maxRecDepth 100000 in
set_option maxHeartbeats 1000000 in
theorem clone_any (A : Option Addr) (c : Nat) (xs : List Tm) (lo hi : Nat) (w : World) (hn : xs.length ≤ 1000) (hc : Has w lo hi A xs) (hh : hi ≤ w.heap.size) :
    Calls Try.prog 33 #[.slice A xs.length c] w fun e w' => ∃ v, e = .returned v ∧ Own w' w.heap.size v xs ∧ Below w.heap.size w w' := by
  obtain ⟨i0, hi0, hz0, hz1, hz2⟩ := info_parts Try.infoTm
  have q : ∀ (w : World) (a : Option Addr) (n c n' c' : Nat), (binOp .eql 22 (.slice a n c) (.slice none n' c')).run Try.prog w = .ok (.bool a.isNone) w := fun w a n c n' c' => Lib.run_eql_slice_nil w _ _ a n c n' c' Try.underlying22
  rcases A with _ | ad
  · obtain rfl := hc.none_nil
    clear hc
    go_enter Try.func33, Try.ntmps33
    go_wp2
    go_ret
    exact ⟨_, rfl, Own.nil _ _, Below.refl _ _⟩
  · have HC := Lib.hid (hc.alloc (.cells #[] 33) hh)
    clear hc
    go_enter Try.func33, Try.ntmps33
    go_wp2_with (at_builtin; refine wpList_append_own _ rfl _ _ 22 rfl w.heap.size 33 i0 (.agg #[.int .i64 0, .int .i64 0, .int .i64 0, .int .u64 0]) 4 32 Try.underlying22 hi0 hz0 hz1 hz2 rfl (by decide) _ _ _ rfl (World.ownsRow_made w #[] 0 (Nat.le_refl _) (Nat.zero_le _) rfl) ad xs.length c (tms xs) rfl ?c1 ?c2 ?c3 ?c4 ?c5 ?c6 ?_)
    case c1 => exact tms_len xs
    case c2 => exact HC.out.cells
    case c3 => exact tms_one xs
    case c4 => unfold maxLen; omega
    case c5 => omega
    case c6 => simp
    intro v' w1 hown hgrow hnil
    go_wp2
    go_ret
    refine ⟨v', rfl, by simpa [Own] using hown, ?_⟩
    exact ((Below.refl _ w).alloc (Nat.le_refl _) _).grown hgrow (by simp) (by intro k hk; simp [Value.ownBlock] at hk; omega)
end Go.Proofs.Ytbhpinmdpngbkaa
