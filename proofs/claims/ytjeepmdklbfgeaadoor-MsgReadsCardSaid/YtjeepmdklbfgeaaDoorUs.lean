/-
  Rows of numbers of 64 bits that are the call's own.
-/
import Derived.Test.YtjeepmdklbfgeaaDoorBase
import Derived.Test.YtjeepmdklbfgeaaDoorWire
namespace Go.Proofs.YtjeepmdklbfgeaaDoor
open Go.Sort Go.RowKit Go.Proofs.YtjeepmdklbfgeaaDoor.Pure Go.Proofs.YtjeepmdklbfgeaaDoor.W Go.Proofs.YtjeepmdklbfgeaaDoor.W.Pure

def us (zs : List Nat) : List Value := zs.map fun (z : Nat) => Value.int .u64 (z : Int)
theorem us_len (zs : List Nat) : (us zs).length = zs.length * 1 := by simp [us]
theorem us_append (xs ys : List Nat) : us (xs ++ ys) = us xs ++ us ys := by simp [us]
theorem us_at (zs : List Nat) (j : Nat) (h : j < zs.length) : (us zs)[j]? = some (.int .u64 (zs.getD j 0 : Nat)) := by
  simp [us, List.getElem?_eq_getElem h, List.getD]
theorem us_one (zs : List Nat) : ∀ u ∈ us zs, u.oneCell' = true := fun u hu => by
  obtain ⟨z, _, rfl⟩ := List.mem_map.1 hu
  rfl
/-- The slice v is the call's own, in blocks from B on, and holds zs. -/
def OwnU (w : World) (B : Nat) (v : Value) (zs : List Nat) : Prop := w.ownsRow B 22 1 v zs.length (us zs)
section
variable {w w' : World} {B : Nat} {v : Value} {zs : List Nat}
theorem OwnU.alloc (h : OwnU w B v zs) (o : Obj) : OwnU (w.alloc o) B v zs := World.ownsRow.alloc (w := w) h o
theorem OwnU.drew (h : OwnU w B v zs) : OwnU w.drew B v zs := h
theorem OwnU.ge (h : OwnU w B v zs) : ∀ k, v.ownBlock = some k → B ≤ k ∧ k < w.heap.size := World.ownsRow.lt (w := w) h
theorem OwnU.on (h : OwnU w B v zs) (hb : Below w.heap.size w w') : OwnU w' B v zs := by
  refine ⟨h.1, ?_⟩
  have hk := h.ge
  rcases h.2 with h | ⟨g, cap, cur, rfl, h2, h3, h4⟩
  · exact .inl h
  · exact .inr ⟨g, cap, cur, rfl, h2, (hb.block g (hk g rfl).2).trans h3, h4⟩
/-- A slice laid anew. -/
theorem OwnU.new (w : World) (B : Nat) (zs : List Nat) (hB : B ≤ w.heap.size) (hz : zs.length ≤ maxLen) : OwnU (w.alloc (.cells (us zs).toArray 22)) B (.slice (some ⟨w.heap.size, 0, none⟩) zs.length zs.length) zs := by
  have h := World.ownsRow_lit (base := B) (e := 22) (size := 1) w (us zs).toArray zs.length hB hz (by simpa using us_len zs)
  simpa [OwnU] using h
/-- What it holds, as the document's sums of texts want it. -/
theorem OwnU.nums (h : OwnU w B v zs) : ∃ (A : Option Addr) (c : Nat), v = .slice A zs.length c ∧ Nums64 w A zs := by
  rcases h.2 with ⟨rfl, hn⟩ | ⟨g, cap, cur, rfl, hg, hh, hcap, _, _, _⟩
  · have : zs = [] := List.eq_nil_of_length_eq_zero hn
    subst this
    exact ⟨none, 0, rfl, fun j hj => absurd hj (Nat.not_lt_zero j)⟩
  · have hlt := World.ownsRow.lt (w := w) (v := .slice (some ⟨g, 0, none⟩) zs.length cap) h g rfl
    refine ⟨some ⟨g, 0, none⟩, cap, rfl, fun j hj => ⟨_, rfl, hlt.2, ?_⟩⟩
    exact World.ownsRow.cells (w := w) h rfl j _ (us_at zs j hj)
end
theorem Tryd.infoU : (Tryd.prog.info? 22).map (fun i => (i.zero, i.size, i.bytes)) = some (some (.int .u64 0), 1, 8) := by kernel_rfl
/-- append of numbers that lie in a block. -/
theorem wpList_append_us {w : World} {ops : Array Oper} {rest : List Oper} {o : Oper} {a : Act} {Q : Exit → Act → World → Prop} (hgd : o.guard = none) (s x : Operand)
    (ho : o.op = .call { callee := .builtin .append, args := #[s, x], argTypes := #[72, 72] })
    (B : Nat) (v : Value) (zs : List Nat) (hs : a.eval s = v) (hown : OwnU w B v zs) (ad : Addr) (c : Nat) (ys : List Nat) (hx : a.eval x = .slice (some ad) ys.length c)
    (hh : ∀ j u, (us ys)[j]? = some u → w.cell? (ad.add j) = some u)
    (hlen : zs.length + ys.length ≤ 100000) (hB : B ≤ w.heap.size)
    (h : ∀ v' w', OwnU w' B v' (zs ++ ys) → w.grownBy w' v.ownBlock → wpList Tryd.prog ops Q rest (a.put o.dst v') w') : wpList Tryd.prog ops Q (o :: rest) a w := by
  obtain ⟨i0, hi0, hz0, hz1, hz2⟩ := info_parts Tryd.infoU
  refine wpList_append_own _ hgd s x 72 ho B 22 i0 (.int .u64 0) 1 8 Tryd.underlying72 hi0 hz0 hz1 hz2 rfl (by decide) v _ _ hs hown ad ys.length c (us ys) hx (us_len ys) hh (us_one ys) (by unfold maxLen; omega) (by omega) hB ?_
  intro v' w1 hown1 hgrow _
  exact h v' w1 (by simpa [OwnU, us_append] using hown1) hgrow
/-- append of numbers that were laid just before. -/
theorem wpList_append_fresh {W : World} {ops : Array Oper} {rest : List Oper} {o : Oper} {a : Act} {Q : Exit → Act → World → Prop} (hgd : o.guard = none) (s x : Operand)
    (ho : o.op = .call { callee := .builtin .append, args := #[s, x], argTypes := #[72, 72] })
    (B : Nat) (v : Value) (zs : List Nat) (hs : a.eval s = v) (hown : OwnU W B v zs) (hB : B ≤ W.heap.size) (ys : List Nat) (hx : a.eval x = .slice (some ⟨W.heap.size, 0, none⟩) ys.length ys.length)
    (hlen : zs.length + ys.length ≤ 100000)
    (h : ∀ v' w', OwnU w' B v' (zs ++ ys) → Below B W w' → wpList Tryd.prog ops Q rest (a.put o.dst v') w') : wpList Tryd.prog ops Q (o :: rest) a (W.alloc (.cells (us ys).toArray 22)) := by
  have hb1 : Below B W (W.alloc (.cells (us ys).toArray 22)) := (Below.refl _ _).alloc hB _
  have hge : ∀ j, v.ownBlock = some j → B ≤ j := fun j e => (hown.ge j e).1
  refine wpList_append_us hgd s x ho B v zs hs (hown.alloc _) ⟨W.heap.size, 0, none⟩ ys.length ys hx (World.ownsRow.cells (OwnU.new W B ys hB (by unfold maxLen; omega)) rfl) hlen (by simp; omega) ?_
  intro v' w' h1 h2
  exact h v' w' h1 (hb1.grown h2 (by simp; omega) hge)
/-- The same, where the region draws its order. -/
theorem wp_append_fresh {W : World} {o : Oper} {a : Act} {K : Act → World → Prop} {Q : Exit → Act → World → Prop} (s x : Operand)
    (ho : o.op = .call { callee := .builtin .append, args := #[s, x], argTypes := #[72, 72] })
    (B : Nat) (v : Value) (zs : List Nat) (hs : a.eval s = v) (hown : OwnU W B v zs) (hB : B ≤ W.heap.size) (ys : List Nat) (hx : a.eval x = .slice (some ⟨W.heap.size, 0, none⟩) ys.length ys.length)
    (hlen : zs.length + ys.length ≤ 100000)
    (h : ∀ v' w', OwnU w' B v' (zs ++ ys) → Below B W w' → K (a.put o.dst v') w') : o.wp Tryd.prog a (W.alloc (.cells (us ys).toArray 22)) K Q := by
  have hb1 : Below B W (W.alloc (.cells (us ys).toArray 22)) := (Below.refl _ _).alloc hB _
  have hge : ∀ j, v.ownBlock = some j → B ≤ j := fun j e => (hown.ge j e).1
  obtain ⟨i0, hi0, hz0, hz1, hz2⟩ := info_parts Tryd.infoU
  obtain ⟨v', w', hr, h2, h3, _⟩ := run_append_own (P := Tryd.prog) (W.alloc (.cells (us ys).toArray 22)) B 72 o.type 22 i0 (.int .u64 0) 1 8 Tryd.underlying72 hi0 hz0 hz1 hz2 rfl (by decide) v _ _ (hown.alloc _) ⟨W.heap.size, 0, none⟩ ys.length ys.length (us ys) (us_len ys) (World.ownsRow.cells (OwnU.new W B ys hB (by unfold maxLen; omega)) rfl) (us_one ys) (by unfold maxLen; omega) (by omega) (by simp; omega)
  have h2' : OwnU w' B v' (zs ++ ys) := by simpa [OwnU, us_append] using h2
  have h3' := hb1.grown h3 (by simp; omega) hge
  unfold Oper.wp execOp
  simp only [ho, resolve, invoke, builtin, Sem.run_bind, Sem.run_pure, Result.andThen_ok, List.map_toArray, List.map_cons, List.map_nil, hs, hx, hr]
  exact h v' w' h2' h3'
end Go.Proofs.YtjeepmdklbfgeaaDoor
