/-
  What memory holds: numbers of a slice; doubts of a slice, each with its own; slices of the call's own.
-/
import Derived.Test.YtknpbbplolncpaaRows
import Derived.Test.YtknpbbplolncpaaDoubts
import Derived.Below
import Derived.WalkKit
import Derived.Lib.Hide
import Derived.Deep.Draws
import Derived.IntWalk
import Derived.Deep.RegionHeld3
import Derived.BigQuiet
import Derived.Deep.QuietTactic
import Derived.BigRegion
import Derived.RegionTactic
import Derived.Deep.DeepCutAuto
import Derived.StillTactics
import Derived.StillTailTactics
import Derived.OwnWalk
import Derived.Laws.AppendOwn
import Derived.Laws.OwnMore
import Derived.Maps.AppendAt
import Derived.Lib.SliceRun
import Derived.Lib.QuietBelow
import Derived.Deep.AppendLies
import Derived.Deep.RegionLaw
namespace Go.Proofs.Ytknpbbplolncpaa
open Go.Sort Go.RowKit Go.Proofs.Ytknpbbplolncpaa.Pure

theorem block_add (a : Addr) (n : Nat) : (a.add n).block = a.block := by unfold Addr.add; split <;> rfl
theorem add_add (a : Addr) (m n : Nat) : (a.add m).add n = a.add (m + n) := by
  unfold Addr.add
  by_cases hm : m = 0 <;> by_cases hn : n = 0 <;> simp [hm, hn, Nat.add_assoc]
theorem add_lit0 (g n : Nat) : (⟨g, 0, none⟩ : Addr).add n = ⟨g, n, none⟩ := by unfold Addr.add; split <;> simp_all

/-- The slice that begins at A holds the numbers xs, in blocks from lo on, below hi. -/
def Has (w : World) (lo hi : Nat) (A : Option Addr) (xs : List Int) : Prop :=
  ∀ j, j < xs.length → ∃ ad, A = some ad ∧ lo ≤ ad.block ∧ ad.block < hi ∧ w.cell? (ad.add j) = some (.int .i64 (xs.getD j 0))

section
variable {w w' : World} {lo hi : Nat} {A : Option Addr} {xs : List Int}
theorem Has.keep (h : Has w lo hi A xs) (hk : ∀ p : Addr, lo ≤ p.block → p.block < hi → w'.cell? p = w.cell? p) : Has w' lo hi A xs := fun j hj => by
  obtain ⟨ad, e, h1, h2, h3⟩ := h j hj
  exact ⟨ad, e, h1, h2, (hk _ (by rw [block_add]; exact h1) (by rw [block_add]; exact h2)).trans h3⟩
theorem Has.nil (w : World) (lo hi : Nat) (A : Option Addr) : Has w lo hi A [] := fun j hj => absurd hj (by simp)
theorem Has.on {B : Nat} (h : Has w lo hi A xs) (hb : Below B w w') (hB : hi ≤ B) : Has w' lo hi A xs := h.keep fun _ _ hp => hb.cell (by omega)
theorem Has.set (h : Has w lo hi A xs) {p : Addr} (hp : p.block < lo ∨ hi ≤ p.block) (u : Value) : Has (w.setCell p u) lo hi A xs :=
  h.keep fun q h1 h2 => World.cell?_setCell_other w p q u (fun e => by subst e; omega)
theorem Has.alloc (h : Has w lo hi A xs) (o : Obj) (hh : hi ≤ w.heap.size) : Has (w.alloc o) lo hi A xs := h.on ((Below.refl w.heap.size w).alloc (Nat.le_refl _) o) hh
theorem Has.drew (h : Has w lo hi A xs) : Has w.drew lo hi A xs := h
theorem Has.drewN (h : Has w lo hi A xs) (k : Nat) : Has (w.drewN k) lo hi A xs := h
theorem Has.wide (h : Has w lo hi A xs) {lo' hi' : Nat} (h1 : lo' ≤ lo) (h2 : hi ≤ hi') : Has w lo' hi' A xs := fun j hj => by
  obtain ⟨ad, e, a, b, c⟩ := h j hj
  exact ⟨ad, e, by omega, by omega, c⟩
theorem Has.take (h : Has w lo hi A xs) (k : Nat) : Has w lo hi A (xs.take k) := fun j hj => by
  have hj' : j < k ∧ j < xs.length := by rw [List.length_take] at hj; omega
  obtain ⟨ad, e, a, b, c⟩ := h j hj'.2
  refine ⟨ad, e, a, b, ?_⟩
  rw [c]
  simp [List.getD, hj'.1]
end

theorem below_drewN {B : Nat} {a w : World} (h : Below B a w) (n : Nat) : Below B a (w.drewN n) := h.trans ⟨rfl, rfl, rfl, Nat.le_refl _, fun _ _ => rfl⟩


theorem Has.none_nil {w : World} {lo hi : Nat} {xs : List Int} (h : Has w lo hi none xs) : xs = [] := by
  rcases xs with _ | ⟨x, r⟩
  · rfl
  · obtain ⟨ad, e, _⟩ := h 0 (by simp)
    cases e
/-- The slice that begins at A holds the numbers xs, in blocks that are P. -/
def Ns (w : World) (P : Nat → Prop) (A : Option Addr) (xs : List Int) : Prop :=
  ∀ j, j < xs.length → ∃ ad, A = some ad ∧ ad.block < w.heap.size ∧ P ad.block ∧ w.cell? (ad.add j) = some (.int .i64 (xs.getD j 0))
section
variable {w w' : World} {P Q : Nat → Prop} {A : Option Addr} {xs : List Int}
theorem Ns.nil (w : World) (P : Nat → Prop) (A : Option Addr) : Ns w P A [] := fun j hj => absurd hj (by simp)
theorem Ns.keep (h : Ns w P A xs) (hs : w.heap.size ≤ w'.heap.size) (hk : ∀ p : Addr, p.block < w.heap.size → P p.block → w'.cell? p = w.cell? p) : Ns w' P A xs := fun j hj => by
  obtain ⟨ad, e, h1, h2, h3⟩ := h j hj
  exact ⟨ad, e, by omega, h2, (hk _ (by rw [block_add]; exact h1) (by rw [block_add]; exact h2)).trans h3⟩
theorem Ns.imp (h : Ns w P A xs) (hk : ∀ k, k < w.heap.size → P k → Q k) : Ns w Q A xs := fun j hj => by
  obtain ⟨ad, e, h1, h2, h3⟩ := h j hj
  exact ⟨ad, e, h1, hk _ h1 h2, h3⟩
theorem Ns.on (h : Ns w P A xs) (hb : Below w.heap.size w w') : Ns w' P A xs := h.keep hb.size fun _ hp _ => hb.cell hp
theorem Ns.take (h : Ns w P A xs) (k : Nat) : Ns w P A (xs.take k) := fun j hj => by
  have hj' : j < k ∧ j < xs.length := by rw [List.length_take] at hj; omega
  obtain ⟨ad, e, a, b, c⟩ := h j hj'.2
  refine ⟨ad, e, a, b, ?_⟩
  rw [c]
  simp [List.getD, hj'.1]
theorem Ns.has (h : Ns w P A xs) : Has w 0 w.heap.size A xs := fun j hj => by
  obtain ⟨ad, e, h1, _, h3⟩ := h j hj
  exact ⟨ad, e, Nat.zero_le _, h1, h3⟩
theorem Ns.none_nil (h : Ns w P none xs) : xs = [] := h.has.none_nil
theorem Has.ns {lo hi : Nat} (h : Has w lo hi A xs) (hh : hi ≤ w.heap.size) : Ns w (fun k => lo ≤ k ∧ k < hi) A xs := fun j hj => by
  obtain ⟨ad, e, h1, h2, h3⟩ := h j hj
  exact ⟨ad, e, by omega, ⟨h1, h2⟩, h3⟩
end

/-! ### numbers of the call's own -/
theorem Try.infoInt : (Try.prog.info? 3).map (fun i => (i.zero, i.size, i.bytes)) = some (some (.int .i64 0), 1, 8) := by kernel_rfl
def ints (xs : List Int) : List Value := xs.map fun (x : Int) => Value.int .i64 x
def OwnN (w : World) (B : Nat) (v : Value) (xs : List Int) : Prop := w.ownsRow B 3 1 v xs.length (ints xs)
theorem ints_len (xs : List Int) : (ints xs).length = xs.length * 1 := by simp [ints]
theorem ints_append (xs ys : List Int) : ints (xs ++ ys) = ints xs ++ ints ys := by simp [ints]
theorem ints_one (xs : List Int) : ∀ u ∈ ints xs, u.oneCell' = true := by
  intro u hu
  obtain ⟨x, _, rfl⟩ := List.mem_map.1 hu
  rfl
theorem ints_at {xs : List Int} {j : Nat} {u : Value} (h : (ints xs)[j]? = some u) : j < xs.length ∧ u = .int .i64 (xs.getD j 0) := by
  have hl := (List.getElem?_eq_some_iff.1 h).1
  simp only [ints, List.length_map] at hl
  refine ⟨hl, ?_⟩
  simp [ints, List.getD, hl] at h ⊢
  exact h.symm
section
variable {w w' : World} {P : Nat → Prop} {A : Option Addr} {B : Nat} {v : Value} {xs : List Int}
theorem Ns.cells {ad : Addr} (h : Ns w P (some ad) xs) (j : Nat) (u : Value) (hu : (ints xs)[j]? = some u) : w.cell? (ad.add j) = some u := by
  obtain ⟨hj, rfl⟩ := ints_at hu
  obtain ⟨ad', e, _, _, c⟩ := h j hj
  obtain rfl := Option.some.inj e
  exact c
theorem OwnN.nil (w : World) (B : Nat) : OwnN w B (.slice none 0 0) [] := World.ownsRow_nil _ _ _ _
theorem OwnN.alloc (h : OwnN w B v xs) (o : Obj) : OwnN (w.alloc o) B v xs := World.ownsRow.alloc (w := w) h o
theorem OwnN.ge (h : OwnN w B v xs) : ∀ k, v.ownBlock = some k → B ≤ k ∧ k < w.heap.size := World.ownsRow.lt (w := w) h
theorem OwnN.mono {B' : Nat} (h : OwnN w B v xs) (hB : B' ≤ B) : OwnN w B' v xs := by
  refine ⟨h.1, ?_⟩
  rcases h.2 with h | ⟨g, cap, cur, h1, h2, h3⟩
  · exact .inl h
  · exact .inr ⟨g, cap, cur, h1, Nat.le_trans hB h2, h3⟩
theorem OwnN.keep (h : OwnN w B v xs) (hk : ∀ k, v.ownBlock = some k → w'.heap[k]? = w.heap[k]?) : OwnN w' B v xs := by
  refine ⟨h.1, ?_⟩
  rcases h.2 with h | ⟨g, cap, cur, rfl, h2, h3, h4⟩
  · exact .inl h
  · exact .inr ⟨g, cap, cur, rfl, h2, (hk g rfl).trans h3, h4⟩
theorem OwnN.on (h : OwnN w B v xs) (hb : Below w.heap.size w w') : OwnN w' B v xs := h.keep fun k hk => hb.block k (h.ge k hk).2
/-- What it holds, wherever it lies. -/
theorem OwnN.ns (h : OwnN w B v xs) : ∃ (A : Option Addr) (c : Nat), v = .slice A xs.length c ∧ xs.length ≤ c ∧ c ≤ maxLen ∧ Ns w (fun k => B ≤ k) A xs := by
  rcases h.2 with ⟨rfl, hn⟩ | ⟨g, cap, cur, rfl, hg, hh, hcap, hm, _, _⟩
  · have : xs = [] := List.eq_nil_of_length_eq_zero hn
    subst this
    exact ⟨none, 0, rfl, Nat.le_refl _, Nat.zero_le _, Ns.nil _ _ _⟩
  · have hlt := World.ownsRow.lt (w := w) (v := .slice (some ⟨g, 0, none⟩) xs.length cap) h g rfl
    refine ⟨some ⟨g, 0, none⟩, cap, rfl, hcap, hm, fun j hj => ⟨_, rfl, hlt.2, hg, ?_⟩⟩
    rw [add_lit0, World.ownsRow.cellAt (w := w) h j (by omega)]
    simp [ints, List.getD, hj]
end
theorem Ns.one (w : World) (y : Int) (t : TypeId) : Ns (w.alloc (.cells #[.int .i64 y] t)) (fun k => w.heap.size ≤ k) (some ⟨w.heap.size, 0, none⟩) [y] := fun j hj => by
  obtain rfl : j = 0 := by simpa using hj
  exact ⟨_, rfl, by simp, Nat.le_refl _, by go_simp⟩

/-! ### doubts -/
/-- A doubt as it lies: its numbers, and the slice of whom it is by. -/
structure Db where
  w : Int
  i : Int
  t : Int
  A : Option Addr
  c : Nat
  b : List Int
def Db.ct (x : Db) : Dt := ⟨x.w, x.i, x.t, x.b⟩
def db (l : List Db) (j : Nat) : Db := l.getD j ⟨0, 0, 0, none, 0, []⟩
theorem db_lt (l : List Db) {j : Nat} (h : j < l.length) : db l j = l[j] := by simp [db, List.getD, h]
theorem db_mem (l : List Db) {j : Nat} (h : j < l.length) : db l j ∈ l := by rw [db_lt l h]; exact List.getElem_mem h
theorem db_take (l : List Db) (k j : Nat) (h : j < k) : db (l.take k) j = db l j := by simp [db, List.getD, h]
theorem ct_at (l : List Db) (j : Nat) : dt (l.map Db.ct) j = (db l j).ct := by
  unfold dt db
  simp only [List.getD_eq_getElem?_getD, List.getElem?_map]
  rcases l[j]? with _ | x <;> rfl
theorem take_snocD (l : List Db) (k : Nat) (h : k < l.length) : l.take (k + 1) = l.take k ++ [db l k] := by
  rw [List.take_succ_eq_append_getElem h, db_lt l h]

theorem Try.infoDb : (Try.prog.info? 55).map (fun i => (i.zero, i.size, i.bytes)) = some (some (.agg #[.int .i64 0, .int .u64 0, .int .i64 0, .slice none 0 0]), 4, 48) := by kernel_rfl
/-- The cells from a on hold x. -/
def DAt (w : World) (a : Addr) (x : Db) : Prop := w.cell? a = some (.int .i64 x.w) ∧ w.cell? (a.add 1) = some (.int .u64 x.i) ∧ w.cell? (a.add 2) = some (.int .i64 x.t) ∧ w.cell? (a.add 3) = some (.slice x.A x.b.length x.c)
/-- By whom it is may be read, in blocks that are P. -/
def Rd (w : World) (P : Nat → Prop) (x : Db) : Prop := Ns w P x.A x.b ∧ x.b.length ≤ x.c ∧ x.c ≤ maxLen
/-- The slice that begins at A holds l, in blocks below hi. -/
def Ds (w : World) (hi : Nat) (A : Option Addr) (l : List Db) : Prop := ∀ j, j < l.length → ∃ ad, A = some ad ∧ ad.block < hi ∧ DAt w (ad.add (j * 4)) (db l j) ∧ Rd w (fun k => k < hi) (db l j)
def dbs1 (x : Db) : List Value := [.int .i64 x.w, .int .u64 x.i, .int .i64 x.t, .slice x.A x.b.length x.c]
def dbs (xs : List Db) : List Value := xs.flatMap dbs1
/-- The slice v is the call's own, in blocks from B on, and holds xs; by whom they are lies elsewhere. -/
def OwnD (w : World) (B : Nat) (v : Value) (xs : List Db) : Prop := w.ownsRow B 55 4 v xs.length (dbs xs) ∧ ∀ x ∈ xs, Rd w (fun k => v.ownBlock ≠ some k) x

theorem dbs_len (xs : List Db) : (dbs xs).length = xs.length * 4 := by
  induction xs with
  | nil => rfl
  | cons x r ih => simp [dbs, dbs1] at ih ⊢; omega
theorem dbs_append (xs ys : List Db) : dbs (xs ++ ys) = dbs xs ++ dbs ys := by simp [dbs]
theorem dbs_cons (x : Db) (xs : List Db) : dbs (x :: xs) = dbs1 x ++ dbs xs := by simp [dbs]
theorem dbs1_one (x : Db) : ∀ u ∈ dbs1 x, u.oneCell' = true := by
  intro u hx
  simp [dbs1] at hx
  rcases hx with rfl | rfl | rfl | rfl <;> rfl
theorem dbs_one (xs : List Db) : ∀ u ∈ dbs xs, u.oneCell' = true := by
  intro u hu
  obtain ⟨x, _, hx⟩ := List.mem_flatMap.1 hu
  exact dbs1_one x u hx
theorem dbs_at (xs : List Db) (j r : Nat) (hj : j < xs.length) (hr : r < 4) : (dbs xs)[j * 4 + r]? = (dbs1 (db xs j))[r]? := by
  induction xs generalizing j with
  | nil => simp at hj
  | cons x l ih =>
    rw [dbs_cons]
    rcases j with _ | j
    · rw [List.getElem?_append_left (by simp [dbs1]; omega)]
      simp [db]
    · rw [List.getElem?_append_right (by simp [dbs1]; omega)]
      have e2 : (j + 1) * 4 + r - (dbs1 x).length = j * 4 + r := by simp [dbs1]; omega
      rw [e2, ih j (by simpa using hj)]
      simp [db]
theorem dbs_take (xs : List Db) (k : Nat) : dbs (xs.take k) = (dbs xs).take (k * 4) := by
  induction xs generalizing k with
  | nil => simp [dbs]
  | cons x l ih =>
    rcases k with _ | k
    · simp [dbs]
    · rw [List.take_succ_cons, dbs_cons, dbs_cons, ih, List.take_append]
      have h1 : (dbs1 x).take ((k + 1) * 4) = dbs1 x := List.take_of_length_le (by simp [dbs1]; omega)
      have h2 : (k + 1) * 4 - (dbs1 x).length = k * 4 := by simp [dbs1]; omega
      rw [h1, h2]
theorem dbs_drop (xs : List Db) (k : Nat) : dbs (xs.drop k) = (dbs xs).drop (k * 4) := by
  induction xs generalizing k with
  | nil => simp [dbs]
  | cons x l ih =>
    rcases k with _ | k
    · simp
    · rw [List.drop_succ_cons, dbs_cons, ih, List.drop_append]
      have h1 : (dbs1 x).drop ((k + 1) * 4) = [] := List.drop_eq_nil_of_le (by simp [dbs1]; omega)
      have h2 : (k + 1) * 4 - (dbs1 x).length = k * 4 := by simp [dbs1]; omega
      rw [h1, h2, List.nil_append]
theorem dbs_set (xs : List Db) (i : Nat) (y : Db) : dbs (xs.set i y) = ((((dbs xs).set (i * 4) (.int .i64 y.w)).set (i * 4 + 1) (.int .u64 y.i)).set (i * 4 + 2) (.int .i64 y.t)).set (i * 4 + 3) (.slice y.A y.b.length y.c) := by
  induction xs generalizing i with
  | nil => rfl
  | cons x l ih =>
    have e : dbs (x :: l) = .int .i64 x.w :: .int .u64 x.i :: .int .i64 x.t :: .slice x.A x.b.length x.c :: dbs l := by simp [dbs, dbs1]
    rcases i with _ | i
    · rw [List.set_cons_zero]
      rw [e, show dbs (y :: l) = .int .i64 y.w :: .int .u64 y.i :: .int .i64 y.t :: .slice y.A y.b.length y.c :: dbs l by simp [dbs, dbs1]]
      rfl
    · rw [List.set_cons_succ]
      rw [e, show dbs (x :: l.set i y) = .int .i64 x.w :: .int .u64 x.i :: .int .i64 x.t :: .slice x.A x.b.length x.c :: dbs (l.set i y) by simp [dbs, dbs1], ih]
      rw [show (i + 1) * 4 = i * 4 + 4 by omega]
      rfl
theorem set_same {l : List Value} {i : Nat} {v : Value} (h : l[i]? = some v) : l.set i v = l := by
  apply List.ext_getElem?
  intro j
  by_cases e : i = j
  · subst e
    rw [List.getElem?_set_self (List.getElem?_eq_some_iff.1 h).1, h]
  · rw [List.getElem?_set_ne e]

section
variable {w w' : World} {P Q : Nat → Prop} {A : Option Addr} {l : List Db} {a : Addr} {x : Db} {B hi : Nat} {v : Value} {xs : List Db}
theorem DAt.keep (h : DAt w a x) (hk : ∀ p : Addr, p.block = a.block → w'.cell? p = w.cell? p) : DAt w' a x :=
  ⟨(hk _ rfl).trans h.1, (hk _ (block_add _ _)).trans h.2.1, (hk _ (block_add _ _)).trans h.2.2.1, (hk _ (block_add _ _)).trans h.2.2.2⟩
theorem DAt.flat (h : DAt w a x) : w.cell? a = some (.int .i64 x.w) ∧ w.cell? ⟨a.block, a.off + 1, none⟩ = some (.int .u64 x.i) ∧ w.cell? ⟨a.block, a.off + 2, none⟩ = some (.int .i64 x.t) ∧ w.cell? ⟨a.block, a.off + 3, none⟩ = some (.slice x.A x.b.length x.c) := h
theorem Rd.imp (h : Rd w P x) (hk : ∀ k, k < w.heap.size → P k → Q k) : Rd w Q x := ⟨h.1.imp hk, h.2⟩
theorem Rd.keep (h : Rd w P x) (hs : w.heap.size ≤ w'.heap.size) (hk : ∀ p : Addr, p.block < w.heap.size → P p.block → w'.cell? p = w.cell? p) : Rd w' P x := ⟨h.1.keep hs hk, h.2⟩
theorem Rd.on (h : Rd w P x) (hb : Below w.heap.size w w') : Rd w' P x := ⟨h.1.on hb, h.2⟩
theorem Ds.keep (h : Ds w hi A l) (hs : w.heap.size ≤ w'.heap.size) (hk : ∀ p : Addr, p.block < hi → w'.cell? p = w.cell? p) : Ds w' hi A l := fun j hj => by
  obtain ⟨ad, e, h1, h2, h3⟩ := h j hj
  exact ⟨ad, e, h1, h2.keep fun p hp => hk p (by rw [hp, block_add]; exact h1), h3.keep hs fun p _ hp => hk p hp⟩
theorem Ds.on {G : Nat} (h : Ds w hi A l) (hb : Below G w w') (hh : hi ≤ G) : Ds w' hi A l := h.keep hb.size fun p hp => hb.cell (by omega)
theorem Ds.wide {hi' : Nat} (h : Ds w hi A l) (hh : hi ≤ hi') : Ds w hi' A l := fun j hj => by
  obtain ⟨ad, e, h1, h2, h3⟩ := h j hj
  exact ⟨ad, e, by omega, h2, h3.imp fun k _ hk => by omega⟩
theorem Ds.onW (h : Ds w w.heap.size A l) (hb : Below w.heap.size w w') : Ds w' w'.heap.size A l := (h.on hb (Nat.le_refl _)).wide hb.size
theorem Ds.nil (w : World) (hi : Nat) (A : Option Addr) : Ds w hi A [] := fun j hj => absurd hj (by simp)
theorem Ds.take (h : Ds w hi A l) (k : Nat) : Ds w hi A (l.take k) := fun j hj => by
  rw [List.length_take] at hj
  obtain ⟨ad, e, h1, h2⟩ := h j (by omega)
  refine ⟨ad, e, h1, ?_⟩
  rw [db_take l k j (by omega)]
  exact h2
theorem Ds.none_nil (h : Ds w hi none xs) : xs = [] := by
  rcases xs with _ | ⟨x, r⟩
  · rfl
  · obtain ⟨ad, e, _⟩ := h 0 (by simp)
    cases e
theorem Ds.rd (h : Ds w hi A l) : ∀ x ∈ l, Rd w (fun k => k < hi) x := fun x hx => by
  obtain ⟨j, hj, rfl⟩ := List.getElem_of_mem hx
  obtain ⟨_, _, _, _, h3⟩ := h j hj
  rwa [db_lt l hj] at h3
theorem dbs_of_at {ad : Addr} (h : DAt w ad x) (r : Nat) (hr : r < 4) : w.cell? (ad.add r) = (dbs1 x)[r]? := by
  match r, hr with
  | 0, _ => exact h.1
  | 1, _ => exact h.2.1
  | 2, _ => exact h.2.2.1
  | 3, _ => exact h.2.2.2
theorem Ds.cells {ad : Addr} (h : Ds w hi (some ad) xs) (j : Nat) (u : Value) (hu : (dbs xs)[j]? = some u) : w.cell? (ad.add j) = some u := by
  have hl := (List.getElem?_eq_some_iff.1 hu).1
  rw [dbs_len] at hl
  obtain ⟨ad', e, _, c, _⟩ := h (j / 4) (by omega)
  obtain rfl := Option.some.inj e
  have e2 : j / 4 * 4 + j % 4 = j := by omega
  have := dbs_of_at c (j % 4) (by omega)
  rw [add_add, e2] at this
  rw [this, ← hu, ← e2, dbs_at xs (j / 4) (j % 4) (by omega) (by omega)]
  simp [e2, db]
theorem DAt.of {b j : Nat} (h : ∀ r, r < 4 → w.cell? ⟨b, j * 4 + r, none⟩ = (dbs1 x)[r]?) : DAt w ((⟨b, 0, none⟩ : Addr).add (j * 4)) x := by
  rw [add_lit0]
  exact ⟨h 0 (by decide), h 1 (by decide), h 2 (by decide), h 3 (by decide)⟩
theorem OwnD.ge (h : OwnD w B v xs) : ∀ k, v.ownBlock = some k → B ≤ k ∧ k < w.heap.size := World.ownsRow.lt (w := w) h.1
theorem OwnD.nil (w : World) (B : Nat) : OwnD w B (.slice none 0 0) [] := ⟨World.ownsRow_nil _ _ _ _, fun x hx => by cases hx⟩
theorem OwnD.mono {B' : Nat} (h : OwnD w B v xs) (hB : B' ≤ B) : OwnD w B' v xs := by
  refine ⟨⟨h.1.1, ?_⟩, h.2⟩
  rcases h.1.2 with h | ⟨g, cap, cur, h1, h2, h3⟩
  · exact .inl h
  · exact .inr ⟨g, cap, cur, h1, Nat.le_trans hB h2, h3⟩
theorem OwnD.keep (h : OwnD w B v xs) (hs : w.heap.size ≤ w'.heap.size) (hk : ∀ k, k < w.heap.size → w'.heap[k]? = w.heap[k]?) : OwnD w' B v xs := by
  refine ⟨⟨h.1.1, ?_⟩, fun x hx => (h.2 x hx).keep hs fun p hp _ => World.cell?_of_block (hk _ hp)⟩
  have hge := h.ge
  rcases h.1.2 with h | ⟨g, cap, cur, rfl, h2, h3, h4⟩
  · exact .inl h
  · exact .inr ⟨g, cap, cur, rfl, h2, (hk g (hge g rfl).2).trans h3, h4⟩
theorem OwnD.on (h : OwnD w B v xs) (hb : Below w.heap.size w w') : OwnD w' B v xs := h.keep hb.size fun k hk => hb.block k hk
theorem OwnD.alloc (h : OwnD w B v xs) (o : Obj) : OwnD (w.alloc o) B v xs := h.on ((Below.refl _ _).alloc (Nat.le_refl _) o)
theorem OwnD.drew (h : OwnD w B v xs) : OwnD w.drew B v xs := h
/-- What it holds, wherever it lies. -/
theorem OwnD.ds (h : OwnD w B v xs) : ∃ (A : Option Addr) (c : Nat), v = .slice A xs.length c ∧ xs.length ≤ c ∧ c ≤ maxLen ∧ Ds w w.heap.size A xs := by
  have hrd := h.2
  rcases h.1.2 with ⟨rfl, hn⟩ | ⟨g, cap, cur, rfl, hg, hh, hcap, hm, _, _⟩
  · have : xs = [] := List.eq_nil_of_length_eq_zero hn
    subst this
    exact ⟨none, 0, rfl, Nat.le_refl _, Nat.zero_le _, Ds.nil _ _ _⟩
  · have hlt := World.ownsRow.lt (w := w) (v := .slice (some ⟨g, 0, none⟩) xs.length cap) h.1 g rfl
    refine ⟨some ⟨g, 0, none⟩, cap, rfl, hcap, hm, fun j hj => ⟨_, rfl, hlt.2, DAt.of fun r hr => ?_, (hrd _ (db_mem xs hj)).imp fun k hk _ => hk⟩⟩
    rw [World.ownsRow.cellAt (w := w) h.1 (j * 4 + r) (by omega), dbs_at xs j r hj hr]
/-- The same, where there is something. -/
theorem OwnD.opened (h : OwnD w B v xs) (hn : 0 < xs.length) : ∃ g c, v = .slice (some ⟨g, 0, none⟩) xs.length c ∧ B ≤ g ∧ g < w.heap.size ∧ xs.length ≤ c ∧ c ≤ maxLen ∧ (∀ o : Nat, w.frozen? ⟨g, o, none⟩ = false) := by
  have h1 := h.1
  rcases h.1.2 with ⟨_, h0⟩ | ⟨g, cap, cur, rfl, hg, hh, hcap, hm, _, _⟩
  · omega
  · have hlt := World.ownsRow.lt (w := w) (v := .slice (some ⟨g, 0, none⟩) xs.length cap) h1 g rfl
    exact ⟨g, cap, rfl, hg, hlt.2, hcap, hm, World.ownsRow.frozenAt (w := w) h1⟩
theorem OwnD.cell {g c : Nat} (h : OwnD w B (.slice (some ⟨g, 0, none⟩) xs.length c) xs) (j : Nat) (hj : j < xs.length) : w.cell? ⟨g, j * 4, none⟩ = some (.int .i64 (db xs j).w) ∧ w.cell? ⟨g, j * 4 + 1, none⟩ = some (.int .u64 (db xs j).i) ∧ w.cell? ⟨g, j * 4 + 2, none⟩ = some (.int .i64 (db xs j).t) ∧ w.cell? ⟨g, j * 4 + 3, none⟩ = some (.slice (db xs j).A (db xs j).b.length (db xs j).c) :=
  ⟨(World.ownsRow.cellAt (w := w) h.1 (j * 4 + 0) (by omega)).trans (dbs_at xs j 0 hj (by decide)), (World.ownsRow.cellAt (w := w) h.1 (j * 4 + 1) (by omega)).trans (dbs_at xs j 1 hj (by decide)), (World.ownsRow.cellAt (w := w) h.1 (j * 4 + 2) (by omega)).trans (dbs_at xs j 2 hj (by decide)), (World.ownsRow.cellAt (w := w) h.1 (j * 4 + 3) (by omega)).trans (dbs_at xs j 3 hj (by decide))⟩
theorem rd_set {g : Nat} {p : Addr} (h : Rd w (fun k => some g ≠ some k) x) (hp : p.block = g) (u : Value) : Rd (w.setCell p u) (fun k => some g ≠ some k) x :=
  h.keep (by simp) fun q _ hq => World.cell?_setCell_other w p q u (fun e => by subst e; exact hq (by rw [hp]))
theorem mem_set {l : List Db} {i : Nat} {y z : Db} (h : z ∈ l.set i y) : z ∈ l ∨ z = y := List.mem_or_eq_of_mem_set h
/-- One of them laid anew. -/
theorem OwnD.set {g c i : Nat} (h : OwnD w B (.slice (some ⟨g, 0, none⟩) xs.length c) xs) (y : Db) (hy : Rd w (fun k => some g ≠ some k) y) : OwnD ((((w.setCell ⟨g, i * 4, none⟩ (.int .i64 y.w)).setCell ⟨g, i * 4 + 1, none⟩ (.int .u64 y.i)).setCell ⟨g, i * 4 + 2, none⟩ (.int .i64 y.t)).setCell ⟨g, i * 4 + 3, none⟩ (.slice y.A y.b.length y.c)) B (.slice (some ⟨g, 0, none⟩) xs.length c) (xs.set i y) := by
  have h0 := (World.ownsRow.stored (w := w) h.1 (i * 4) (.int .i64 y.w)).1
  have h1 := (World.ownsRow.stored h0 (i * 4 + 1) (.int .u64 y.i)).1
  have h2 := (World.ownsRow.stored h1 (i * 4 + 2) (.int .i64 y.t)).1
  have h3 := (World.ownsRow.stored h2 (i * 4 + 3) (.slice y.A y.b.length y.c)).1
  refine ⟨?_, fun z hz => ?_⟩
  · rw [dbs_set, List.length_set]
    exact h3
  · have hz' : Rd w (fun k => some g ≠ some k) z := by
      rcases mem_set hz with hz | rfl
      · exact h.2 z hz
      · exact hy
    exact rd_set (rd_set (rd_set (rd_set hz' rfl _) rfl _) rfl _) rfl _
/-- Of one of them by whom it is laid anew. -/
theorem OwnD.setBy {g c i : Nat} (h : OwnD w B (.slice (some ⟨g, 0, none⟩) xs.length c) xs) (hi : i < xs.length) (A' : Option Addr) (c' : Nat) (b' : List Int) (hy : Rd w (fun k => some g ≠ some k) ⟨(db xs i).w, (db xs i).i, (db xs i).t, A', c', b'⟩) :
    OwnD (w.setCell ⟨g, i * 4 + 3, none⟩ (.slice A' b'.length c')) B (.slice (some ⟨g, 0, none⟩) xs.length c) (xs.set i ⟨(db xs i).w, (db xs i).i, (db xs i).t, A', c', b'⟩) := by
  have h3 := (World.ownsRow.stored (w := w) h.1 (i * 4 + 3) (.slice A' b'.length c')).1
  refine ⟨?_, fun z hz => ?_⟩
  · rw [dbs_set, List.length_set]
    have e0 : (dbs xs)[i * 4]? = some (.int .i64 (db xs i).w) := dbs_at xs i 0 hi (by decide)
    have e1 : (dbs xs)[i * 4 + 1]? = some (.int .u64 (db xs i).i) := dbs_at xs i 1 hi (by decide)
    have e2 : (dbs xs)[i * 4 + 2]? = some (.int .i64 (db xs i).t) := dbs_at xs i 2 hi (by decide)
    rw [set_same e0, set_same e1, set_same e2]
    exact h3
  · have hz' : Rd w (fun k => some g ≠ some k) z := by
      rcases mem_set hz with hz | rfl
      · exact h.2 z hz
      · exact hy
    exact rd_set hz' rfl _
end
/-- The cells of block b hold x. -/
def Bt (w : World) (b : Nat) (x : Db) : Prop := w.cell? ⟨b, 0, none⟩ = some (.int .i64 x.w) ∧ w.cell? ⟨b, 1, none⟩ = some (.int .u64 x.i) ∧ w.cell? ⟨b, 2, none⟩ = some (.int .i64 x.t) ∧ w.cell? ⟨b, 3, none⟩ = some (.slice x.A x.b.length x.c)
section
variable {w w' : World} {b : Nat} {x : Db}
theorem Bt.lt (h : Bt w b x) : b < w.heap.size := World.block_lt_of_cell? w _ h.1
theorem Bt.on (h : Bt w b x) (hb : Below w.heap.size w w') : Bt w' b x := ⟨(hb.cell h.lt).trans h.1, (hb.cell h.lt).trans h.2.1, (hb.cell h.lt).trans h.2.2.1, (hb.cell h.lt).trans h.2.2.2⟩
theorem Bt.new (w : World) (x : Db) (t : TypeId) : Bt (w.alloc (.cells #[.int .i64 x.w, .int .u64 x.i, .int .i64 x.t, .slice x.A x.b.length x.c] t)) w.heap.size x := ⟨by go_simp, by go_simp, by go_simp, by go_simp⟩
theorem Bt.alloc (h : Bt w b x) (o : Obj) : Bt (w.alloc o) b x := h.on ((Below.refl _ _).alloc (Nat.le_refl _) o)
theorem Bt.ds (h : Bt w b x) (hi : Nat) (hb : b < hi) (hr : Rd w (fun k => k < hi) x) : Ds w hi (some ⟨b, 0, none⟩) [x] := fun j hj => by
  obtain rfl : j = 0 := by simpa using hj
  exact ⟨_, rfl, hb, h, hr⟩
end
theorem ret_int {k : IntKind} {a b : Int} (h : a = b) : Ending.returned (.int k a) = .returned (.int k b) := by rw [h]
theorem cell_on {w w' : World} {a : Addr} {v : Value} (h : w.cell? a = some v) (hb : Below w.heap.size w w') : w'.cell? a = some v := (hb.cell (World.block_lt_of_cell? w _ h)).trans h
/-- OK, or ErrArg. -/
def okE (L : Bool) : Int := if L then 0 else 1
/-- What is still to be walked, held shut: nothing reckons in it. -/
structure Shut (p : Prop) : Prop where
  out : p
end Go.Proofs.Ytknpbbplolncpaa
