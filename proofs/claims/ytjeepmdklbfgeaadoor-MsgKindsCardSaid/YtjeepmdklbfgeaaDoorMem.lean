/-
  What memory holds: what is known of nodes, in a slice, and in a variable.
-/
import Derived.Test.YtjeepmdklbfgeaaDoorRows
import Derived.Test.YtjeepmdklbfgeaaDoorMath
import Derived.Below
import Derived.WalkKit
import Derived.Lib.Hide
import Derived.Deep.Draws
import Derived.IntWalk
import Derived.Deep.RegionHeld3
import Derived.BigQuiet
import Derived.Deep.QuietTactic
import Derived.BigRegion
import Derived.RegionTactic
import Derived.Deep.DeepCutAuto
import Derived.StillTactics
import Derived.StillTailTactics
import Derived.OwnWalk
import Derived.Laws.AppendOwn
import Derived.Laws.OwnMore
import Derived.Maps.AppendAt
import Derived.Lib.SliceRun
import Derived.Lib.QuietBelow
import Derived.Deep.AppendLies
import Derived.Deep.RegionLaw
namespace Go.Proofs.YtjeepmdklbfgeaaDoor
open Go.Sort Go.RowKit Go.Proofs.YtjeepmdklbfgeaaDoor.Pure

theorem block_add (a : Addr) (n : Nat) : (a.add n).block = a.block := by unfold Addr.add; split <;> rfl
theorem add_add (a : Addr) (i j : Nat) : (a.add i).add j = a.add (i + j) := by
  unfold Addr.add
  by_cases hi : i = 0 <;> by_cases hj : j = 0 <;> simp [hi, hj, Nat.add_assoc]

/-- The two cells from a on hold what is known, x. -/
def KAt (w : World) (a : Addr) (x : Kn) : Prop := w.cell? a = some (.int .u64 x.i) ∧ w.cell? (a.add 1) = some (.int .i64 x.s)
/-- The slice that begins at A holds l. -/
def Lst (w : World) (A : Option Addr) (l : List Kn) : Prop := ∀ j, j < l.length → ∃ ad, A = some ad ∧ ad.block < w.heap.size ∧ KAt w (ad.add (j * 2)) (kn l j)
/-- Two cells of block b hold x. -/
def Bx (w : World) (b : Nat) (x : Kn) : Prop := w.cell? ⟨b, 0, none⟩ = some (.int .u64 x.i) ∧ w.cell? ⟨b, 1, none⟩ = some (.int .i64 x.s)
/-- What is known, as a value. -/
def kv (x : Kn) : Value := .agg #[.int .u64 x.i, .int .i64 x.s]

section
variable {w w' : World} {A : Option Addr} {l : List Kn} {a : Addr} {x y z : Kn} {b : Nat}
theorem KAt.flat (h : KAt w a x) : w.cell? a = some (.int .u64 x.i) ∧ w.cell? ⟨a.block, a.off + 1, none⟩ = some (.int .i64 x.s) := h
theorem Lst.on (h : Lst w A l) (hb : Below w.heap.size w w') : Lst w' A l := fun j hj => by
  obtain ⟨ad, e, h1, h2, h3⟩ := h j hj
  have hs := hb.size
  exact ⟨ad, e, by omega, (hb.cell (by rw [block_add]; exact h1)).trans h2, (hb.cell (by rw [block_add, block_add]; exact h1)).trans h3⟩
theorem Lst.drew (h : Lst w A l) : Lst w.drew A l := h
theorem Lst.alloc (h : Lst w A l) (o : Obj) : Lst (w.alloc o) A l := h.on ((Below.refl _ _).alloc (Nat.le_refl _) o)
theorem Lst.take (h : Lst w A l) (k : Nat) : Lst w A (l.take k) := fun j hj => by
  rw [List.length_take] at hj
  obtain ⟨ad, e, h1, h2⟩ := h j (by omega)
  refine ⟨ad, e, h1, ?_⟩
  rw [kn_take l k j (by omega)]
  exact h2
theorem Lst.nil (w : World) (A : Option Addr) : Lst w A [] := fun j hj => absurd hj (by simp)
theorem Bx.lt (h : Bx w b x) : b < w.heap.size := World.block_lt_of_cell? w _ h.1
theorem Bx.on (h : Bx w b x) (hb : Below w.heap.size w w') : Bx w' b x := ⟨(hb.cell h.lt).trans h.1, (hb.cell h.lt).trans h.2⟩
theorem Bx.old {B : Nat} (h : Bx w b x) (hb : Below B w w') (hB : b < B) : Bx w' b x := ⟨(hb.cell hB).trans h.1, (hb.cell hB).trans h.2⟩
theorem Bx.new (w : World) (x : Kn) (t : TypeId) : Bx (w.alloc (.cells #[.int .u64 x.i, .int .i64 x.s] t)) w.heap.size x := ⟨by go_simp, by go_simp⟩
/-- A variable in block b holds x; it may be written. -/
def Vr (w : World) (b : Nat) (x : Kn) : Prop := Bx w b x ∧ ∀ o : Nat, w.frozen? ⟨b, o, none⟩ = false
theorem Vr.lt (h : Vr w b x) : b < w.heap.size := h.1.lt
theorem Vr.on (h : Vr w b x) (hb : Below w.heap.size w w') : Vr w' b x := ⟨h.1.on hb, fun o => (World.frozen?_of_block (a := ⟨b, o, none⟩) (hb.block b h.lt)).trans (h.2 o)⟩
theorem Vr.new (w : World) (x : Kn) (t : TypeId) : Vr (w.alloc (.cells #[.int .u64 x.i, .int .i64 x.s] t)) w.heap.size x := ⟨Bx.new w x t, fun o => World.frozen?_alloc_new w _ _ o⟩
theorem Vr.at_ (h : w.heap.size = b) (x : Kn) (t : TypeId) : Vr (w.alloc (.cells #[.int .u64 x.i, .int .i64 x.s] t)) b x := h ▸ Vr.new w x t
theorem Vr.zero (h : w.heap.size = b) (t : TypeId) : Vr (w.alloc (.cells #[.int .u64 0, .int .i64 0] t)) b z0 := h ▸ Vr.new w z0 t
theorem Vr.alloc (h : Vr w b x) (o : Obj) : Vr (w.alloc o) b x := h.on ((Below.refl _ _).alloc (Nat.le_refl _) o)
theorem Vr.set (h : Vr w b x) (y : Kn) : Vr ((w.setCell ⟨b, 0, none⟩ (.int .u64 y.i)).setCell ⟨b, 1, none⟩ (.int .i64 y.s)) b y := by
  obtain ⟨⟨h0, h1⟩, hf⟩ := h
  exact ⟨⟨by go_simp, by go_simp⟩, fun o => by go_simp⟩
theorem Vr.apart {c : Nat} (h : Vr w b x) (hc : c ≠ b) (y : Kn) : Vr ((w.setCell ⟨c, 0, none⟩ (.int .u64 y.i)).setCell ⟨c, 1, none⟩ (.int .i64 y.s)) b x := by
  obtain ⟨⟨h0, h1⟩, hf⟩ := h
  exact ⟨⟨by go_simp, by go_simp⟩, fun o => by go_simp⟩
theorem Lst.apart {c : Nat} (h : Lst w A l) (hc : ∀ ad, A = some ad → c ≠ ad.block) (y : Kn) : Lst ((w.setCell ⟨c, 0, none⟩ (.int .u64 y.i)).setCell ⟨c, 1, none⟩ (.int .i64 y.s)) A l := fun j hj => by
  obtain ⟨ad, rfl, h1, h2, h3⟩ := h j hj
  have := hc ad rfl
  have n2 : c ≠ (ad.add (j * 2)).block := by rw [block_add]; exact this
  have n3 : c ≠ ((ad.add (j * 2)).add 1).block := by rw [block_add]; exact n2
  refine ⟨ad, rfl, by simpa using h1, ?_, ?_⟩
  · rw [World.cell?_setCell_other _ _ _ _ (fun e => n2 (by rw [← e])), World.cell?_setCell_other _ _ _ _ (fun e => n2 (by rw [← e]))]; exact h2
  · rw [World.cell?_setCell_other _ _ _ _ (fun e => n3 (by rw [← e])), World.cell?_setCell_other _ _ _ _ (fun e => n3 (by rw [← e]))]; exact h3
/-- A slice of one, of two, and of three, laid anew. -/
theorem Lst.one (w : World) (x : Kn) (t : TypeId) : Lst (w.alloc (.cells #[.int .u64 x.i, .int .i64 x.s] t)) (some ⟨w.heap.size, 0, none⟩) [x] := by
  intro j hj
  refine ⟨_, rfl, by simp, ?_⟩
  match j, hj with
  | 0, _ => exact ⟨by go_simp; simp [kn], by go_simp; simp [kn]⟩
theorem Lst.two (w : World) (x y : Kn) (t : TypeId) : Lst (w.alloc (.cells #[.int .u64 x.i, .int .i64 x.s, .int .u64 y.i, .int .i64 y.s] t)) (some ⟨w.heap.size, 0, none⟩) [x, y] := by
  intro j hj
  refine ⟨_, rfl, by simp, ?_⟩
  match j, hj with
  | 0, _ => exact ⟨by go_simp; simp [kn], by go_simp; simp [kn]⟩
  | 1, _ => exact ⟨by go_simp; simp [kn], by go_simp; simp [kn]⟩
theorem Lst.three (w : World) (x y z : Kn) (t : TypeId) : Lst (w.alloc (.cells #[.int .u64 x.i, .int .i64 x.s, .int .u64 y.i, .int .i64 y.s, .int .u64 z.i, .int .i64 z.s] t)) (some ⟨w.heap.size, 0, none⟩) [x, y, z] := by
  intro j hj
  refine ⟨_, rfl, by simp, ?_⟩
  match j, hj with
  | 0, _ => exact ⟨by go_simp; simp [kn], by go_simp; simp [kn]⟩
  | 1, _ => exact ⟨by go_simp; simp [kn], by go_simp; simp [kn]⟩
  | 2, _ => exact ⟨by go_simp; simp [kn], by go_simp; simp [kn]⟩
end

theorem ret_bool {a b : Bool} (h : a = b) : Ending.returned (.bool a) = .returned (.bool b) := by rw [h]
theorem below_drewN {B : Nat} {a w : World} (h : Below B a w) (n : Nat) : Below B a (w.drewN n) := h.trans ⟨rfl, rfl, rfl, Nat.le_refl _, fun _ _ => rfl⟩
theorem ret_int {k : IntKind} {a b : Int} (h : a = b) : Ending.returned (.int k a) = .returned (.int k b) := by rw [h]
/-- What was there is as it was. -/
theorem old {W w1 : World} (hb : Below W.heap.size W w1) : (∀ b o, b < W.heap.size → w1.cell? ⟨b, o, none⟩ = W.cell? ⟨b, o, none⟩) ∧ (∀ b o, b < W.heap.size → w1.frozen? ⟨b, o, none⟩ = W.frozen? ⟨b, o, none⟩) :=
  ⟨fun b _ h => World.cell?_of_block (hb.block b h), fun b _ h => World.frozen?_of_block (hb.block b h)⟩
/-- OK, or ErrArg. -/
def okE (L : Bool) : Int := if L then 0 else 1

/-! ### regions that read, beside calls that make memory -/
/-- What is still to be walked, held shut: nothing reckons in it. -/
structure Shut (p : Prop) : Prop where
  out : p
theorem q_enter {P : Program} {id : Nat} {Q : Exit → Act → World → Prop} {a : Act} {w : World} {l : List Oper} (hm : P.follows .mixedOrders = true) (hB : Region.lexB .any l.toArray = true)
    (h : Shut (wpQuiet P l.toArray (fun w' => ∃ p : Regrown, w' = grow (redrawn w p.d) p.os) (fun a' => ∀ w', Below w.heap.size w w' → Q .normal a' w') l a)) : (Code.region id l.toArray true).wp P Q a w :=
  wp_region_quiet (C := fun w' => ∃ p : Regrown, w' = grow (redrawn w p.d) p.os) hm hB ⟨⟨w.drawn + 1, #[]⟩, by rw [grow_empty]; rfl⟩ (by
    have h' := h.out
    have : (fun a' => ∀ w', Below w.heap.size w w' → Q .normal a' w') = fun a' => ∀ w', (∃ p : Regrown, w' = grow (redrawn w p.d) p.os) → Q .normal a' w' := by
      funext a'
      apply propext
      exact ⟨fun h w' ⟨p, e⟩ => h w' (by rw [e]; exact below_regrown w p.d p.os), fun h w' hb => h w' (regrown_of_below hb)⟩
    rw [this] at h'
    simpa using h')
theorem q_step {P : Program} {ops : Array Oper} {C : World → Prop} {Q : Act → Prop} {a : Act} {o : Oper} {rest : List Oper}
    (h : ∀ K : Act → Prop, (∀ a, Shut (wpQuiet P ops C Q rest a) → K a) → if Region.wanted o (yielded ops a.tmps) then o.quiet P a C K else K (a.put o.dst undef)) : Shut (wpQuiet P ops C Q (o :: rest) a) :=
  ⟨wpQuiet_step fun K hK => h K fun a ha => hK a ha.out⟩
theorem q_nil {P : Program} {ops : Array Oper} {C : World → Prop} {Q : Act → Prop} {a : Act} (h : Q a) : Shut (wpQuiet P ops C Q [] a) := ⟨wpQuiet_nil h⟩
end Go.Proofs.YtjeepmdklbfgeaaDoor
