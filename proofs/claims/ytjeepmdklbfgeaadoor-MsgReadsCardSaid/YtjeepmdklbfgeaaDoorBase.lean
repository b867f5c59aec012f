/-
  Slices of the call's own: of what is known, and of nodes; the library's Clone.
-/
import Derived.Test.YtjeepmdklbfgeaaDoorRows
import Derived.Test.YtjeepmdklbfgeaaDoorPlain
import Derived.Below
import Derived.WalkKit
import Derived.Lib.Hide
import Derived.Deep.Draws
import Derived.IntWalk
import Derived.Deep.RegionHeld3
import Derived.BigQuiet
import Derived.Deep.QuietTactic
import Derived.BigRegion
import Derived.RegionTactic
import Derived.Deep.DeepCutAuto
import Derived.StillTactics
import Derived.StillTailTactics
import Derived.OwnWalk
import Derived.Laws.AppendOwn
import Derived.Laws.OwnMore
import Derived.Maps.AppendAt
import Derived.Lib.SliceRun
import Derived.Lib.QuietBelow
import Derived.Deep.AppendLies
import Derived.Deep.RegionLaw
namespace Go.Proofs.YtjeepmdklbfgeaaDoor
open Go.Sort Go.RowKit Go.Proofs.YtjeepmdklbfgeaaDoor.Pure

theorem block_add (a : Addr) (n : Nat) : (a.add n).block = a.block := by unfold Addr.add; split <;> rfl
theorem add_add (a : Addr) (i j : Nat) : (a.add i).add j = a.add (i + j) := by
  unfold Addr.add
  by_cases hi : i = 0 <;> by_cases hj : j = 0 <;> simp [hi, hj, Nat.add_assoc]

/-- The two cells from a on hold what is known, x. -/
def KAt (w : World) (a : Addr) (x : Kn) : Prop := w.cell? a = some (.int .u64 x.i) ∧ w.cell? (a.add 1) = some (.int .i64 x.s)
/-- The slice that begins at A holds l. -/
def Lst (w : World) (A : Option Addr) (l : List Kn) : Prop := ∀ j, j < l.length → ∃ ad, A = some ad ∧ ad.block < w.heap.size ∧ KAt w (ad.add (j * 2)) (kn l j)
/-- Two cells of block b hold x. -/
def Bx (w : World) (b : Nat) (x : Kn) : Prop := w.cell? ⟨b, 0, none⟩ = some (.int .u64 x.i) ∧ w.cell? ⟨b, 1, none⟩ = some (.int .i64 x.s)
/-- What is known, as a value. -/
def kv (x : Kn) : Value := .agg #[.int .u64 x.i, .int .i64 x.s]

section
variable {w w' : World} {A : Option Addr} {l : List Kn} {a : Addr} {x y z : Kn} {b : Nat}
theorem KAt.flat (h : KAt w a x) : w.cell? a = some (.int .u64 x.i) ∧ w.cell? ⟨a.block, a.off + 1, none⟩ = some (.int .i64 x.s) := h
theorem Lst.on (h : Lst w A l) (hb : Below w.heap.size w w') : Lst w' A l := fun j hj => by
  obtain ⟨ad, e, h1, h2, h3⟩ := h j hj
  have hs := hb.size
  exact ⟨ad, e, by omega, (hb.cell (by rw [block_add]; exact h1)).trans h2, (hb.cell (by rw [block_add, block_add]; exact h1)).trans h3⟩
theorem Lst.drew (h : Lst w A l) : Lst w.drew A l := h
theorem Lst.alloc (h : Lst w A l) (o : Obj) : Lst (w.alloc o) A l := h.on ((Below.refl _ _).alloc (Nat.le_refl _) o)
theorem Lst.take (h : Lst w A l) (k : Nat) : Lst w A (l.take k) := fun j hj => by
  rw [List.length_take] at hj
  obtain ⟨ad, e, h1, h2⟩ := h j (by omega)
  refine ⟨ad, e, h1, ?_⟩
  rw [kn_take l k j (by omega)]
  exact h2
theorem Lst.nil (w : World) (A : Option Addr) : Lst w A [] := fun j hj => absurd hj (by simp)
theorem Bx.lt (h : Bx w b x) : b < w.heap.size := World.block_lt_of_cell? w _ h.1
theorem Bx.on (h : Bx w b x) (hb : Below w.heap.size w w') : Bx w' b x := ⟨(hb.cell h.lt).trans h.1, (hb.cell h.lt).trans h.2⟩
theorem Bx.old {B : Nat} (h : Bx w b x) (hb : Below B w w') (hB : b < B) : Bx w' b x := ⟨(hb.cell hB).trans h.1, (hb.cell hB).trans h.2⟩
theorem Bx.new (w : World) (x : Kn) (t : TypeId) : Bx (w.alloc (.cells #[.int .u64 x.i, .int .i64 x.s] t)) w.heap.size x := ⟨by go_simp, by go_simp⟩
/-- A variable in block b holds x; it may be written. -/
def Vr (w : World) (b : Nat) (x : Kn) : Prop := Bx w b x ∧ ∀ o : Nat, w.frozen? ⟨b, o, none⟩ = false
theorem Vr.lt (h : Vr w b x) : b < w.heap.size := h.1.lt
theorem Vr.on (h : Vr w b x) (hb : Below w.heap.size w w') : Vr w' b x := ⟨h.1.on hb, fun o => (World.frozen?_of_block (a := ⟨b, o, none⟩) (hb.block b h.lt)).trans (h.2 o)⟩
theorem Vr.new (w : World) (x : Kn) (t : TypeId) : Vr (w.alloc (.cells #[.int .u64 x.i, .int .i64 x.s] t)) w.heap.size x := ⟨Bx.new w x t, fun o => World.frozen?_alloc_new w _ _ o⟩
theorem Vr.at_ (h : w.heap.size = b) (x : Kn) (t : TypeId) : Vr (w.alloc (.cells #[.int .u64 x.i, .int .i64 x.s] t)) b x := h ▸ Vr.new w x t
theorem Vr.zero (h : w.heap.size = b) (t : TypeId) : Vr (w.alloc (.cells #[.int .u64 0, .int .i64 0] t)) b z0 := h ▸ Vr.new w z0 t
theorem Vr.alloc (h : Vr w b x) (o : Obj) : Vr (w.alloc o) b x := h.on ((Below.refl _ _).alloc (Nat.le_refl _) o)
theorem Vr.set (h : Vr w b x) (y : Kn) : Vr ((w.setCell ⟨b, 0, none⟩ (.int .u64 y.i)).setCell ⟨b, 1, none⟩ (.int .i64 y.s)) b y := by
  obtain ⟨⟨h0, h1⟩, hf⟩ := h
  exact ⟨⟨by go_simp, by go_simp⟩, fun o => by go_simp⟩
theorem Vr.apart {c : Nat} (h : Vr w b x) (hc : c ≠ b) (y : Kn) : Vr ((w.setCell ⟨c, 0, none⟩ (.int .u64 y.i)).setCell ⟨c, 1, none⟩ (.int .i64 y.s)) b x := by
  obtain ⟨⟨h0, h1⟩, hf⟩ := h
  exact ⟨⟨by go_simp, by go_simp⟩, fun o => by go_simp⟩
theorem Lst.apart {c : Nat} (h : Lst w A l) (hc : ∀ ad, A = some ad → c ≠ ad.block) (y : Kn) : Lst ((w.setCell ⟨c, 0, none⟩ (.int .u64 y.i)).setCell ⟨c, 1, none⟩ (.int .i64 y.s)) A l := fun j hj => by
  obtain ⟨ad, rfl, h1, h2, h3⟩ := h j hj
  have := hc ad rfl
  have n2 : c ≠ (ad.add (j * 2)).block := by rw [block_add]; exact this
  have n3 : c ≠ ((ad.add (j * 2)).add 1).block := by rw [block_add]; exact n2
  refine ⟨ad, rfl, by simpa using h1, ?_, ?_⟩
  · rw [World.cell?_setCell_other _ _ _ _ (fun e => n2 (by rw [← e])), World.cell?_setCell_other _ _ _ _ (fun e => n2 (by rw [← e]))]; exact h2
  · rw [World.cell?_setCell_other _ _ _ _ (fun e => n3 (by rw [← e])), World.cell?_setCell_other _ _ _ _ (fun e => n3 (by rw [← e]))]; exact h3
/-- A slice of one, of two, and of three, laid anew. -/
theorem Lst.one (w : World) (x : Kn) (t : TypeId) : Lst (w.alloc (.cells #[.int .u64 x.i, .int .i64 x.s] t)) (some ⟨w.heap.size, 0, none⟩) [x] := by
  intro j hj
  refine ⟨_, rfl, by simp, ?_⟩
  match j, hj with
  | 0, _ => exact ⟨by go_simp; simp [kn], by go_simp; simp [kn]⟩
theorem Lst.two (w : World) (x y : Kn) (t : TypeId) : Lst (w.alloc (.cells #[.int .u64 x.i, .int .i64 x.s, .int .u64 y.i, .int .i64 y.s] t)) (some ⟨w.heap.size, 0, none⟩) [x, y] := by
  intro j hj
  refine ⟨_, rfl, by simp, ?_⟩
  match j, hj with
  | 0, _ => exact ⟨by go_simp; simp [kn], by go_simp; simp [kn]⟩
  | 1, _ => exact ⟨by go_simp; simp [kn], by go_simp; simp [kn]⟩
theorem Lst.three (w : World) (x y z : Kn) (t : TypeId) : Lst (w.alloc (.cells #[.int .u64 x.i, .int .i64 x.s, .int .u64 y.i, .int .i64 y.s, .int .u64 z.i, .int .i64 z.s] t)) (some ⟨w.heap.size, 0, none⟩) [x, y, z] := by
  intro j hj
  refine ⟨_, rfl, by simp, ?_⟩
  match j, hj with
  | 0, _ => exact ⟨by go_simp; simp [kn], by go_simp; simp [kn]⟩
  | 1, _ => exact ⟨by go_simp; simp [kn], by go_simp; simp [kn]⟩
  | 2, _ => exact ⟨by go_simp; simp [kn], by go_simp; simp [kn]⟩
end

theorem ret_bool {a b : Bool} (h : a = b) : Ending.returned (.bool a) = .returned (.bool b) := by rw [h]
theorem below_drewN {B : Nat} {a w : World} (h : Below B a w) (n : Nat) : Below B a (w.drewN n) := h.trans ⟨rfl, rfl, rfl, Nat.le_refl _, fun _ _ => rfl⟩
theorem ret_int {k : IntKind} {a b : Int} (h : a = b) : Ending.returned (.int k a) = .returned (.int k b) := by rw [h]
/-- What was there is as it was. -/
theorem old {W w1 : World} (hb : Below W.heap.size W w1) : (∀ b o, b < W.heap.size → w1.cell? ⟨b, o, none⟩ = W.cell? ⟨b, o, none⟩) ∧ (∀ b o, b < W.heap.size → w1.frozen? ⟨b, o, none⟩ = W.frozen? ⟨b, o, none⟩) :=
  ⟨fun b _ h => World.cell?_of_block (hb.block b h), fun b _ h => World.frozen?_of_block (hb.block b h)⟩
/-- OK, or ErrArg. -/
def okE (L : Bool) : Int := if L then 0 else 1

/-! ### regions that read, beside calls that make memory -/
/-- What is still to be walked, held shut: nothing reckons in it. -/
structure Shut (p : Prop) : Prop where
  out : p
theorem q_enter {P : Program} {id : Nat} {Q : Exit → Act → World → Prop} {a : Act} {w : World} {l : List Oper} (hm : P.follows .mixedOrders = true) (hB : Region.lexB .any l.toArray = true)
    (h : Shut (wpQuiet P l.toArray (fun w' => ∃ p : Regrown, w' = grow (redrawn w p.d) p.os) (fun a' => ∀ w', Below w.heap.size w w' → Q .normal a' w') l a)) : (Code.region id l.toArray true).wp P Q a w :=
  wp_region_quiet (C := fun w' => ∃ p : Regrown, w' = grow (redrawn w p.d) p.os) hm hB ⟨⟨w.drawn + 1, #[]⟩, by rw [grow_empty]; rfl⟩ (by
    have h' := h.out
    have : (fun a' => ∀ w', Below w.heap.size w w' → Q .normal a' w') = fun a' => ∀ w', (∃ p : Regrown, w' = grow (redrawn w p.d) p.os) → Q .normal a' w' := by
      funext a'
      apply propext
      exact ⟨fun h w' ⟨p, e⟩ => h w' (by rw [e]; exact below_regrown w p.d p.os), fun h w' hb => h w' (regrown_of_below hb)⟩
    rw [this] at h'
    simpa using h')
theorem q_step {P : Program} {ops : Array Oper} {C : World → Prop} {Q : Act → Prop} {a : Act} {o : Oper} {rest : List Oper}
    (h : ∀ K : Act → Prop, (∀ a, Shut (wpQuiet P ops C Q rest a) → K a) → if Region.wanted o (yielded ops a.tmps) then o.quiet P a C K else K (a.put o.dst undef)) : Shut (wpQuiet P ops C Q (o :: rest) a) :=
  ⟨wpQuiet_step fun K hK => h K fun a ha => hK a ha.out⟩
theorem q_nil {P : Program} {ops : Array Oper} {C : World → Prop} {Q : Act → Prop} {a : Act} (h : Q a) : Shut (wpQuiet P ops C Q [] a) := ⟨wpQuiet_nil h⟩
end Go.Proofs.YtjeepmdklbfgeaaDoor

namespace Go.Proofs.YtjeepmdklbfgeaaDoor
open Go.Sort Go.RowKit

/-- Operation o, at place i, waits for, and asks, what stands ahead of it alone. -/
def backB (i : Nat) (o : Oper) : Bool := (o.after.all fun e => !Region.binds .any e || decide (e.on < i)) && (match o.guard with | some (g, _) => decide (g < i) | none => true)
def backsB : Nat → List Oper → Bool
  | _, [] => true
  | i, o :: r => backB i o && backsB (i + 1) r
theorem backsB_at : ∀ (l : List Oper) (k i : Nat) (o : Oper), backsB k l = true → l[i]? = some o → backB (k + i) o = true
  | [], _, _, _, _, h => by simp at h
  | x :: r, k, 0, o, hb, h => by
    simp [backsB] at hb h
    subst h
    exact hb.1
  | x :: r, k, i + 1, o, hb, h => by
    simp [backsB] at hb h
    have := backsB_at r (k + 1) i o hb.2 h
    rwa [show k + 1 + i = k + (i + 1) by omega] at this
/-- The last one waits for all. -/
def lastB (l : List Oper) (s : Oper) : Bool :=
  Region.lexB .any l.toArray && backsB 0 l && ((List.range l.length).all fun i => s.after.any fun e => Region.binds .any e && e.on == i) &&
  decide (Region.ready .any (l ++ [s]).toArray ((Array.replicate l.length true).push false) = [l.length]) && decide (Region.ready .any (l ++ [s]).toArray ((Array.replicate l.length true).push true) = [])

section
variable {P : Program} {C : World → Prop} {l : List Oper} {s : Oper}

theorem getD_push_in {A : Array Bool} {i : Nat} (h : i < A.size) (d u : Bool) : (A.push u).getD i d = A.getD i d := by
  simp [Array.getElem?_push, h, Nat.ne_of_lt h]
theorem getD_push_false (A : Array Bool) (i : Nat) : (A.push false).getD i false = A.getD i false := by
  rcases Nat.lt_trichotomy i A.size with h | h | h
  · exact getD_push_in h _ _
  · subst h; simp
  · have h1 : (A.push false)[i]? = none := Array.getElem?_eq_none (by simp; omega)
    have h2 : A[i]? = none := Array.getElem?_eq_none (by omega)
    simp [h1, h2]
theorem set_push {A : Array Bool} {i : Nat} (h : i < A.size) (u : Bool) : (A.push u).setIfInBounds i true = (A.setIfInBounds i true).push u := by
  apply Array.ext_getElem?
  intro j
  rw [Array.getElem?_setIfInBounds]
  simp only [Array.getElem?_push, Array.size_push, Array.size_setIfInBounds, Array.getElem?_setIfInBounds]
  by_cases hij : i = j
  · subst hij
    simp [h, Nat.ne_of_lt h, show i < A.size + 1 by omega]
  · simp [hij]
theorem front_at {i : Nat} (h : i < l.length) : (l ++ [s]).toArray[i]? = l.toArray[i]? := by simp [List.getElem?_append_left h]
theorem ready_front {A : Array Bool} (hA : A.size = l.length) {i : Nat} (hi : i < l.length) : i ∈ Region.ready .any (l ++ [s]).toArray (A.push false) ↔ i ∈ Region.ready .any l.toArray A := by
  rw [mem_ready, mem_ready, front_at hi, getD_push_in (by omega)]
  simp only [getD_push_false]

theorem last_any {Q : Act → Prop} {Q' : Exit → Act → World → Prop} (hB : lastB l s = true)
    (hQ : ∀ a w, C w → Q a → wpOp P (l ++ [s]).toArray Q' l.length (fun a w => Q' .normal a w) a w) :
    ∀ (f : Nat) (A : Array Bool) (a : Act) (w : World), A.size = l.length → A.toList.count false = f → C w → wpAnyQ P .any l.toArray C Q f A a → wpAny P .any (l ++ [s]).toArray Q' (f + 1) (A.push false) a w := by
  simp only [lastB, Bool.and_eq_true, decide_eq_true_eq] at hB
  obtain ⟨⟨⟨⟨_, hback⟩, hall⟩, hr1⟩, hr2⟩ := hB
  have full : ∀ A : Array Bool, A.size = l.length → A.toList.count false = 0 → A = Array.replicate l.length true := by
    intro A hA hc
    apply Array.ext_getElem?
    intro j
    have hm : false ∉ A.toList := List.count_eq_zero.1 hc
    rcases Nat.lt_or_ge j A.size with h | h
    · rcases hu : A[j] with _ | _
      · exact absurd (by rw [← hu]; simp) hm
      · rw [Array.getElem?_eq_getElem h, hu, Array.getElem?_replicate, if_pos (by omega)]
    · rw [Array.getElem?_eq_none h, Array.getElem?_eq_none (by simp; omega)]
  intro f
  induction f with
  | zero =>
    intro A a w hA hc hw h
    obtain rfl := full A hA hc
    refine ⟨fun h0 => (by rw [hr1] at h0; cases h0), fun i hi => ?_⟩
    rw [hr1] at hi
    obtain rfl : i = l.length := by simpa using hi
    refine wpOp_mono (fun a' w' h' => ?_) (hQ a w hw h.2)
    have e : ((Array.replicate l.length true).push false).setIfInBounds l.length true = (Array.replicate l.length true).push true := by
      apply Array.ext_getElem?
      intro j
      rw [Array.getElem?_setIfInBounds]
      simp only [Array.getElem?_push, Array.size_push, Array.size_replicate]
      by_cases hij : l.length = j
      · subst hij; simp
      · simp [hij, Ne.symm hij]
    rw [e]
    exact ⟨hr2, h'⟩
  | succ f ih =>
    intro A a w hA hc hw h
    obtain ⟨j0, hj0, hf0, hmin⟩ : ∃ j, j < l.length ∧ A.getD j true = false ∧ ∀ i, i < j → A.getD i false = true := by
      have hm : false ∈ A.toList := List.count_pos_iff.1 (by omega)
      obtain ⟨j, hj, e⟩ := List.getElem_of_mem hm
      have hex : ∃ j, j < l.length ∧ A.getD j true = false := ⟨j, by simpa [hA] using hj, by simp at hj; simp [hj]; simpa using e⟩
      clear hj e
      have key : ∀ k, (∃ j, j < k ∧ j < l.length ∧ A.getD j true = false) → ∃ j, j < l.length ∧ A.getD j true = false ∧ ∀ i, i < j → A.getD i false = true := by
        intro k
        induction k with
        | zero => rintro ⟨j, h, _⟩; omega
        | succ k ihk =>
          rintro ⟨j, h1, h2, h3⟩
          by_cases hk : ∃ j, j < k ∧ j < l.length ∧ A.getD j true = false
          · exact ihk hk
          · refine ⟨j, h2, h3, fun i hi => ?_⟩
            have hiA : i < A.size := by omega
            rcases hu : A.getD i true with _ | _
            · exact absurd ⟨i, by omega, by omega, hu⟩ hk
            · simp [hiA] at hu ⊢; exact hu
      obtain ⟨j, h1, h2⟩ := hex
      exact key (j + 1) ⟨j, by omega, h1, h2⟩
    have hj0r : j0 ∈ Region.ready .any l.toArray A := by
      rw [mem_ready]
      refine ⟨hf0, l[j0], by simp [hj0], fun e he hb => hmin _ ?_⟩
      have := backsB_at l 0 j0 l[j0] hback (by simp [hj0])
      simp only [backB, Bool.and_eq_true, Array.all_eq_true_iff_forall_mem] at this
      have h2 := this.1 e he
      simp [hb] at h2
      omega
    refine ⟨fun h0 => ?_, fun i hi => ?_⟩
    · have := (ready_front (s := s) hA hj0).2 hj0r
      rw [h0] at this
      cases this
    · have hil : i < l.length := by
        rcases Nat.lt_or_ge i l.length with h' | h'
        · exact h'
        · obtain ⟨_, o, ho, hao⟩ := mem_ready.1 hi
          have hlt : i < (l ++ [s]).toArray.size := (Array.getElem?_eq_some_iff.1 ho).1
          obtain rfl : i = l.length := by simp at hlt; omega
          have hos : s = o := by simpa using ho
          subst hos
          have h1 := List.all_eq_true.1 hall j0 (List.mem_range.2 hj0)
          obtain ⟨e, he, hb⟩ := Array.any_eq_true'.1 h1
          simp only [Bool.and_eq_true, beq_iff_eq] at hb
          have h2 := hao e he hb.1
          rw [hb.2, getD_push_false, getD_both hf0] at h2
          cases h2
      have hir := (ready_front hA hil).1 hi
      have hq := h.2 i hir
      have hiA : i < A.size := by omega
      rw [set_push hiA]
      have hun := (mem_ready.1 hir).1
      have hcf : (A.setIfInBounds i true).toList.count false = f := by
        have h3 : A.toList[i]'(by simpa using hiA) = false := by simp [hiA] at hun; simpa using hun
        rw [Array.toList_setIfInBounds, List.count_set (by simpa using hiA), h3, hc]
        rfl
      unfold qOp at hq
      unfold wpOp
      rw [front_at hil]
      have hio : l.toArray[i]? = some l[i] := by simp [hil]
      rw [hio] at hq ⊢
      simp only at hq ⊢
      have hwt : Region.wanted l[i] (yielded (l ++ [s]).toArray a.tmps) = Region.wanted l[i] (yielded l.toArray a.tmps) := by
        have := backsB_at l 0 i l[i] hback (by simp [hil])
        simp only [backB, Bool.and_eq_true] at this
        have h2 := this.2
        unfold Region.wanted
        rcases hg : l[i].guard with _ | ⟨g, b⟩
        · rfl
        · rw [hg] at h2
          simp at h2
          simp only [yielded]
          rw [front_at (by omega)]
      rw [hwt]
      have step : ∀ a' w', C w' → wpAnyQ P .any l.toArray C Q f (A.setIfInBounds i true) a' → wpAny P .any (l ++ [s]).toArray Q' (f + 1) ((A.setIfInBounds i true).push false) a' w' :=
        fun a' w' hw' h' => ih _ a' w' (by simp [hA]) hcf hw' h'
      split
      · rename_i hw1
        rw [if_pos hw1] at hq
        exact .inl (Oper.wp_of_quiet hw step hq)
      · rename_i hw1
        rw [if_neg hw1] at hq
        exact step _ _ hw hq

/-- The region, entered. -/
theorem t_enter {id : Nat} {Q : Exit → Act → World → Prop} {a : Act} {w : World} (l : List Oper) (s : Oper) (hm : P.follows .mixedOrders = true) (hB : lastB l s = true)
    (h : Shut (wpQuiet P l.toArray (fun w' => ∃ p : Regrown, w' = grow (redrawn w p.d) p.os) (fun a' => ∀ w', Below w.heap.size w w' → wpList P (l ++ [s]).toArray Q [s] a' w') l a)) : (Code.region id (l ++ [s]).toArray true).wp P Q a w := by
  have hB' := hB
  simp only [lastB, Bool.and_eq_true] at hB'
  have hlex := hB'.1.1.1.1
  simp only [Region.lexB, Bool.and_eq_true] at hlex
  have hq := wpAnyQ_lex (C := fun w' => ∃ p : Regrown, w' = grow (redrawn w p.d) p.os) (md := .any) hlex.1 l 0 (Array.replicate l.length false) a (by simp) (by simpa using hlex.2) h.out
  refine wp_region_any hm ?_
  have hrep : Array.replicate (l ++ [s]).toArray.size false = (Array.replicate l.length false).push false := by simp [Array.replicate_succ]
  rw [hrep, show (l ++ [s]).toArray.size = l.length + 1 by simp]
  refine last_any hB (fun a' w' hw' h' => ?_) l.length _ a _ (by simp) (by simp) ⟨⟨w.drawn + 1, #[]⟩, by rw [grow_empty]; rfl⟩ hq
  obtain ⟨p, rfl⟩ := hw'
  have := h' _ (below_regrown w p.d p.os)
  unfold wpOp
  simp only [show (l ++ [s]).toArray[l.length]? = some s by simp]
  exact this

/-- The same, of a region as it is written: n operations, and one. -/
def tailB (L : List Oper) (n : Nat) : Bool := match L.drop n with | [s] => lastB (L.take n) s | _ => false
theorem tail_one (l : List Oper) : ∀ r : List Oper, (match r with | [s] => lastB l s | _ => false) = true → ∃ s, r = [s] ∧ lastB l s = true
  | [], h => by cases h
  | [s], h => ⟨s, rfl, h⟩
  | _ :: _ :: _, h => by cases h
theorem t_region {id : Nat} {Q : Exit → Act → World → Prop} {a : Act} {w : World} {L : List Oper} (n : Nat) (hm : P.follows .mixedOrders = true) (hB : tailB L n = true)
    (h : Shut (wpQuiet P (L.take n).toArray (fun w' => ∃ p : Regrown, w' = grow (redrawn w p.d) p.os) (fun a' => ∀ w', Below w.heap.size w w' → wpList P L.toArray Q (L.drop n) a' w') (L.take n) a)) : (Code.region id L.toArray true).wp P Q a w := by
  obtain ⟨s, hs, hl⟩ := tail_one (L.take n) (L.drop n) hB
  have hL : L.take n ++ [s] = L := by rw [← hs]; exact List.take_append_drop n L
  have := t_enter (P := P) (id := id) (Q := Q) (a := a) (w := w) (L.take n) s hm hl (by rw [hL, ← hs]; exact h)
  rwa [hL] at this
end
end Go.Proofs.YtjeepmdklbfgeaaDoor

namespace Go.Proofs.YtjeepmdklbfgeaaDoor
open Go.Sort Go.RowKit

/-- Is this order one that may be walked: (i, true): number i only reads, and nobody else touches its temporary; (i, false): nobody else may come now. -/
def seqB (ops : Array Oper) : List (Nat × Bool) → Array Bool → Bool
  | [], listed => decide (Region.ready .any ops listed = [])
  | (i, true) :: r, listed => (Region.ready .any ops listed).contains i && Region.free .any ops listed i && seqB ops r (listed.setIfInBounds i true)
  | (i, false) :: r, listed => decide (Region.ready .any ops listed = [i]) && seqB ops r (listed.setIfInBounds i true)
/-- The operations in that order. -/
def pickL (l : List Oper) : List (Nat × Bool) → List (Bool × Oper)
  | [] => []
  | (i, b) :: r => match l.drop i with
    | o :: _ => (b, o) :: pickL l r
    | [] => pickL l r

section
variable {P : Program} {ops : Array Oper} {Q : Exit → Act → World → Prop} {S : World → Prop}
/-- The walk. -/
def wpSeq (P : Program) (ops : Array Oper) (Q : Exit → Act → World → Prop) (S : World → Prop) : List (Bool × Oper) → Act → World → Prop
  | [], a, w => Q .normal a w
  | (true, o) :: r, a, w => ∃ v, YieldsIf P ops S o v a ∧ wpSeq P ops Q S r (a.put o.dst v) w
  | (false, o) :: r, a, w => if Region.wanted o (yielded ops a.tmps) = true then Oper.wp P o a w (fun a' w' => S w' ∧ wpSeq P ops Q S r a' w') Q else wpSeq P ops Q S r (a.put o.dst undef) w

theorem seq_held {l : List Oper} (hops : ops = l.toArray) (hsel : Region.noSelect ops = true) (hQ : ∀ c a d v w, Q (.panic c) (a.put d v) w → Q (.panic c) a w) :
    ∀ (p : List (Nat × Bool)) (listed : Array Bool) (a : Act) (w : World), seqB ops p listed = true → S w → wpSeq P ops Q S (pickL l p) a w → wpAnyH P .any ops Q S p.length listed a w := by
  intro p
  induction p with
  | nil => exact fun listed a w hB _ h => wpAnyH_done (by simpa [seqB] using hB) h _
  | cons x r ih =>
    obtain ⟨i, b⟩ := x
    intro listed a w hB hS h
    have hex : i ∈ Region.ready .any ops listed → ∃ o rest, l.drop i = o :: rest ∧ ops[i]? = some o := fun hi => by
      obtain ⟨_, o, ho, _⟩ := mem_ready.1 hi
      have ho' : l[i]? = some o := by rw [hops] at ho; simpa using ho
      obtain ⟨hlt, e⟩ := List.getElem?_eq_some_iff.1 ho'
      exact ⟨o, l.drop (i + 1), by rw [List.drop_eq_getElem_cons hlt, e], ho⟩
    cases b with
    | true =>
      simp only [seqB, Bool.and_eq_true] at hB
      obtain ⟨o, rest, hd, ho⟩ := hex (by simpa using hB.1.1)
      simp only [pickL, hd] at h
      obtain ⟨v, hy, h'⟩ := h
      exact wpAnyH_take ho hsel hB.1.2 hB.1.1 (fun c a w => hQ c a _ _ w) hy hS (ih _ _ _ hB.2 hS h')
    | false =>
      simp only [seqB, Bool.and_eq_true, decide_eq_true_eq] at hB
      obtain ⟨o, rest, hd, ho⟩ := hex (by rw [hB.1]; simp)
      simp only [pickL, hd] at h
      refine wpAnyH_all hB.1 (by simp) fun j hj => ?_
      obtain rfl : j = i := by simpa using hj
      unfold wpOp
      rw [ho]
      simp only [wpSeq] at h
      simp only
      split
      · rename_i hw
        rw [if_pos hw] at h
        exact .inl (Oper.wp_mono (fun a1 w1 h1 => ⟨h1.1, ih _ _ _ hB.2 h1.1 h1.2⟩) h)
      · rename_i hw
        rw [if_neg hw] at h
        exact ⟨hS, ih _ _ _ hB.2 hS h⟩

/-- The region, entered: an order of its operations, and what the worlds on the way meet. -/
theorem z_enter {id : Nat} {a : Act} {w : World} {l : List Oper} (p : List (Nat × Bool)) (S : World → Prop) (hm : P.follows .mixedOrders = true) (hsel : Region.noSelect l.toArray = true)
    (hB : (decide (p.length = l.length) && seqB l.toArray p (Array.replicate l.length false)) = true) (hQ : ∀ c a d v w, Q (.panic c) (a.put d v) w → Q (.panic c) a w) (hS : S w.drew)
    (h : Shut (wpSeq P l.toArray Q S (pickL l p) a w.drew)) : (Code.region id l.toArray true).wp P Q a w := by
  simp only [Bool.and_eq_true, decide_eq_true_eq] at hB
  refine wp_region_held (S := S) hm ?_
  have := seq_held (P := P) (Q := Q) (S := S) (l := l) rfl hsel hQ p (Array.replicate l.length false) a w.drew hB.2 hS h.out
  rw [hB.1] at this
  simpa using this
theorem z_yes {a : Act} {w : World} {o : Oper} {r : List (Bool × Oper)} (v : Value) (hw : Region.wanted o (yielded ops a.tmps) = true) (hy : ∀ w', S w' → (execOp a.eval o).run P w' = .ok (.value v) w')
    (h : Shut (wpSeq P ops Q S r (a.put o.dst v) w)) : Shut (wpSeq P ops Q S ((true, o) :: r) a w) := ⟨⟨v, .inl ⟨hw, hy⟩, h.out⟩⟩
theorem z_no {a : Act} {w : World} {o : Oper} {r : List (Bool × Oper)} (hw : Region.wanted o (yielded ops a.tmps) = false)
    (h : Shut (wpSeq P ops Q S r (a.put o.dst undef) w)) : Shut (wpSeq P ops Q S ((true, o) :: r) a w) := ⟨⟨undef, .inr ⟨hw, rfl⟩, h.out⟩⟩
theorem z_mem {a : Act} {w : World} {o : Oper} {r : List (Bool × Oper)}
    (h : ∀ K : Act → World → Prop, Hid (∀ a w, S w → Shut (wpSeq P ops Q S r a w) → K a w) → if Region.wanted o (yielded ops a.tmps) = true then Oper.wp P o a w K Q else Shut (wpSeq P ops Q S r (a.put o.dst undef) w)) : Shut (wpSeq P ops Q S ((false, o) :: r) a w) := by
  have h1 := h (fun a' w' => S w' ∧ wpSeq P ops Q S r a' w') (Lib.hid fun a w hS hh => ⟨hS, hh.out⟩)
  refine ⟨?_⟩
  unfold wpSeq
  split at h1
  · rename_i hw; rw [if_pos hw]; exact h1
  · rename_i hw; rw [if_neg hw]; exact h1.out
theorem z_nil {a : Act} {w : World} (h : Q .normal a w) : Shut (wpSeq P ops Q S [] a w) := ⟨h⟩
end
end Go.Proofs.YtjeepmdklbfgeaaDoor

namespace Go.Proofs.YtjeepmdklbfgeaaDoor
open Go.Sort Go.RowKit

/-- k of the tail's m operations are listed. -/
def marksT (n m k : Nat) : Array Bool := (List.replicate n true ++ (List.replicate k true ++ List.replicate (m - k) false)).toArray
/-- Number k is i, or waits for it, by whatever others. -/
def waitsB (l : List Oper) (i : Nat) : Nat → Nat → Bool
  | 0, k => k == i
  | f + 1, k => k == i || (match l[k]? with | some o => o.after.any fun e => Region.binds .any e && waitsB l i f e.on | none => false)
def tailsB (l tl : List Oper) : Bool :=
  Region.lexB .any l.toArray && backsB 0 l && ((List.range l.length).all fun i => tl.all fun s => s.after.any fun e => Region.binds .any e && (decide (l.length ≤ e.on) || waitsB l i l.length e.on)) &&
  ((List.range tl.length).all fun k => decide (Region.ready .any (l ++ tl).toArray (marksT l.length tl.length k) = [l.length + k])) && decide (Region.ready .any (l ++ tl).toArray (marksT l.length tl.length tl.length) = [])

section
variable {P : Program} {C : World → Prop} {l tl : List Oper}

/-- Who is listed waits for nobody who is not. -/
def Closed (l : List Oper) (A : Array Bool) : Prop := ∀ k o, l[k]? = some o → A.getD k false = true → ∀ e, e ∈ o.after → Region.binds .any e = true → A.getD e.on false = true
theorem waits_false {A : Array Bool} (hcl : Closed l A) {i : Nat} (hi : A.getD i false = false) : ∀ f k, waitsB l i f k = true → A.getD k false = false := by
  intro f
  induction f with
  | zero =>
    intro k h
    simp only [waitsB, beq_iff_eq] at h
    rw [h]; exact hi
  | succ f ih =>
    intro k h
    simp only [waitsB, Bool.or_eq_true, beq_iff_eq] at h
    rcases h with h | h
    · rw [h]; exact hi
    · rcases ho : l[k]? with _ | o
      · rw [ho] at h; cases h
      · rw [ho] at h
        obtain ⟨e, he, hb⟩ := Array.any_eq_true'.1 h
        simp only [Bool.and_eq_true] at hb
        rcases hk : A.getD k false with _ | _
        · rfl
        · have h1 := hcl k o ho hk e he hb.1
          rw [ih e.on hb.2] at h1
          cases h1

theorem app_in {A B : Array Bool} {i : Nat} (h : i < A.size) (d : Bool) : (A ++ B).getD i d = A.getD i d := by
  simp [Array.getElem?_append, h]
theorem app_false (A : Array Bool) (m i : Nat) : (A ++ Array.replicate m false).getD i false = A.getD i false := by
  rcases Nat.lt_or_ge i A.size with h | h
  · exact app_in h _
  · simp [Array.getElem?_append, show ¬ i < A.size by omega, Array.getElem?_replicate]
    split <;> rfl
theorem set_app {A B : Array Bool} {i : Nat} (h : i < A.size) : (A ++ B).setIfInBounds i true = A.setIfInBounds i true ++ B := by
  apply Array.ext_getElem?
  intro j
  rw [Array.getElem?_setIfInBounds]
  simp only [Array.getElem?_append, Array.size_append, Array.size_setIfInBounds, Array.getElem?_setIfInBounds]
  by_cases hij : i = j
  · subst hij
    simp [h]
    omega
  · simp [hij]
theorem front_app {i : Nat} (h : i < l.length) : (l ++ tl).toArray[i]? = l.toArray[i]? := by simp [List.getElem?_append_left h]
theorem ready_app {A : Array Bool} (hA : A.size = l.length) {i : Nat} (hi : i < l.length) : i ∈ Region.ready .any (l ++ tl).toArray (A ++ Array.replicate tl.length false) ↔ i ∈ Region.ready .any l.toArray A := by
  rw [mem_ready, mem_ready, front_app hi, app_in (by omega)]
  simp only [app_false]

/-- The tail, in its order. -/
theorem tail_any {Q' : Exit → Act → World → Prop} (hr : ∀ k, k < tl.length → Region.ready .any (l ++ tl).toArray (marksT l.length tl.length k) = [l.length + k]) (hr2 : Region.ready .any (l ++ tl).toArray (marksT l.length tl.length tl.length) = []) :
    ∀ (m k : Nat) (a : Act) (w : World), k + m = tl.length → wpList P (l ++ tl).toArray Q' (tl.drop k) a w → wpAny P .any (l ++ tl).toArray Q' m (marksT l.length tl.length k) a w := by
  intro m
  induction m with
  | zero =>
    intro k a w hk h
    obtain rfl : k = tl.length := by omega
    refine ⟨hr2, ?_⟩
    rw [List.drop_length] at h
    exact h
  | succ m ih =>
    intro k a w hk h
    refine ⟨fun h0 => (by rw [hr k (by omega)] at h0; cases h0), fun i hi => ?_⟩
    rw [hr k (by omega)] at hi
    obtain rfl : i = l.length + k := by simpa using hi
    have e : (marksT l.length tl.length k).setIfInBounds (l.length + k) true = marksT l.length tl.length (k + 1) := by
      unfold marksT
      rw [List.setIfInBounds_toArray]
      congr 1
      rw [List.set_append_right _ _ (by simp)]
      congr 1
      rw [List.set_append_right _ _ (by simp)]
      simp only [List.length_replicate]
      rw [show l.length + k - l.length - k = 0 by omega, show tl.length - k = (tl.length - (k + 1)) + 1 by omega, List.replicate_succ, List.set_cons_zero, List.replicate_succ', List.append_assoc]
      rfl
    rw [e]
    have hd : tl.drop k = tl[k]'(by omega) :: tl.drop (k + 1) := List.drop_eq_getElem_cons (by omega)
    rw [hd] at h
    unfold wpOp
    have hop : (l ++ tl).toArray[l.length + k]? = some (tl[k]'(by omega)) := by simp [show k < tl.length by omega]
    rw [hop]
    simp only
    simp only [wpList] at h
    split
    · rename_i hw
      rw [if_pos hw] at h
      rcases h with h | h
      · exact .inl (Oper.wp_mono (fun a1 w1 h1 => ih _ _ _ (by omega) h1) h)
      · exact .inr h
    · rename_i hw
      rw [if_neg hw] at h
      exact ih _ _ _ (by omega) h

theorem tails_any {Q : Act → Prop} {Q' : Exit → Act → World → Prop} (hB : tailsB l tl = true)
    (hQ : ∀ a w, C w → Q a → wpList P (l ++ tl).toArray Q' tl a w) :
    ∀ (f : Nat) (A : Array Bool) (a : Act) (w : World), A.size = l.length → A.toList.count false = f → C w → Closed l A → wpAnyQ P .any l.toArray C Q f A a → wpAny P .any (l ++ tl).toArray Q' (f + tl.length) (A ++ Array.replicate tl.length false) a w := by
  simp only [tailsB, Bool.and_eq_true, decide_eq_true_eq] at hB
  obtain ⟨⟨⟨⟨_, hback⟩, hall⟩, hr1⟩, hr2⟩ := hB
  have hr : ∀ k, k < tl.length → Region.ready .any (l ++ tl).toArray (marksT l.length tl.length k) = [l.length + k] := fun k hk => by simpa using List.all_eq_true.1 hr1 k (List.mem_range.2 hk)
  have full : ∀ A : Array Bool, A.size = l.length → A.toList.count false = 0 → A = Array.replicate l.length true := by
    intro A hA hc
    apply Array.ext_getElem?
    intro j
    have hm : false ∉ A.toList := List.count_eq_zero.1 hc
    rcases Nat.lt_or_ge j A.size with h | h
    · rcases hu : A[j] with _ | _
      · exact absurd (by rw [← hu]; simp) hm
      · rw [Array.getElem?_eq_getElem h, hu, Array.getElem?_replicate, if_pos (by omega)]
    · rw [Array.getElem?_eq_none h, Array.getElem?_eq_none (by simp; omega)]
  intro f
  induction f with
  | zero =>
    intro A a w hA hc hw _ h
    obtain rfl := full A hA hc
    have e : Array.replicate l.length true ++ Array.replicate tl.length false = marksT l.length tl.length 0 := by
      unfold marksT
      apply Array.ext'
      simp
    rw [e, Nat.zero_add]
    exact tail_any hr hr2 tl.length 0 a w (by omega) (by simpa using hQ a w hw h.2)
  | succ f ih =>
    intro A a w hA hc hw hcl h
    obtain ⟨j0, hj0, hf0, hmin⟩ : ∃ j, j < l.length ∧ A.getD j true = false ∧ ∀ i, i < j → A.getD i false = true := by
      have hm : false ∈ A.toList := List.count_pos_iff.1 (by omega)
      obtain ⟨j, hj, e⟩ := List.getElem_of_mem hm
      have hex : ∃ j, j < l.length ∧ A.getD j true = false := ⟨j, by simpa [hA] using hj, by simp at hj; simp [hj]; simpa using e⟩
      clear hj e
      have key : ∀ k, (∃ j, j < k ∧ j < l.length ∧ A.getD j true = false) → ∃ j, j < l.length ∧ A.getD j true = false ∧ ∀ i, i < j → A.getD i false = true := by
        intro k
        induction k with
        | zero => rintro ⟨j, h, _⟩; omega
        | succ k ihk =>
          rintro ⟨j, h1, h2, h3⟩
          by_cases hk : ∃ j, j < k ∧ j < l.length ∧ A.getD j true = false
          · exact ihk hk
          · refine ⟨j, h2, h3, fun i hi => ?_⟩
            have hiA : i < A.size := by omega
            rcases hu : A.getD i true with _ | _
            · exact absurd ⟨i, by omega, by omega, hu⟩ hk
            · simp [hiA] at hu ⊢; exact hu
      obtain ⟨j, h1, h2⟩ := hex
      exact key (j + 1) ⟨j, by omega, h1, h2⟩
    have hj0r : j0 ∈ Region.ready .any l.toArray A := by
      rw [mem_ready]
      refine ⟨hf0, l[j0], by simp [hj0], fun e he hb => hmin _ ?_⟩
      have := backsB_at l 0 j0 l[j0] hback (by simp [hj0])
      simp only [backB, Bool.and_eq_true, Array.all_eq_true_iff_forall_mem] at this
      have h2 := this.1 e he
      simp [hb] at h2
      omega
    rw [show f + 1 + tl.length = (f + tl.length) + 1 by omega]
    refine ⟨fun h0 => ?_, fun i hi => ?_⟩
    · have := (ready_app (tl := tl) hA hj0).2 hj0r
      rw [h0] at this
      cases this
    · have hil : i < l.length := by
        rcases Nat.lt_or_ge i l.length with h' | h'
        · exact h'
        · obtain ⟨_, o, ho, hao⟩ := mem_ready.1 hi
          have hlt : i < (l ++ tl).toArray.size := (Array.getElem?_eq_some_iff.1 ho).1
          have hlt2 : i < l.length + tl.length := by simpa using hlt
          have hos : (l ++ tl)[i]? = some o := by simpa using ho
          rw [List.getElem?_append_right h'] at hos
          have hmem : o ∈ tl := List.mem_of_getElem? hos
          have h1 := List.all_eq_true.1 (List.all_eq_true.1 hall j0 (List.mem_range.2 hj0)) o hmem
          obtain ⟨e, he, hb⟩ := Array.any_eq_true'.1 h1
          simp only [Bool.and_eq_true, Bool.or_eq_true, decide_eq_true_iff] at hb
          have h2 := hao e he hb.1
          rw [app_false] at h2
          rcases hb.2 with h4 | h4
          · have h5 : A[e.on]? = none := Array.getElem?_eq_none (by omega)
            simp [h5] at h2
          · rw [waits_false hcl (getD_both hf0) _ _ h4] at h2
            cases h2
      have hir := (ready_app hA hil).1 hi
      have hq := h.2 i hir
      have hiA : i < A.size := by omega
      rw [set_app hiA]
      have hun := (mem_ready.1 hir).1
      have hcf : (A.setIfInBounds i true).toList.count false = f := by
        have h3 : A.toList[i]'(by simpa using hiA) = false := by simp [hiA] at hun; simpa using hun
        rw [Array.toList_setIfInBounds, List.count_set (by simpa using hiA), h3, hc]
        rfl
      unfold qOp at hq
      unfold wpOp
      rw [front_app hil]
      have hio : l.toArray[i]? = some l[i] := by simp [hil]
      rw [hio] at hq ⊢
      simp only at hq ⊢
      have hwt : Region.wanted l[i] (yielded (l ++ tl).toArray a.tmps) = Region.wanted l[i] (yielded l.toArray a.tmps) := by
        have := backsB_at l 0 i l[i] hback (by simp [hil])
        simp only [backB, Bool.and_eq_true] at this
        have h2 := this.2
        unfold Region.wanted
        rcases hg : l[i].guard with _ | ⟨g, b⟩
        · rfl
        · rw [hg] at h2
          simp at h2
          simp only [yielded]
          rw [front_app (by omega)]
      rw [hwt]
      have step : ∀ a' w', C w' → wpAnyQ P .any l.toArray C Q f (A.setIfInBounds i true) a' → wpAny P .any (l ++ tl).toArray Q' (f + tl.length) (A.setIfInBounds i true ++ Array.replicate tl.length false) a' w' :=
        fun a' w' hw' h' => ih _ a' w' (by simp [hA]) hcf hw' (fun k o ho hk e he hb => by
          by_cases hki : i = k
          · subst hki
            have h3 := (mem_ready.1 hir).2
            obtain ⟨o', ho', hall'⟩ := h3
            have : o' = o := by rw [List.getElem?_toArray, ho] at ho'; exact (Option.some.inj ho').symm
            subst this
            have h4 := hall' e he hb
            by_cases h5 : i = e.on
            · rw [← h5]; simp [hiA]
            · simpa [Array.getElem?_setIfInBounds, h5] using h4
          · have h3 := hcl k o ho (by simpa [Array.getElem?_setIfInBounds, hki] using hk) e he hb
            by_cases h5 : i = e.on
            · rw [← h5]; simp [hiA]
            · simpa [Array.getElem?_setIfInBounds, h5] using h3) h'
      split
      · rename_i hw1
        rw [if_pos hw1] at hq
        exact .inl (Oper.wp_of_quiet hw step hq)
      · rename_i hw1
        rw [if_neg hw1] at hq
        exact step _ _ hw hq

/-- The region, entered: n operations that are quiet, and the others. -/
theorem ts_region {id : Nat} {Q : Exit → Act → World → Prop} {a : Act} {w : World} {L : List Oper} (n : Nat) (hm : P.follows .mixedOrders = true) (hB : (decide (n ≤ L.length) && tailsB (L.take n) (L.drop n)) = true)
    (h : Shut (wpQuiet P (L.take n).toArray (fun w' => ∃ p : Regrown, w' = grow (redrawn w p.d) p.os) (fun a' => ∀ w', Below w.heap.size w w' → wpList P L.toArray Q (L.drop n) a' w') (L.take n) a)) : (Code.region id L.toArray true).wp P Q a w := by
  simp only [Bool.and_eq_true, decide_eq_true_eq] at hB
  obtain ⟨hn, hB⟩ := hB
  have hB' := hB
  simp only [tailsB, Bool.and_eq_true] at hB'
  have hlex := hB'.1.1.1.1
  simp only [Region.lexB, Bool.and_eq_true] at hlex
  have hL : L.take n ++ L.drop n = L := List.take_append_drop n L
  have hq := wpAnyQ_lex (C := fun w' => ∃ p : Regrown, w' = grow (redrawn w p.d) p.os) (md := .any) hlex.1 (L.take n) 0 (Array.replicate (L.take n).length false) a (by simp) (by simpa using hlex.2) h.out
  refine wp_region_any hm ?_
  have hrep : Array.replicate L.toArray.size false = Array.replicate (L.take n).length false ++ Array.replicate (L.drop n).length false := by
    apply Array.ext'
    simp only [Array.toList_replicate, Array.toList_append, List.replicate_append_replicate, List.size_toArray]
    congr 1
    simp; omega
  have hsz : L.toArray.size = (L.take n).length + (L.drop n).length := by simp; omega
  rw [hrep, hsz]
  have := tails_any (P := P) (Q' := Q) hB (fun a' w' hw' h' => by
    obtain ⟨p, rfl⟩ := hw'
    have := h' _ (below_regrown w p.d p.os)
    rw [hL]
    exact this) (L.take n).length (Array.replicate (L.take n).length false) a (redrawn w (w.drawn + 1)) (by simp) (by simp) ⟨⟨w.drawn + 1, #[]⟩, by rw [grow_empty]⟩ (fun k o _ hk => by simp [Array.getElem?_replicate] at hk; split at hk <;> simp at hk) hq
  rw [hL] at this
  exact this
end
end Go.Proofs.YtjeepmdklbfgeaaDoor

namespace Go.Proofs.YtjeepmdklbfgeaaDoor
open Go.Sort Go.RowKit Go.Proofs.YtjeepmdklbfgeaaDoor.Pure

set_option maxRecDepth 100000 in
set_option maxHeartbeats 1000000 in
theorem rmay_any (x : Kn) (w : World) : Calls Tryd.prog 30 #[.agg #[.int .u64 x.i, .int .i64 x.s]] w fun e w' => e = .returned (.bool (mayK x)) ∧ Below w.heap.size w w' := by
  have HB : Hid (Below w.heap.size w (w.alloc (.cells #[.int .u64 x.i, .int .i64 x.s] 24))) := Lib.hid ((Below.refl _ _).alloc (Nat.le_refl _) _)
  have hm : mayK x = (decide (0 ≤ x.s) && decide (x.s ≤ 3)) := rfl
  rw [hm]
  generalize x.s = s at *
  generalize x.i = i at *
  clear hm
  go_enter Tryd.func30, Tryd.ntmps30
  by_cases h0 : 0 ≤ s
  · have e0 : decide (0 ≤ s) = true := by simpa using h0
    go_wp2
    go_ret
    exact ⟨by simp [h0], HB.out⟩
  · have e0 : decide (0 ≤ s) = false := by simpa using h0
    go_wp2
    go_ret
    exact ⟨by simp, HB.out⟩

set_option maxRecDepth 100000 in
set_option maxHeartbeats 1000000 in
theorem check_any (A : Option Addr) (c : Nat) (l : List Kn) (w : World) (hn : l.length ≤ 1000) (h : Lst w A l) (L : Bool) (hL : mayL l = L) :
    Calls Tryd.prog 62 #[.slice A l.length c] w fun e w' => e = .returned (.int .i64 (okE L)) ∧ Below w.heap.size w w' := by
  have H := Lib.hid h
  have HL : Hid (L = true ↔ ∀ j, j < l.length → mayK (kn l j) = true) := Lib.hid (by rw [← hL]; exact mayL_iff l)
  clear h hL
  have ho : okE true = 0 := rfl
  have hz : okE false = 1 := rfl
  go_enter Tryd.func62, Tryd.ntmps62
  go_wp2_with fail
  go_loopw [7] (fun i wr => ∃ k : Nat, i = .int .i64 k ∧ k ≤ l.length ∧ Hid (∀ j, j < k → mayK (kn l j) = true) ∧ Hid (Below w.heap.size w wr)) (fun i _ => l.length - (intOf i).toNat)
  case atStart => exact ⟨0, rfl, Nat.zero_le _, Lib.hid (fun j hj => absurd hj (Nat.not_lt_zero j)), Lib.hid (Below.refl _ _)⟩
  case round =>
    obtain ⟨k, rfl, hk, hok, hb⟩ := hrel
    by_cases hlt : k < l.length
    · obtain ⟨ad, rfl, hlo, h1⟩ := (H.out.on hb.out) k hlt
      obtain ⟨a0, a1⟩ := h1.flat
      have HM := Lib.hid (mayK_iff (kn l k))
      have HS : Hid (mayK (kn l k) = true → ∀ j, j < k + 1 → mayK (kn l j) = true) := Lib.hid (fun h j hj => by
        rcases Nat.lt_or_ge j k with hjk | hjk
        · exact hok.out j hjk
        · obtain rfl : j = k := by omega
          exact h)
      have HF : Hid (mayK (kn l k) = false → L = false) := Lib.hid (fun h => by
        rcases L with _ | _
        · rfl
        · have := HL.out.1 rfl k hlt
          rw [h] at this; cases this)
      have k0 : (0 : Int) ≤ (k : Int) := by omega
      have k1 : (k : Int) < (l.length : Int) := by omega
      have e0 : decide ((k : Int) < (l.length : Int)) = true := by simpa using k1
      have hsz := hb.out.size
      have HB1 : Hid (Below w.heap.size w (wr.alloc (.cells #[.int .u64 (kn l k).i, .int .i64 (kn l k).s] 24))) := Lib.hid (hb.out.alloc hsz _)
      generalize hM : mayK (kn l k) = M at *
      generalize (kn l k).s = s at *
      generalize (kn l k).i = i at *
      clear h1 hM
      by_cases b1 : s < 0
      · have d1 : decide (s < 0) = true := by simpa using b1
        have hM : M = false := by
          rcases M with _ | _
          · rfl
          · have := HM.out.1 rfl; omega
        obtain rfl := HF.out hM
        clear b1 hM
        go_wp2_with fail
        go_ret
        exact ⟨rfl, HB1.out⟩
      have d1 : decide (s < 0) = false := by simpa using b1
      by_cases b2 : 3 < s
      · have d2 : decide (3 < s) = true := by simpa using b2
        have hM : M = false := by
          rcases M with _ | _
          · rfl
          · have := HM.out.1 rfl; omega
        obtain rfl := HF.out hM
        clear b1 b2 hM
        go_wp2_with fail
        go_ret
        exact ⟨rfl, HB1.out⟩
      have d2 : decide (3 < s) = false := by simpa using b2
      have HS' := Lib.hid (HS.out (HM.out.2 ⟨by omega, by omega⟩))
      clear b1 b2 HS HF HM
      go_wp2_with fail
      go_roundw
      case rel => exact ⟨k + 1, by go_num, by omega, HS', HB1⟩
      case measure => simp [intOf]; omega
    · have hk' : k = l.length := by omega
      have hLt : L = true := HL.out.2 fun i hi => hok.out i (by omega)
      subst hLt
      have e0 : decide ((k : Int) < (l.length : Int)) = false := by simp; omega
      clear hk'
      go_wp2_with fail
      go_ret
      exact ⟨rfl, hb.out⟩

end Go.Proofs.YtjeepmdklbfgeaaDoor

namespace Go.Proofs.YtjeepmdklbfgeaaDoor
open Go.RowKit Go.Proofs.YtjeepmdklbfgeaaDoor.Pure

theorem Tryd.infoKn : (Tryd.prog.info? 24).map (fun i => (i.zero, i.size, i.bytes)) = some (some (.agg #[.int .u64 0, .int .i64 0]), 2, 16) := by kernel_rfl
theorem Tryd.infoInt : (Tryd.prog.info? 3).map (fun i => (i.zero, i.size, i.bytes)) = some (some (.int .i64 0), 1, 8) := by kernel_rfl

/-! ### what is known -/
def cells1 (x : Kn) : List Value := [.int .u64 x.i, .int .i64 x.s]
def kns (xs : List Kn) : List Value := xs.flatMap cells1
/-- The slice v is the call's own, in blocks from B on, and holds xs. -/
def Own (w : World) (B : Nat) (v : Value) (xs : List Kn) : Prop := w.ownsRow B 24 2 v xs.length (kns xs)

theorem kns_len (xs : List Kn) : (kns xs).length = xs.length * 2 := by
  induction xs with
  | nil => rfl
  | cons x r ih => simp [kns, cells1] at ih ⊢; omega
theorem kns_append (xs ys : List Kn) : kns (xs ++ ys) = kns xs ++ kns ys := by simp [kns]
theorem kns_one (xs : List Kn) : ∀ u ∈ kns xs, u.oneCell' = true := by
  intro u hu
  obtain ⟨x, _, hx⟩ := List.mem_flatMap.1 hu
  simp [cells1] at hx
  rcases hx with rfl | rfl <;> rfl
theorem kns_at (xs : List Kn) (j r : Nat) (hj : j < xs.length) (hr : r < 2) : (kns xs)[j * 2 + r]? = (cells1 (kn xs j))[r]? := by
  induction xs generalizing j with
  | nil => simp at hj
  | cons x l ih =>
    have e : kns (x :: l) = cells1 x ++ kns l := by simp [kns]
    rw [e]
    rcases j with _ | j
    · rw [List.getElem?_append_left (by simp [cells1]; omega)]
      simp [kn]
    · rw [List.getElem?_append_right (by simp [cells1]; omega)]
      have e2 : (j + 1) * 2 + r - (cells1 x).length = j * 2 + r := by simp [cells1]; omega
      rw [e2, ih j (by simpa using hj)]
      simp [kn]
theorem kns_set (xs : List Kn) (i : Nat) (y : Kn) : kns (xs.set i y) = ((kns xs).set (i * 2) (.int .u64 y.i)).set (i * 2 + 1) (.int .i64 y.s) := by
  induction xs generalizing i with
  | nil => rfl
  | cons x l ih =>
    have e : kns (x :: l) = .int .u64 x.i :: .int .i64 x.s :: kns l := by simp [kns, cells1]
    rcases i with _ | i
    · rw [List.set_cons_zero]
      rw [e, show kns (y :: l) = .int .u64 y.i :: .int .i64 y.s :: kns l by simp [kns, cells1]]
      rfl
    · rw [List.set_cons_succ]
      rw [e, show kns (x :: l.set i y) = .int .u64 x.i :: .int .i64 x.s :: kns (l.set i y) by simp [kns, cells1], ih]
      rw [show (i + 1) * 2 = i * 2 + 2 by omega]
      rfl

theorem cells_of_kat {w : World} {ad : Addr} {x : Kn} (h : KAt w ad x) (r : Nat) (hr : r < 2) : w.cell? (ad.add r) = (cells1 x)[r]? := by
  match r, hr with
  | 0, _ => exact h.1
  | 1, _ => exact h.2
theorem Lst.cells {w : World} {ad : Addr} {xs : List Kn} (h : Lst w (some ad) xs) (j : Nat) (u : Value) (hu : (kns xs)[j]? = some u) : w.cell? (ad.add j) = some u := by
  have hl := (List.getElem?_eq_some_iff.1 hu).1
  rw [kns_len] at hl
  obtain ⟨ad', e, _, c⟩ := h (j / 2) (by omega)
  obtain rfl := Option.some.inj e
  have e2 : j / 2 * 2 + j % 2 = j := by omega
  have := cells_of_kat c (j % 2) (by omega)
  rw [add_add, e2] at this
  rw [this, ← hu, ← e2, kns_at xs (j / 2) (j % 2) (by omega) (by omega)]
  simp [e2, kn]
theorem Lst.none_nil {w : World} {xs : List Kn} (h : Lst w none xs) : xs = [] := by
  rcases xs with _ | ⟨x, r⟩
  · rfl
  · obtain ⟨ad, e, _⟩ := h 0 (by simp)
    cases e
section
variable {w w' : World} {B : Nat} {v : Value} {xs : List Kn}
theorem Own.alloc (h : Own w B v xs) (o : Obj) : Own (w.alloc o) B v xs := World.ownsRow.alloc (w := w) h o
theorem Own.drew (h : Own w B v xs) : Own w.drew B v xs := h
theorem Own.ge (h : Own w B v xs) : ∀ k, v.ownBlock = some k → B ≤ k ∧ k < w.heap.size := World.ownsRow.lt (w := w) h
theorem Own.nil (w : World) (B : Nat) : Own w B (.slice none 0 0) [] := World.ownsRow_nil _ _ _ _
theorem Own.mono {B' : Nat} (h : Own w B v xs) (hB : B' ≤ B) : Own w B' v xs := by
  refine ⟨h.1, ?_⟩
  rcases h.2 with h | ⟨g, cap, cur, h1, h2, h3⟩
  · exact .inl h
  · exact .inr ⟨g, cap, cur, h1, Nat.le_trans hB h2, h3⟩
theorem Own.on (h : Own w B v xs) (hb : Below w.heap.size w w') : Own w' B v xs := by
  refine ⟨h.1, ?_⟩
  have hk := h.ge
  rcases h.2 with h | ⟨g, cap, cur, rfl, h2, h3, h4⟩
  · exact .inl h
  · exact .inr ⟨g, cap, cur, rfl, h2, (hb.block g (hk g rfl).2).trans h3, h4⟩
/-- What a slice of the call's own holds, wherever it lies. -/
theorem Own.lst (h : Own w B v xs) : ∃ (A : Option Addr) (c : Nat), v = .slice A xs.length c ∧ xs.length ≤ c ∧ Lst w A xs := by
  rcases h.2 with ⟨rfl, hn⟩ | ⟨g, cap, cur, rfl, hg, hh, hcap, _, _, _⟩
  · have : xs = [] := List.eq_nil_of_length_eq_zero hn
    subst this
    exact ⟨none, 0, rfl, Nat.le_refl _, Lst.nil _ _⟩
  · have hlt := World.ownsRow.lt (w := w) (v := .slice (some ⟨g, 0, none⟩) xs.length cap) h g rfl
    refine ⟨some ⟨g, 0, none⟩, cap, rfl, hcap, fun j hj => ⟨_, rfl, hlt.2, ?_⟩⟩
    have e : (⟨g, 0, none⟩ : Addr).add (j * 2) = ⟨g, j * 2, none⟩ := by unfold Addr.add; split <;> simp_all
    rw [e]
    have h0 := (World.ownsRow.cellAt (w := w) h (j * 2 + 0) (by omega)).trans (kns_at xs j 0 hj (by decide))
    have h1 := (World.ownsRow.cellAt (w := w) h (j * 2 + 1) (by omega)).trans (kns_at xs j 1 hj (by decide))
    exact ⟨h0, h1⟩
/-- The same, where there is something. -/
theorem Own.opened (h : Own w B v xs) (hn : 0 < xs.length) : ∃ g c, v = .slice (some ⟨g, 0, none⟩) xs.length c ∧ B ≤ g ∧ g < w.heap.size ∧ (∀ o : Nat, w.frozen? ⟨g, o, none⟩ = false) ∧ (∀ j, j < xs.length → w.cell? ⟨g, j * 2, none⟩ = some (.int .u64 (kn xs j).i) ∧ w.cell? ⟨g, j * 2 + 1, none⟩ = some (.int .i64 (kn xs j).s)) := by
  rcases h.2 with ⟨_, h0⟩ | ⟨g, cap, cur, rfl, hg, hh, hcap, _, _, _⟩
  · omega
  · have hlt := World.ownsRow.lt (w := w) (v := .slice (some ⟨g, 0, none⟩) xs.length cap) h g rfl
    exact ⟨g, cap, rfl, hg, hlt.2, World.ownsRow.frozenAt (w := w) h, fun j hj => ⟨(World.ownsRow.cellAt (w := w) h (j * 2 + 0) (by omega)).trans (kns_at xs j 0 hj (by decide)), (World.ownsRow.cellAt (w := w) h (j * 2 + 1) (by omega)).trans (kns_at xs j 1 hj (by decide))⟩⟩
/-- One of them laid anew. -/
theorem Own.set {g c i : Nat} (h : Own w B (.slice (some ⟨g, 0, none⟩) xs.length c) xs) (y : Kn) : Own ((w.setCell ⟨g, i * 2, none⟩ (.int .u64 y.i)).setCell ⟨g, i * 2 + 1, none⟩ (.int .i64 y.s)) B (.slice (some ⟨g, 0, none⟩) xs.length c) (xs.set i y) := by
  have h1 := (World.ownsRow.stored (w := w) h (i * 2) (.int .u64 y.i)).1
  have h2 := (World.ownsRow.stored h1 (i * 2 + 1) (.int .i64 y.s)).1
  unfold Own
  rw [kns_set, List.length_set]
  exact h2
end

theorem run_append_nothing (w : World) (ty : TypeId) (B : Nat) (v : Value) (xs : List Kn) (hown : Own w B v xs) (c : Nat) (i0 : TypeInfo) (hi0 : Tryd.prog.info? 24 = some i0) :
    (Builtin.append_ #[26, 26] ty #[v, .slice none 0 c]).run Tryd.prog w = .ok v w := by
  have ht := Tryd.underlying26
  rcases hown.2 with ⟨rfl, _⟩ | ⟨g, cap, cur, rfl, _, _, hnc, _⟩
  · simp [Builtin.append_, run_underlying ht, sizeOf, typeInfo, hi0, Builtin.lenOf, Builtin.firstCells]
  · simp [Builtin.append_, run_underlying ht, sizeOf, typeInfo, hi0, Builtin.lenOf, Builtin.firstCells, hnc, storeCells]

/-- append onto a slice of the call's own, of any slice, nil too. -/
theorem wpList_append_lst {w : World} {ops : Array Oper} {rest : List Oper} {o : Oper} {a : Act} {Q : Exit → Act → World → Prop} (hgd : o.guard = none) (s x : Operand)
    (ho : o.op = .call { callee := .builtin .append, args := #[s, x], argTypes := #[26, 26] })
    (B : Nat) (v : Value) (xs : List Kn) (hs : a.eval s = v) (hown : Own w B v xs) (A : Option Addr) (c : Nat) (ys : List Kn) (hx : a.eval x = .slice A ys.length c) (hh : Lst w A ys)
    (hlen : xs.length + ys.length ≤ 100000) (hB : B ≤ w.heap.size)
    (h : ∀ v' w', Own w' B v' (xs ++ ys) → w.grownBy w' v.ownBlock → wpList Tryd.prog ops Q rest (a.put o.dst v') w') : wpList Tryd.prog ops Q (o :: rest) a w := by
  obtain ⟨i0, hi0, hz0, hz1, hz2⟩ := info_parts Tryd.infoKn
  rcases A with _ | ad
  · obtain rfl := hh.none_nil
    refine wpList_plain hgd fun K hK => ?_
    have hr := run_append_nothing w o.type B v xs hown c i0 hi0
    unfold Oper.wp execOp
    simp only [List.length_nil] at hx
    simp only [ho, resolve, invoke, builtin, Sem.run_bind, Sem.run_pure, Result.andThen_ok, List.map_toArray, List.map_cons, List.map_nil, hs, hx, hr]
    exact hK _ _ (h v w (by simpa using hown) (World.grownBy.refl _ _))
  · refine wpList_append_own _ hgd s x 26 ho B 24 i0 (.agg #[.int .u64 0, .int .i64 0]) 2 16 Tryd.underlying26 hi0 hz0 hz1 hz2 rfl (by decide) v _ _ hs hown ad ys.length c (kns ys) hx (kns_len ys) hh.cells (kns_one ys) (by unfold maxLen; omega) (by omega) hB ?_
    intro v' w1 hown1 hgrow _
    exact h v' w1 (by simpa [Own, kns_append] using hown1) hgrow

theorem Tryd.infoNw : (Tryd.prog.info? 63).map (fun i => (i.zero, i.size, i.bytes)) = some (some (.agg #[.int .i64 0, .int .u64 0, .int .i64 0]), 3, 24) := by kernel_rfl
/-- The cells from a on hold x. -/
def NAt (w : World) (a : Addr) (x : Nw) : Prop := w.cell? a = some (.int .i64 x.w) ∧ w.cell? (a.add 1) = some (.int .u64 x.i) ∧ w.cell? (a.add 2) = some (.int .i64 x.s)
/-- The slice that begins at A holds l. -/
def Ns (w : World) (A : Option Addr) (l : List Nw) : Prop := ∀ j, j < l.length → ∃ ad, A = some ad ∧ ad.block < w.heap.size ∧ NAt w (ad.add (j * 3)) (nw l j)
def nws1 (x : Nw) : List Value := [.int .i64 x.w, .int .u64 x.i, .int .i64 x.s]
def nws (xs : List Nw) : List Value := xs.flatMap nws1
/-- The slice v is the call's own, in blocks from B on, and holds xs. -/
def OwnN (w : World) (B : Nat) (v : Value) (xs : List Nw) : Prop := w.ownsRow B 63 3 v xs.length (nws xs)

theorem nws_len (xs : List Nw) : (nws xs).length = xs.length * 3 := by
  induction xs with
  | nil => rfl
  | cons x r ih => simp [nws, nws1] at ih ⊢; omega
theorem nws_append (xs ys : List Nw) : nws (xs ++ ys) = nws xs ++ nws ys := by simp [nws]
theorem nws_cons (x : Nw) (xs : List Nw) : nws (x :: xs) = nws1 x ++ nws xs := by simp [nws]
theorem nws_one (xs : List Nw) : ∀ u ∈ nws xs, u.oneCell' = true := by
  intro u hu
  obtain ⟨x, _, hx⟩ := List.mem_flatMap.1 hu
  simp [nws1] at hx
  rcases hx with rfl | rfl | rfl <;> rfl
theorem nws_at (xs : List Nw) (j r : Nat) (hj : j < xs.length) (hr : r < 3) : (nws xs)[j * 3 + r]? = (nws1 (nw xs j))[r]? := by
  induction xs generalizing j with
  | nil => simp at hj
  | cons x l ih =>
    rw [nws_cons]
    rcases j with _ | j
    · rw [List.getElem?_append_left (by simp [nws1]; omega)]
      simp [nw]
    · rw [List.getElem?_append_right (by simp [nws1]; omega)]
      have e2 : (j + 1) * 3 + r - (nws1 x).length = j * 3 + r := by simp [nws1]; omega
      rw [e2, ih j (by simpa using hj)]
      simp [nw]
theorem nws_take (xs : List Nw) (k : Nat) : nws (xs.take k) = (nws xs).take (k * 3) := by
  induction xs generalizing k with
  | nil => simp [nws]
  | cons x l ih =>
    rcases k with _ | k
    · simp [nws]
    · rw [List.take_succ_cons, nws_cons, nws_cons, ih, List.take_append]
      have h1 : (nws1 x).take ((k + 1) * 3) = nws1 x := List.take_of_length_le (by simp [nws1]; omega)
      have h2 : (k + 1) * 3 - (nws1 x).length = k * 3 := by simp [nws1]; omega
      rw [h1, h2]
theorem nws_drop (xs : List Nw) (k : Nat) : nws (xs.drop k) = (nws xs).drop (k * 3) := by
  induction xs generalizing k with
  | nil => simp [nws]
  | cons x l ih =>
    rcases k with _ | k
    · simp
    · rw [List.drop_succ_cons, nws_cons, ih, List.drop_append]
      have h1 : (nws1 x).drop ((k + 1) * 3) = [] := List.drop_eq_nil_of_le (by simp [nws1]; omega)
      have h2 : (k + 1) * 3 - (nws1 x).length = k * 3 := by simp [nws1]; omega
      rw [h1, h2, List.nil_append]
theorem nws_set (xs : List Nw) (i : Nat) (y : Nw) : nws (xs.set i y) = (((nws xs).set (i * 3) (.int .i64 y.w)).set (i * 3 + 1) (.int .u64 y.i)).set (i * 3 + 2) (.int .i64 y.s) := by
  induction xs generalizing i with
  | nil => rfl
  | cons x l ih =>
    have e : nws (x :: l) = .int .i64 x.w :: .int .u64 x.i :: .int .i64 x.s :: nws l := by simp [nws, nws1]
    rcases i with _ | i
    · rw [List.set_cons_zero]
      rw [e, show nws (y :: l) = .int .i64 y.w :: .int .u64 y.i :: .int .i64 y.s :: nws l by simp [nws, nws1]]
      rfl
    · rw [List.set_cons_succ]
      rw [e, show nws (x :: l.set i y) = .int .i64 x.w :: .int .u64 x.i :: .int .i64 x.s :: nws (l.set i y) by simp [nws, nws1], ih]
      rw [show (i + 1) * 3 = i * 3 + 3 by omega]
      rfl

section
variable {w w' : World} {A : Option Addr} {l : List Nw} {a : Addr} {x : Nw} {B : Nat} {v : Value} {xs : List Nw}
theorem NAt.keep (h : NAt w a x) (hk : ∀ p : Addr, p.block = a.block → w'.cell? p = w.cell? p) : NAt w' a x :=
  ⟨(hk _ rfl).trans h.1, (hk _ (block_add _ _)).trans h.2.1, (hk _ (block_add _ _)).trans h.2.2⟩
theorem NAt.flat (h : NAt w a x) : w.cell? a = some (.int .i64 x.w) ∧ w.cell? ⟨a.block, a.off + 1, none⟩ = some (.int .u64 x.i) ∧ w.cell? ⟨a.block, a.off + 2, none⟩ = some (.int .i64 x.s) := h
theorem Ns.keep (h : Ns w A l) (hs : w.heap.size ≤ w'.heap.size) (hk : ∀ ad p : Addr, A = some ad → p.block = ad.block → w'.cell? p = w.cell? p) : Ns w' A l := fun j hj => by
  obtain ⟨ad, e, h1, h2⟩ := h j hj
  exact ⟨ad, e, by omega, h2.keep fun p hp => hk ad p e (by rw [hp, block_add])⟩
theorem Ns.on (h : Ns w A l) (hb : Below w.heap.size w w') : Ns w' A l := fun j hj => by
  obtain ⟨ad, e, h1, h2⟩ := h j hj
  have hs := hb.size
  exact ⟨ad, e, by omega, h2.keep fun p hp => hb.cell (by rw [hp, block_add]; exact h1)⟩
theorem Ns.drew (h : Ns w A l) : Ns w.drew A l := h
theorem Ns.alloc (h : Ns w A l) (o : Obj) : Ns (w.alloc o) A l := h.on ((Below.refl _ _).alloc (Nat.le_refl _) o)
theorem Ns.take (h : Ns w A l) (k : Nat) : Ns w A (l.take k) := fun j hj => by
  rw [List.length_take] at hj
  obtain ⟨ad, e, h1, h2⟩ := h j (by omega)
  refine ⟨ad, e, h1, ?_⟩
  rw [nw_take l k j (by omega)]
  exact h2
theorem Ns.nil (w : World) (A : Option Addr) : Ns w A [] := fun j hj => absurd hj (by simp)
theorem Ns.none_nil (h : Ns w none xs) : xs = [] := by
  rcases xs with _ | ⟨x, r⟩
  · rfl
  · obtain ⟨ad, e, _⟩ := h 0 (by simp)
    cases e
theorem nws_of_at {ad : Addr} (h : NAt w ad x) (r : Nat) (hr : r < 3) : w.cell? (ad.add r) = (nws1 x)[r]? := by
  match r, hr with
  | 0, _ => exact h.1
  | 1, _ => exact h.2.1
  | 2, _ => exact h.2.2
theorem Ns.cells {ad : Addr} (h : Ns w (some ad) xs) (j : Nat) (u : Value) (hu : (nws xs)[j]? = some u) : w.cell? (ad.add j) = some u := by
  have hl := (List.getElem?_eq_some_iff.1 hu).1
  rw [nws_len] at hl
  obtain ⟨ad', e, _, c⟩ := h (j / 3) (by omega)
  obtain rfl := Option.some.inj e
  have e2 : j / 3 * 3 + j % 3 = j := by omega
  have := nws_of_at c (j % 3) (by omega)
  rw [add_add, e2] at this
  rw [this, ← hu, ← e2, nws_at xs (j / 3) (j % 3) (by omega) (by omega)]
  simp [e2, nw]
/-- Cells of a block, one by one. -/
theorem NAt.of {b j : Nat} (h : ∀ r, r < 3 → w.cell? ⟨b, j * 3 + r, none⟩ = (nws1 x)[r]?) : NAt w ((⟨b, 0, none⟩ : Addr).add (j * 3)) x := by
  have e : (⟨b, 0, none⟩ : Addr).add (j * 3) = ⟨b, j * 3, none⟩ := by unfold Addr.add; split <;> simp_all
  rw [e]
  exact ⟨h 0 (by decide), h 1 (by decide), h 2 (by decide)⟩
theorem OwnN.alloc (h : OwnN w B v xs) (o : Obj) : OwnN (w.alloc o) B v xs := World.ownsRow.alloc (w := w) h o
theorem OwnN.drew (h : OwnN w B v xs) : OwnN w.drew B v xs := h
theorem OwnN.ge (h : OwnN w B v xs) : ∀ k, v.ownBlock = some k → B ≤ k ∧ k < w.heap.size := World.ownsRow.lt (w := w) h
theorem OwnN.nil (w : World) (B : Nat) : OwnN w B (.slice none 0 0) [] := World.ownsRow_nil _ _ _ _
theorem OwnN.mono {B' : Nat} (h : OwnN w B v xs) (hB : B' ≤ B) : OwnN w B' v xs := by
  refine ⟨h.1, ?_⟩
  rcases h.2 with h | ⟨g, cap, cur, h1, h2, h3⟩
  · exact .inl h
  · exact .inr ⟨g, cap, cur, h1, Nat.le_trans hB h2, h3⟩
theorem OwnN.keep (h : OwnN w B v xs) (hk : ∀ k, v.ownBlock = some k → w'.heap[k]? = w.heap[k]?) : OwnN w' B v xs := by
  refine ⟨h.1, ?_⟩
  rcases h.2 with h | ⟨g, cap, cur, rfl, h2, h3, h4⟩
  · exact .inl h
  · exact .inr ⟨g, cap, cur, rfl, h2, (hk g rfl).trans h3, h4⟩
theorem OwnN.on (h : OwnN w B v xs) (hb : Below w.heap.size w w') : OwnN w' B v xs := h.keep fun k hk => hb.block k (h.ge k hk).2
/-- Where a block of the call's own is written, which is not this one. -/
theorem OwnN.grown {row : Option Nat} (h : OwnN w B v xs) (hg : w.grownBy w' row) (hne : ∀ k, v.ownBlock = some k → row ≠ some k) : OwnN w' B v xs :=
  h.keep fun k hk => hg.block k (h.ge k hk).2 (fun e => hne k hk e.symm)
/-- What a slice of the call's own holds, wherever it lies. -/
theorem OwnN.lst (h : OwnN w B v xs) : ∃ (A : Option Addr) (c : Nat), v = .slice A xs.length c ∧ xs.length ≤ c ∧ Ns w A xs := by
  rcases h.2 with ⟨rfl, hn⟩ | ⟨g, cap, cur, rfl, hg, hh, hcap, _, _, _⟩
  · have : xs = [] := List.eq_nil_of_length_eq_zero hn
    subst this
    exact ⟨none, 0, rfl, Nat.le_refl _, Ns.nil _ _⟩
  · have hlt := World.ownsRow.lt (w := w) (v := .slice (some ⟨g, 0, none⟩) xs.length cap) h g rfl
    refine ⟨some ⟨g, 0, none⟩, cap, rfl, hcap, fun j hj => ⟨_, rfl, hlt.2, NAt.of fun r hr => ?_⟩⟩
    rw [World.ownsRow.cellAt (w := w) h (j * 3 + r) (by omega), nws_at xs j r hj hr]
/-- The same, where there is something. -/
theorem OwnN.opened (h : OwnN w B v xs) (hn : 0 < xs.length) : ∃ g c, v = .slice (some ⟨g, 0, none⟩) xs.length c ∧ B ≤ g ∧ g < w.heap.size ∧ xs.length ≤ c ∧ c ≤ maxLen ∧ (∀ o : Nat, w.frozen? ⟨g, o, none⟩ = false) := by
  rcases h.2 with ⟨_, h0⟩ | ⟨g, cap, cur, rfl, hg, hh, hcap, hm, _, _⟩
  · omega
  · have hlt := World.ownsRow.lt (w := w) (v := .slice (some ⟨g, 0, none⟩) xs.length cap) h g rfl
    exact ⟨g, cap, rfl, hg, hlt.2, hcap, hm, World.ownsRow.frozenAt (w := w) h⟩
theorem OwnN.cell {g c : Nat} (h : OwnN w B (.slice (some ⟨g, 0, none⟩) xs.length c) xs) (j : Nat) (hj : j < xs.length) : w.cell? ⟨g, j * 3, none⟩ = some (.int .i64 (nw xs j).w) ∧ w.cell? ⟨g, j * 3 + 1, none⟩ = some (.int .u64 (nw xs j).i) ∧ w.cell? ⟨g, j * 3 + 2, none⟩ = some (.int .i64 (nw xs j).s) :=
  ⟨(World.ownsRow.cellAt (w := w) h (j * 3 + 0) (by omega)).trans (nws_at xs j 0 hj (by decide)), (World.ownsRow.cellAt (w := w) h (j * 3 + 1) (by omega)).trans (nws_at xs j 1 hj (by decide)), (World.ownsRow.cellAt (w := w) h (j * 3 + 2) (by omega)).trans (nws_at xs j 2 hj (by decide))⟩
/-- One of them laid anew. -/
theorem OwnN.set {g c i : Nat} (h : OwnN w B (.slice (some ⟨g, 0, none⟩) xs.length c) xs) (y : Nw) : OwnN (((w.setCell ⟨g, i * 3, none⟩ (.int .i64 y.w)).setCell ⟨g, i * 3 + 1, none⟩ (.int .u64 y.i)).setCell ⟨g, i * 3 + 2, none⟩ (.int .i64 y.s)) B (.slice (some ⟨g, 0, none⟩) xs.length c) (xs.set i y) := by
  have h0 := (World.ownsRow.stored (w := w) h (i * 3) (.int .i64 y.w)).1
  have h1 := (World.ownsRow.stored h0 (i * 3 + 1) (.int .u64 y.i)).1
  have h2 := (World.ownsRow.stored h1 (i * 3 + 2) (.int .i64 y.s)).1
  unfold OwnN
  rw [nws_set, List.length_set]
  exact h2
end
theorem run_append_nothingNw (w : World) (ty : TypeId) (B : Nat) (v : Value) (xs : List Nw) (hown : OwnN w B v xs) (c : Nat) (i0 : TypeInfo) (hi0 : Tryd.prog.info? 63 = some i0) :
    (Builtin.append_ #[25, 25] ty #[v, .slice none 0 c]).run Tryd.prog w = .ok v w := by
  have ht := Tryd.underlying25
  rcases hown.2 with ⟨rfl, _⟩ | ⟨g, cap, cur, rfl, _, _, hnc, _⟩
  · simp [Builtin.append_, run_underlying ht, sizeOf, typeInfo, hi0, Builtin.lenOf, Builtin.firstCells]
  · simp [Builtin.append_, run_underlying ht, sizeOf, typeInfo, hi0, Builtin.lenOf, Builtin.firstCells, hnc, storeCells]
/-- append onto a slice of the call's own, of any slice, nil too. -/
theorem wpList_appendNw {w : World} {ops : Array Oper} {rest : List Oper} {o : Oper} {a : Act} {Q : Exit → Act → World → Prop} (hgd : o.guard = none) (s x : Operand)
    (ho : o.op = .call { callee := .builtin .append, args := #[s, x], argTypes := #[25, 25] })
    (B : Nat) (v : Value) (xs : List Nw) (hs : a.eval s = v) (hown : OwnN w B v xs) (A : Option Addr) (c : Nat) (ys : List Nw) (hx : a.eval x = .slice A ys.length c) (hh : Ns w A ys)
    (hlen : xs.length + ys.length ≤ 100000) (hB : B ≤ w.heap.size)
    (h : ∀ v' w', OwnN w' B v' (xs ++ ys) → w.grownBy w' v.ownBlock → wpList Tryd.prog ops Q rest (a.put o.dst v') w') : wpList Tryd.prog ops Q (o :: rest) a w := by
  obtain ⟨i0, hi0, hz0, hz1, hz2⟩ := info_parts Tryd.infoNw
  rcases A with _ | ad
  · obtain rfl := hh.none_nil
    refine wpList_plain hgd fun K hK => ?_
    have hr := run_append_nothingNw w o.type B v xs hown c i0 hi0
    unfold Oper.wp execOp
    simp only [List.length_nil] at hx
    simp only [ho, resolve, invoke, builtin, Sem.run_bind, Sem.run_pure, Result.andThen_ok, List.map_toArray, List.map_cons, List.map_nil, hs, hx, hr]
    exact hK _ _ (h v w (by simpa using hown) (World.grownBy.refl _ _))
  · refine wpList_append_own _ hgd s x 25 ho B 63 i0 (.agg #[.int .i64 0, .int .u64 0, .int .i64 0]) 3 24 Tryd.underlying25 hi0 hz0 hz1 hz2 rfl (by decide) v _ _ hs hown ad ys.length c (nws ys) hx (nws_len ys) hh.cells (nws_one ys) (by unfold maxLen; omega) (by omega) hB ?_
    intro v' w1 hown1 hgrow _
    exact h v' w1 (by simpa [OwnN, nws_append] using hown1) hgrow
/-- A slice of one, laid anew. -/
theorem Ns.one (w : World) (x : Nw) (t : TypeId) : Ns (w.alloc (.cells #[.int .i64 x.w, .int .u64 x.i, .int .i64 x.s] t)) (some ⟨w.heap.size, 0, none⟩) [x] := by
  intro j hj
  refine ⟨_, rfl, by simp, ?_⟩
  match j, hj with
  | 0, _ => exact NAt.of fun r hr => by match r, hr with | 0, _ => go_simp; simp [nws1, nw] | 1, _ => go_simp; simp [nws1, nw] | 2, _ => go_simp; simp [nws1, nw]
theorem Ns.two (w : World) (x y : Nw) (t : TypeId) : Ns (w.alloc (.cells #[.int .i64 x.w, .int .u64 x.i, .int .i64 x.s, .int .i64 y.w, .int .u64 y.i, .int .i64 y.s] t)) (some ⟨w.heap.size, 0, none⟩) [x, y] := by
  intro j hj
  refine ⟨_, rfl, by simp, ?_⟩
  match j, hj with
  | 0, _ => exact NAt.of fun r hr => by match r, hr with | 0, _ => go_simp; simp [nws1, nw] | 1, _ => go_simp; simp [nws1, nw] | 2, _ => go_simp; simp [nws1, nw]
  | 1, _ => exact NAt.of fun r hr => by match r, hr with | 0, _ => go_simp; simp [nws1, nw] | 1, _ => go_simp; simp [nws1, nw] | 2, _ => go_simp; simp [nws1, nw]

end Go.Proofs.YtjeepmdklbfgeaaDoor
