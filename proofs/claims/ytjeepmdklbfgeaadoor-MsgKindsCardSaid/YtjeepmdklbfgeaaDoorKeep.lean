/-
  What stays where some blocks are written; the cells of a block that may be written.
-/
import Derived.Test.YtjeepmdklbfgeaaDoorPart
namespace Go.Proofs.YtjeepmdklbfgeaaDoor
open Go.Sort Go.RowKit Go.Proofs.YtjeepmdklbfgeaaDoor.Pure Go.Proofs.YtjeepmdklbfgeaaDoor.W Go.Proofs.YtjeepmdklbfgeaaDoor.W.Pure

/-- Of the blocks below B only those of S may have been written. -/
structure Kp (B : Nat) (S : List Nat) (w w' : World) : Prop where
  os : w'.os = w.os
  tape : w'.tape = w.tape
  output : w'.output = w.output
  size : w.heap.size ≤ w'.heap.size
  block : ∀ k, k < B → ¬ k ∈ S → w'.heap[k]? = w.heap[k]?
section
variable {B : Nat} {S : List Nat} {a b c w w' : World}
theorem Kp.of (h : Below B w w') : Kp B S w w' := ⟨h.os, h.tape, h.output, h.size, fun k hk _ => h.block k hk⟩
theorem Kp.below (h : Kp B [] w w') : Below B w w' := ⟨h.os, h.tape, h.output, h.size, fun k hk => h.block k hk (by simp)⟩
theorem Kp.refl (B : Nat) (S : List Nat) (w : World) : Kp B S w w := ⟨rfl, rfl, rfl, Nat.le_refl _, fun _ _ _ => rfl⟩
theorem Kp.trans (h : Kp B S a b) (k : Kp B S b c) : Kp B S a c :=
  ⟨k.os.trans h.os, k.tape.trans h.tape, k.output.trans h.output, Nat.le_trans h.size k.size, fun i hi hn => (k.block i hi hn).trans (h.block i hi hn)⟩
/-- Fewer blocks, more that may be written; what lies above plays no part. -/
theorem Kp.mono {B' : Nat} {S' : List Nat} (h : Kp B S a b) (hB : B' ≤ B) (hS : ∀ k, k < B' → k ∈ S → k ∈ S') : Kp B' S' a b :=
  ⟨h.os, h.tape, h.output, h.size, fun i hi hn => h.block i (by omega) (fun e => hn (hS i hi e))⟩
theorem Kp.set (h : Kp B S a w) {p : Addr} (hp : p.block ∈ S ∨ B ≤ p.block) (u : Value) : Kp B S a (w.setCell p u) :=
  ⟨h.os, h.tape, h.output, by simpa using h.size, fun i hi hn => (Below.heap_setCell w p u i (fun e => by
    rcases hp with hp | hp
    · exact hn (e ▸ hp)
    · omega)).trans (h.block i hi hn)⟩
theorem Kp.alloc (h : Kp B S a w) (hB : B ≤ w.heap.size) (o : Obj) : Kp B S a (w.alloc o) := h.trans (Kp.of ((Below.refl B w).alloc hB o))
theorem Kp.cell (h : Kp B S w w') {p : Addr} (hp : p.block < B) (hn : ¬ p.block ∈ S) : w'.cell? p = w.cell? p := World.cell?_of_block (h.block _ hp hn)
theorem Kp.frozen (h : Kp B S w w') {p : Addr} (hp : p.block < B) (hn : ¬ p.block ∈ S) : w'.frozen? p = w.frozen? p := World.frozen?_of_block (h.block _ hp hn)
end

/-- The cells of block b are cs; they may be written. -/
def Row (w : World) (b : Nat) (cs : List Value) : Prop := (∀ j, j < cs.length → w.cell? ⟨b, j, none⟩ = cs[j]?) ∧ ∀ o : Nat, w.frozen? ⟨b, o, none⟩ = false
section
variable {w w' : World} {b : Nat} {cs : List Value} {B : Nat} {S : List Nat}
theorem Row.lt (h : Row w b cs) (hc : 0 < cs.length) : b < w.heap.size := by
  have := h.1 0 hc
  rw [List.getElem?_eq_getElem hc] at this
  exact World.block_lt_of_cell? w _ this
theorem Row.at_ (h : Row w b cs) (j : Nat) (v : Value) (hv : cs[j]? = some v) : w.cell? ⟨b, j, none⟩ = some v :=
  (h.1 j (List.getElem?_eq_some_iff.1 hv).1).trans hv
theorem Row.kp (h : Row w b cs) (hk : Kp B S w w') (hB : b < B) (hS : ¬ b ∈ S) : Row w' b cs :=
  ⟨fun j hj => (hk.cell hB hS).trans (h.1 j hj), fun o => (hk.frozen (p := ⟨b, o, none⟩) hB hS).trans (h.2 o)⟩
theorem Row.on (h : Row w b cs) (hb : Below w.heap.size w w') (hc : 0 < cs.length) : Row w' b cs := h.kp (Kp.of (S := []) hb) (h.lt hc) (by simp)
theorem Row.new (w : World) (cs : Array Value) (t : TypeId) : Row (w.alloc (.cells cs t)) w.heap.size cs.toList :=
  ⟨fun j _ => by rw [World.cell?_alloc_new]; simp, fun o => World.frozen?_alloc_new w _ _ o⟩
theorem Row.set (h : Row w b cs) (j : Nat) (hj : j < cs.length) (v : Value) : Row (w.setCell ⟨b, j, none⟩ v) b (cs.set j v) := by
  refine ⟨fun i hi => ?_, fun o => by rw [World.frozen?_setCell]; exact h.2 o⟩
  rw [List.length_set] at hi
  rw [List.getElem?_set]
  by_cases e : j = i
  · subst e
    rw [if_pos rfl, if_pos hj]
    exact World.cell?_setCell_same _ _ _ (h.at_ j cs[j] (by simp [hj]))
  · rw [if_neg e, World.cell?_setCell_other _ _ _ _ (fun e' => e (by injection e'))]
    exact h.1 i hi
theorem Row.other (h : Row w b cs) {p : Addr} (hp : b ≠ p.block) (v : Value) : Row (w.setCell p v) b cs :=
  ⟨fun i hi => by rw [World.cell?_setCell_other _ _ _ _ (fun e => hp (by rw [e]))]; exact h.1 i hi, fun o => by rw [World.frozen?_setCell]; exact h.2 o⟩
end
theorem OwnN.kp {w w' : World} {B : Nat} {v : Value} {xs : List Nw} {S : List Nat} (h : OwnN w B v xs) (hk : Kp w.heap.size S w w') (hS : ∀ k ∈ S, k < B) : OwnN w' B v xs :=
  h.keep fun k e => hk.block k (h.ge k e).2 (fun hm => by have := (h.ge k e).1; have := hS k hm; omega)
theorem Own.kp {w w' : World} {B : Nat} {v : Value} {xs : List Kn} {S : List Nat} (h : Own w B v xs) (hk : Kp w.heap.size S w w') (hS : ∀ k ∈ S, k < B) : Own w' B v xs := by
  refine ⟨h.1, ?_⟩
  have hge := h.ge
  rcases h.2 with h | ⟨g, cap, cur, rfl, h2, h3, h4⟩
  · exact .inl h
  · exact .inr ⟨g, cap, cur, rfl, h2, (hk.block g (hge g rfl).2 (fun hm => by have := hS g hm; omega)).trans h3, h4⟩

/-- Octets that are taken, in block b. -/
def TkAt (w : World) (b : Nat) (s : ByteArray) (t : Tk) : Prop := Row w b [.string s, .int .i64 (t.p : Int), .bool t.b]
theorem TkAt.lt {w : World} {b : Nat} {s : ByteArray} {t : Tk} (h : TkAt w b s t) : b < w.heap.size := Row.lt h (show 0 < 3 by decide)
theorem TkAt.kp {w w' : World} {b : Nat} {s : ByteArray} {t : Tk} {S : List Nat} (h : TkAt w b s t) (hk : Kp w.heap.size S w w') (hS : ¬ b ∈ S) : TkAt w' b s t := Row.kp h hk h.lt hS
theorem TkAt.on {w w' : World} {b : Nat} {s : ByteArray} {t : Tk} (h : TkAt w b s t) (hb : Below w.heap.size w w') : TkAt w' b s t := Row.on h hb (show 0 < 3 by decide)
theorem TkAt.cells {w : World} {b : Nat} {s : ByteArray} {t : Tk} (h : TkAt w b s t) : w.cell? ⟨b, 0, none⟩ = some (.string s) ∧ w.cell? ⟨b, 1, none⟩ = some (.int .i64 (t.p : Int)) ∧ w.cell? ⟨b, 2, none⟩ = some (.bool t.b) ∧ ∀ o : Nat, w.frozen? ⟨b, o, none⟩ = false :=
  ⟨Row.at_ h 0 _ rfl, Row.at_ h 1 _ rfl, Row.at_ h 2 _ rfl, h.2⟩
theorem TkAt.go {w : World} {b : Nat} {s : ByteArray} {t : Tk} (h : TkAt w b s t) (n : Nat) : TkAt (w.setCell ⟨b, 1, none⟩ (.int .i64 (n : Int))) b s ⟨n, t.b⟩ := Row.set h 1 (by decide : 1 < 3) _
theorem TkAt.bad {w : World} {b : Nat} {s : ByteArray} {t : Tk} (h : TkAt w b s t) : TkAt (w.setCell ⟨b, 2, none⟩ (.bool true)) b s ⟨t.p, true⟩ := Row.set h 2 (by decide : 2 < 3) _
theorem block_addr (b o : Nat) : (⟨b, o, none⟩ : Addr).block = b := rfl
/-- What a call that takes leaves. -/
def Took (w : World) (b : Nat) (s : ByteArray) (t : Tk) (w' : World) : Prop := TkAt w' b s t ∧ Kp w.heap.size [b] w w'
end Go.Proofs.YtjeepmdklbfgeaaDoor
