/-
  A map of the call's own from ints to bools, read as the list of the keys that were put.
-/
import Derived.Test.YtipepmnnjhhjbaaAwake
import Derived.Maps.OwnSet
namespace Go.Proofs.Ytipepmnnjhhjbaa
open Go.Sort Go.RowKit Go.Proofs.Ytipepmnnjhhjbaa.Pure
open Go.Maps (Keyed int_keyed keyOf_int_mk IsMap)

theorem zeroB (w : World) : (zeroValue 4).run Try.prog w = .ok (.bool false) w := by kernel_rfl
theorem intKeyed : Keyed Try.prog 3 := int_keyed Try.underlying3
theorem wf_of {k : Int} (h : 0 ≤ k ∧ k < 64) : (Lit.int .i64 k).wf = true := by
  simp [Lit.wf, IntKind.min, IntKind.max, IntKind.signed, IntKind.bits]
  omega
theorem keyIn {k : Int} (h : 0 ≤ k ∧ k < 64) : keyOf Try.prog 3 (.int .i64 k) = some (.int .i64 k) := keyOf_int_mk Try.underlying3 (wf_of h)

/-- Block g is a map in which just the keys S were put, each with true. -/
def Mb (w : World) (g n : Nat) (S : List Int) : Prop :=
  ∃ D : DataW Unit, w.ownsMap Try.prog 3 (plainElem Try.prog 4) g n D ∧ ∀ k : Int, D.atKey (.int .i64 k) (.lit (.bool false)) = .lit (.bool (decide (k ∈ S)))
theorem Mb.made (w : World) : Mb (w.alloc (.map #[] 0)) w.heap.size 0 [] :=
  ⟨.map [], World.ownsMap_made _ _ _ _, fun k => by simp [DataW.atKey]⟩
theorem Mb.on {w w' : World} {g n : Nat} {S : List Int} (h : Mb w g n S) (hb : Below w.heap.size w w') : Mb w' g n S := by
  obtain ⟨D, h1, h2⟩ := h
  exact ⟨D, h1.kept (row := none) ⟨hb.os, hb.tape, hb.output, hb.size, fun b hb' _ => hb.block b hb'⟩ (by simp), h2⟩
theorem Mb.lt {w : World} {g n : Nat} {S : List Int} (h : Mb w g n S) : g < w.heap.size := by
  obtain ⟨D, h1, _⟩ := h
  exact h1.lt
set_option maxRecDepth 100000 in
/-- m[k]. -/
theorem Mb.look {w : World} {g n : Nat} {S : List Int} (h : Mb w g n S) (k : Int) (hk : 0 ≤ k ∧ k < 64) (B : Bool) (hB : decide (k ∈ S) = B) :
    (Instr.lookup 57 (.map (some g)) (.int .i64 k) false).run Try.prog w = .ok (.bool B) w := by
  obtain ⟨D, h1, h2⟩ := h
  obtain ⟨v, ps, hrun, hv⟩ := h1.lookup intKeyed Try.underlying57 (zeroB w) (plainElem_bool Try.underlying4 false) (keyIn hk)
  rw [h2 k, hB] at hv
  have hvb : v = .bool B := by
    unfold plainElem at hv
    rw [Try.underlying4] at hv
    cases v <;> simp at hv
    rw [hv.1]
  rw [hrun, hvb]
set_option maxRecDepth 100000 in
/-- m[k] = true. -/
theorem Mb.put {w : World} {g n : Nat} {S : List Int} (h : Mb w g n S) (hn : n < 1000) (k : Int) (hk : 0 ≤ k ∧ k < 64) (S' : List Int) (hS : ∀ x, x ∈ S' ↔ x ∈ S ∨ x = k) :
    ∃ w', (Instr.mapUpdate 57 (.map (some g)) (.int .i64 k) (.bool true)).run Try.prog w = .ok () w' ∧ Mb w' g (n + 1) S' ∧ w.grownBy w' (some g) := by
  obtain ⟨D, h1, h2⟩ := h
  have hm : IsMap D := h1.isMap
  obtain ⟨w', hrun, h1', hg⟩ := h1.update intKeyed Try.underlying57 (by unfold maxLen; omega) (keyIn hk) (plainElem_bool Try.underlying4 true)
  refine ⟨w', hrun, ⟨_, h1', fun x => ?_⟩, hg⟩
  by_cases e : x = k
  · subst e
    rw [Maps.atKey_put_same hm (by simp [WideAt.IsKeyLit])]
    simp [hS]
  · rw [Maps.atKey_put_other (by intro h; injection h with _ h; exact e h), h2 x]
    simp [hS, e]
end Go.Proofs.Ytipepmnnjhhjbaa
