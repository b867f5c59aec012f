/-
  Maps of the call's own from ints to ints: what is to be told of whom, how often it was told.
-/
import Derived.Test.YtipepmnnjhhjbaaOftenMath
import Derived.Maps.OwnSet
import Derived.Maps.RangeWalk
namespace Go.Proofs.Ytipepmnnjhhjbaa
open Go.Sort Go.RowKit Go.Proofs.Ytipepmnnjhhjbaa.Pure
open Go.Maps (Keyed int_keyed keyOf_int_mk IsMap)

theorem zeroI (w : World) : (zeroValue 3).run Try.prog w = .ok (.int .i64 0) w := by kernel_rfl
theorem intKeyed2 : Keyed Try.prog 3 := int_keyed Try.underlying3
theorem wf_in {k : Int} (h : -9223372036854775808 ≤ k ∧ k ≤ 9223372036854775807) : (Lit.int .i64 k).wf = true := by
  simp [Lit.wf, IntKind.min, IntKind.max, IntKind.signed, IntKind.bits]
  omega

/-- Block g is a map that holds f k at each key k of S, and no other; S is without doubles. -/
def Mi (w : World) (g n : Nat) (S : List Int) (f : Int → Int) (D : DataW Unit) : Prop :=
  w.ownsMap Try.prog 3 (plainElem Try.prog 3) g n D ∧ (∀ k : Int, D.atKey (.int .i64 k) (.lit (.int .i64 0)) = .lit (.int .i64 (f k))) ∧ (∀ k : Int, Maps.has D (.int .i64 k) = decide (k ∈ S)) ∧ S.Nodup ∧ Maps.size D = S.length
section
variable {w w' : World} {g n : Nat} {S : List Int} {f : Int → Int} {D : DataW Unit}
theorem Mi.made (w : World) : Mi (w.alloc (.map #[] 0)) w.heap.size 0 [] (fun _ => 0) (.map []) :=
  ⟨World.ownsMap_made _ _ _ _, fun k => by simp [DataW.atKey], fun k => by simp [Maps.has], List.nodup_nil, rfl⟩
theorem Mi.kept {row : Option Nat} (h : Mi w g n S f D) (hg : w.grownBy w' row) (hne : some g ≠ row) : Mi w' g n S f D := ⟨h.1.kept hg hne, h.2⟩
theorem Mi.on (h : Mi w g n S f D) (hb : Below w.heap.size w w') : Mi w' g n S f D :=
  h.kept (row := none) ⟨hb.os, hb.tape, hb.output, hb.size, fun b hb' _ => hb.block b hb'⟩ (by simp)
theorem Mi.lt (h : Mi w g n S f D) : g < w.heap.size := h.1.lt
/-- A cell lies in no map. -/
theorem Mi.apart (h : Mi w g n S f D) {a : Addr} {v : Value} (hc : w.cell? a = some v) : a.block ≠ g := fun e => by
  obtain ⟨es, clock, hb, _⟩ := h.1
  unfold World.cell? at hc
  rw [e, hb] at hc
  cases hc
theorem Mi.ts (h : Mi w g n S f D) {A : Option Addr} {q : List Td} (hT : Ts w A q) (hg : w.grownBy w' (some g)) : Ts w' A q := fun j hj => by
  obtain ⟨ad, e, hlo, h1⟩ := hT j hj
  have hne : ad.block ≠ g := by have := h.apart h1.1; rwa [block_add] at this
  refine ⟨ad, e, Nat.lt_of_lt_of_le hlo hg.size, h1.keep fun p hp => World.cell?_of_block (w := w) (hg.block p.block (by rw [hp, block_add]; exact hlo) (by rw [hp, block_add]; intro e; injection e with e; exact hne e))⟩
theorem Mi.ns (h : Mi w g n S f D) {A : Option Addr} {q : List Nw} (hT : Ns w A q) (hg : w.grownBy w' (some g)) : Ns w' A q := fun j hj => by
  obtain ⟨ad, e, hlo, h1⟩ := hT j hj
  have hne : ad.block ≠ g := by have := h.apart h1.1; rwa [block_add] at this
  refine ⟨ad, e, Nat.lt_of_lt_of_le hlo hg.size, h1.keep fun p hp => World.cell?_of_block (w := w) (hg.block p.block (by rw [hp, block_add]; exact hlo) (by rw [hp, block_add]; intro e; injection e with e; exact hne e))⟩
set_option maxRecDepth 100000 in
/-- m[k]. -/
theorem Mi.look (h : Mi w g n S f D) (k : Int) (hk : (Lit.int .i64 k).wf = true) (c : Int) (hc : f k = c) : (Instr.lookup 55 (.map (some g)) (.int .i64 k) false).run Try.prog w = .ok (.int .i64 c) w := by
  obtain ⟨c', hrun, hat, _⟩ := h.1.lookup_int intKeyed2 Try.underlying55 Try.underlying3 (zeroI w) (keyOf_int_mk Try.underlying3 hk)
  rw [h.2.1 k, hc] at hat
  injection hat with hat
  injection hat with _ hat
  rw [hrun, hat]
set_option maxRecDepth 100000 in
/-- m[k] = c. -/
theorem Mi.put (h : Mi w g n S f D) (hn : n < 1000) (k c : Int) (hk : (Lit.int .i64 k).wf = true) (hc : (Lit.int .i64 c).wf = true) (f' : Int → Int) (hf : ∀ x, f' x = if x = k then c else f x) :
    ∃ w' D', (Instr.mapUpdate 55 (.map (some g)) (.int .i64 k) (.int .i64 c)).run Try.prog w = .ok () w' ∧ Mi w' g (n + 1) (if k ∈ S then S else k :: S) f' D' ∧ w.grownBy w' (some g) := by
  have hm : IsMap D := h.1.isMap
  obtain ⟨w', hrun, h1', hg⟩ := h.1.update intKeyed2 Try.underlying55 (by unfold maxLen; omega) (keyOf_int_mk Try.underlying3 hk) (plainElem_int Try.underlying3 hc)
  refine ⟨w', _, hrun, ⟨h1', fun x => ?_, fun x => ?_, ?_, ?_⟩, hg⟩
  · by_cases e : x = k
    · subst e
      rw [Maps.atKey_put_same hm (by simp [WideAt.IsKeyLit]), hf, if_pos rfl]
    · rw [Maps.atKey_put_other (by intro h; injection h with _ h; exact e h), h.2.1 x, hf, if_neg e]
  · by_cases e : x = k
    · subst e
      rw [Maps.has_put_same hm (by simp [WideAt.IsKeyLit])]
      split <;> simp_all
    · rw [Maps.has_put_other (by intro h; injection h with _ h; exact e h), h.2.2.1 x]
      split <;> simp [e]
  · split
    · exact h.2.2.2.1
    · rename_i hk; exact List.nodup_cons.2 ⟨hk, h.2.2.2.1⟩
  · rw [Maps.size_put (h.1.tidy intKeyed2), h.2.2.1 k, h.2.2.2.2]
    by_cases e : k ∈ S <;> simp [e]
end
end Go.Proofs.Ytipepmnnjhhjbaa
