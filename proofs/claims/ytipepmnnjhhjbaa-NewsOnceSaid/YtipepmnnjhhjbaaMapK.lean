/-
  A map of the call's own from ints to what is known.
-/
import Derived.Test.YtipepmnnjhhjbaaOnceMath
import Derived.Maps.OwnSet
namespace Go.Proofs.Ytipepmnnjhhjbaa
open Go.Sort Go.RowKit Go.Proofs.Ytipepmnnjhhjbaa.Pure
open Go.Maps (Keyed int_keyed keyOf_int_mk IsMap)

theorem zeroK (w : World) : (zeroValue 25).run Try.prog w = .ok (.agg #[.int .u64 0, .int .i64 0]) w := by kernel_rfl
theorem intKeyed3 : Keyed Try.prog 3 := int_keyed Try.underlying3
theorem wf_in3 {k : Int} (h : 0 ≤ k ∧ k < 64) : (Lit.int .i64 k).wf = true := by
  simp [Lit.wf, IntKind.min, IntKind.max, IntKind.signed, IntKind.bits]
  omega
/-- How what is known reads. -/
def knD (x : Kn) : DataW Unit := .agg [.lit (.int .u64 x.i), .lit (.int .i64 x.s)]
def knV (x : Kn) : Value := .agg #[.int .u64 x.i, .int .i64 x.s]
def knL : List Value → Option (DataW Unit × List MemPlace)
  | [.int .u64 a, .int .i64 b] => some (knD ⟨a, b⟩, [])
  | _ => none
def knR : Value → Option (DataW Unit × List MemPlace)
  | .agg cs => knL cs.toList
  | _ => none
theorem knR_mk (x : Kn) : knR (knV x) = some (knD x, []) := rfl
theorem knR_inv {v : Value} {x : Kn} {ps : List MemPlace} (h : knR v = some (knD x, ps)) : v = knV x := by
  unfold knR at h
  split at h
  · rename_i cs
    unfold knL at h
    split at h
    · rename_i a b e
      simp [knD] at h
      obtain ⟨⟨rfl, rfl⟩, _⟩ := h
      unfold knV
      rw [← e]
    · cases h
  · cases h

/-- Block g is a map that holds f. -/
def Mk (w : World) (g n : Nat) (f : Int → Option Kn) : Prop :=
  ∃ D : DataW Unit, w.ownsMap Try.prog 3 knR g n D ∧ (∀ k : Int, Maps.has D (.int .i64 k) = (f k).isSome) ∧ (∀ k : Int, D.atKey (.int .i64 k) (knD z0) = knD ((f k).getD z0))
section
variable {w w' : World} {g n : Nat} {f : Int → Option Kn}
theorem Mk.made (w : World) : Mk (w.alloc (.map #[] 0)) w.heap.size 0 (fun _ => none) :=
  ⟨.map [], World.ownsMap_made _ _ _ _, fun k => by simp [Maps.has], fun k => by simp [DataW.atKey]⟩
theorem Mk.kept {row : Option Nat} (h : Mk w g n f) (hg : w.grownBy w' row) (hne : some g ≠ row) : Mk w' g n f := by
  obtain ⟨D, h1, h2⟩ := h
  exact ⟨D, h1.kept hg hne, h2⟩
theorem Mk.on (h : Mk w g n f) (hb : Below w.heap.size w w') : Mk w' g n f :=
  h.kept (row := none) ⟨hb.os, hb.tape, hb.output, hb.size, fun b hb' _ => hb.block b hb'⟩ (by simp)
theorem Mk.drew (h : Mk w g n f) : Mk w.drew g n f := h
theorem Mk.mono (h : Mk w g n f) {n' : Nat} (hn : n ≤ n') : Mk w g n' f := by
  obtain ⟨D, h1, h2⟩ := h
  exact ⟨D, h1.mono hn, h2⟩
theorem Mk.lt (h : Mk w g n f) : g < w.heap.size := by
  obtain ⟨D, h1, _⟩ := h
  exact h1.lt
theorem Mk.apart (h : Mk w g n f) {a : Addr} {v : Value} (hc : w.cell? a = some v) : a.block ≠ g := fun e => by
  obtain ⟨D, ⟨es, clock, hb, _⟩, _⟩ := h
  unfold World.cell? at hc
  rw [e, hb] at hc
  cases hc
theorem Mk.ts (h : Mk w g n f) {A : Option Addr} {q : List Td} (hT : Ts w A q) (hg : w.grownBy w' (some g)) : Ts w' A q := fun j hj => by
  obtain ⟨ad, e, hlo, h1⟩ := hT j hj
  have hne : ad.block ≠ g := by have := h.apart h1.1; rwa [block_add] at this
  refine ⟨ad, e, Nat.lt_of_lt_of_le hlo hg.size, h1.keep fun p hp => World.cell?_of_block (w := w) (hg.block p.block (by rw [hp, block_add]; exact hlo) (by rw [hp, block_add]; intro e; injection e with e; exact hne e))⟩
set_option maxRecDepth 100000 in
/-- v, ok := m[k]. -/
theorem Mk.look (h : Mk w g n f) (k : Int) (hk : 0 ≤ k ∧ k < 64) (o : Option Kn) (ho : f k = o) (i s : Int) (B : Bool) (hi : i = (o.getD z0).i) (hs : s = (o.getD z0).s) (hB : B = o.isSome) :
    (Instr.lookup 51 (.map (some g)) (.int .i64 k) true).run Try.prog w = .ok (.tuple #[.agg #[.int .u64 i, .int .i64 s], .bool B]) w := by
  obtain ⟨D, h1, h2, h3⟩ := h
  obtain ⟨v, ps, hrun, hv⟩ := h1.look_ok intKeyed3 Try.underlying51 (zeroK w) (knR_mk z0) (keyOf_int_mk Try.underlying3 (wf_in3 hk))
  rw [h3 k, ho] at hv
  have hv' := knR_inv hv
  rw [hrun, hv', h2 k, ho, hi, hs, hB]
  rfl
set_option maxRecDepth 100000 in
/-- m[k] = x. -/
theorem Mk.put (h : Mk w g n f) (hn : n < 1000) (k : Int) (hk : 0 ≤ k ∧ k < 64) (x : Kn) :
    ∃ w', (Instr.mapUpdate 51 (.map (some g)) (.int .i64 k) (.agg #[.int .u64 x.i, .int .i64 x.s])).run Try.prog w = .ok () w' ∧ Mk w' g (n + 1) (putF f k x) ∧ w.grownBy w' (some g) ∧ (∀ A q', Ts w A q' → Ts w' A q') := by
  have h0 := h
  obtain ⟨D, h1, h2, h3⟩ := h
  have hm : IsMap D := h1.isMap
  obtain ⟨w', hrun, h1', hg⟩ := h1.update intKeyed3 Try.underlying51 (by unfold maxLen; omega) (keyOf_int_mk Try.underlying3 (wf_in3 hk)) (knR_mk x)
  refine ⟨w', hrun, ⟨_, h1', fun y => ?_, fun y => ?_⟩, hg, fun A q' hT => h0.ts hT hg⟩
  · unfold putF
    by_cases e : y = k
    · subst e
      rw [Maps.has_put_same hm (by simp [WideAt.IsKeyLit]), if_pos rfl]
      rfl
    · rw [Maps.has_put_other (by intro h; injection h with _ h; exact e h), h2 y, if_neg e]
  · unfold putF
    by_cases e : y = k
    · subst e
      rw [Maps.atKey_put_same hm (by simp [WideAt.IsKeyLit]), if_pos rfl]
      rfl
    · rw [Maps.atKey_put_other (by intro h; injection h with _ h; exact e h), h3 y, if_neg e]
end
end Go.Proofs.Ytipepmnnjhhjbaa
