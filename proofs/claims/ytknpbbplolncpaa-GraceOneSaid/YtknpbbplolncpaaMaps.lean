/-
  Maps of the call's own: a set of ints; of ints to uint64s.
-/
import Derived.Test.YtknpbbplolncpaaAsk
import Derived.Test.YtknpbbplolncpaaRaiseMath
import Derived.Maps.OwnSet
namespace Go.Proofs.Ytknpbbplolncpaa
open Go.Sort Go.RowKit Go.Proofs.Ytknpbbplolncpaa.Pure
open Go.Maps (Keyed int_keyed keyOf_int_mk IsMap)

theorem zeroB (w : World) : (zeroValue 4).run Try.prog w = .ok (.bool false) w := by kernel_rfl
theorem zeroU (w : World) : (zeroValue 25).run Try.prog w = .ok (.int .u64 0) w := by kernel_rfl
theorem intKeyed : Keyed Try.prog 3 := int_keyed Try.underlying3
theorem wf_of {k : Int} (h : 0 ≤ k ∧ k < 64) : (Lit.int .i64 k).wf = true := by
  simp [Lit.wf, IntKind.min, IntKind.max, IntKind.signed, IntKind.bits]
  omega
theorem wf_u64 {k : Int} (h : 0 ≤ k ∧ k ≤ 18446744073709551615) : (Lit.int .u64 k).wf = true := by
  simp [Lit.wf, IntKind.min, IntKind.max, IntKind.signed, IntKind.bits]
  omega
theorem keyIn {k : Int} (h : 0 ≤ k ∧ k < 64) : keyOf Try.prog 3 (.int .i64 k) = some (.int .i64 k) := keyOf_int_mk Try.underlying3 (wf_of h)
theorem below_kept {w w' : World} (hb : Below w.heap.size w w') : w.grownBy w' none := ⟨hb.os, hb.tape, hb.output, hb.size, fun b hb' _ => hb.block b hb'⟩

/-! ### a set -/
/-- Block g is a map in which just the keys S were put; S is without doubles. -/
def Ms (w : World) (g n : Nat) (S : List Int) : Prop :=
  ∃ D : DataW Unit, w.ownsMap Try.prog 3 (plainElem Try.prog 4) g n D ∧ (∀ k : Int, Maps.has D (.int .i64 k) = decide (k ∈ S)) ∧ Maps.size D = S.length
theorem Ms.made (w : World) : Ms (w.alloc (.map #[] 0)) w.heap.size 0 [] :=
  ⟨.map [], World.ownsMap_made _ _ _ _, fun k => by simp [Maps.has], rfl⟩
theorem Ms.on {w w' : World} {g n : Nat} {S : List Int} (h : Ms w g n S) (hb : Below w.heap.size w w') : Ms w' g n S := by
  obtain ⟨D, h1, h2⟩ := h
  exact ⟨D, h1.kept (row := none) (below_kept hb) (by simp), h2⟩
theorem Ms.lt {w : World} {g n : Nat} {S : List Int} (h : Ms w g n S) : g < w.heap.size := by
  obtain ⟨D, h1, _⟩ := h
  exact h1.lt
theorem Ms.apart {w : World} {g n : Nat} {S : List Int} (h : Ms w g n S) {a : Addr} {v : Value} (hc : w.cell? a = some v) : a.block ≠ g := fun e => by
  obtain ⟨D, ⟨es, clock, hb, _⟩, _⟩ := h
  unfold World.cell? at hc
  rw [e, hb] at hc
  cases hc
theorem Ms.len {w : World} {g n : Nat} {S : List Int} (h : Ms w g n S) (ty : TypeId) : (Builtin.len_ #[59] ty #[.map (some g)]).run Try.prog w = .ok (.int .i64 (S.length : Nat)) w := by
  obtain ⟨D, h1, _, h3⟩ := h
  rw [h1.len Try.underlying59 ty, h3]
set_option maxRecDepth 100000 in
/-- m[k] = true. -/
theorem Ms.put {w : World} {g n : Nat} {S : List Int} (h : Ms w g n S) (hn : n < 1000) (k : Int) (hk : 0 ≤ k ∧ k < 64) :
    ∃ w', (Instr.mapUpdate 59 (.map (some g)) (.int .i64 k) (.bool true)).run Try.prog w = .ok () w' ∧ Ms w' g (n + 1) (if k ∈ S then S else insN k S) ∧ w.grownBy w' (some g) := by
  obtain ⟨D, h1, h2, h3⟩ := h
  have hm : IsMap D := h1.isMap
  obtain ⟨w', hrun, h1', hg⟩ := h1.update intKeyed Try.underlying59 (by unfold maxLen; omega) (keyIn hk) (plainElem_bool Try.underlying4 true)
  refine ⟨w', hrun, ⟨_, h1', fun x => ?_, ?_⟩, hg⟩
  · by_cases e : x = k
    · subst e
      rw [Maps.has_put_same hm (by simp [WideAt.IsKeyLit])]
      split
      · simp_all
      · simp [ins_mem]
    · rw [Maps.has_put_other (by intro h; injection h with _ h; exact e h), h2 x]
      split
      · rfl
      · simp [ins_mem, e]
  · rw [Maps.size_put (h1.tidy intKeyed), h2 k, h3]
    by_cases e : k ∈ S
    · simp [e]
    · simp [e, ins_len k S e]

/-! ### of ints to uint64s -/
/-- Block g is a map that holds i at each key k of f k = some i, and no other; sz of them. -/
def Mu (w : World) (g n : Nat) (f : Int → Option Int) (sz : Nat) : Prop :=
  ∃ D : DataW Unit, w.ownsMap Try.prog 3 (plainElem Try.prog 25) g n D ∧ (∀ k : Int, Maps.has D (.int .i64 k) = (f k).isSome) ∧ (∀ k : Int, D.atKey (.int .i64 k) (.lit (.int .u64 0)) = .lit (.int .u64 ((f k).getD 0))) ∧ Maps.size D = sz
section
variable {w w' : World} {g n sz : Nat} {f : Int → Option Int}
theorem Mu.made (w : World) : Mu (w.alloc (.map #[] 0)) w.heap.size 0 (fun _ => none) 0 :=
  ⟨.map [], World.ownsMap_made _ _ _ _, fun k => by simp [Maps.has], fun k => by simp [DataW.atKey], rfl⟩
theorem Mu.on (h : Mu w g n f sz) (hb : Below w.heap.size w w') : Mu w' g n f sz := by
  obtain ⟨D, h1, h2⟩ := h
  exact ⟨D, h1.kept (row := none) (below_kept hb) (by simp), h2⟩
theorem Mu.lt (h : Mu w g n f sz) : g < w.heap.size := by
  obtain ⟨D, h1, _⟩ := h
  exact h1.lt
theorem Mu.apart (h : Mu w g n f sz) {a : Addr} {v : Value} (hc : w.cell? a = some v) : a.block ≠ g := fun e => by
  obtain ⟨D, ⟨es, clock, hb, _⟩, _⟩ := h
  unfold World.cell? at hc
  rw [e, hb] at hc
  cases hc
theorem Mu.len (h : Mu w g n f sz) (ty : TypeId) : (Builtin.len_ #[51] ty #[.map (some g)]).run Try.prog w = .ok (.int .i64 (sz : Nat)) w := by
  obtain ⟨D, h1, _, _, h3⟩ := h
  rw [h1.len Try.underlying51 ty, h3]
set_option maxRecDepth 100000 in
/-- v, is := m[k]. -/
theorem Mu.look (h : Mu w g n f sz) (k : Int) (hk : 0 ≤ k ∧ k < 64) (c : Int) (B : Bool) (hc : (f k).getD 0 = c) (hB : (f k).isSome = B) :
    (Instr.lookup 51 (.map (some g)) (.int .i64 k) true).run Try.prog w = .ok (.tuple #[.int .u64 c, .bool B]) w := by
  obtain ⟨D, h1, h2, h3, _⟩ := h
  obtain ⟨v, ps, hrun, hv⟩ := h1.look_ok intKeyed Try.underlying51 (zeroU w) (plainElem_int Try.underlying25 (by decide)) (keyIn hk)
  rw [h3 k, hc] at hv
  have hvb : v = .int .u64 c := by
    unfold plainElem at hv
    rw [Try.underlying25] at hv
    cases v <;> simp at hv
    obtain ⟨⟨rfl, _⟩, rfl, _⟩ := hv
    rfl
  rw [hrun, hvb, h2 k, hB]
set_option maxRecDepth 100000 in
/-- m[k] = c. -/
theorem Mu.put (h : Mu w g n f sz) (hn : n < 1000) (k c : Int) (hk : 0 ≤ k ∧ k < 64) (hc : 0 ≤ c ∧ c ≤ 18446744073709551615) :
    ∃ w', (Instr.mapUpdate 51 (.map (some g)) (.int .i64 k) (.int .u64 c)).run Try.prog w = .ok () w' ∧ Mu w' g (n + 1) (fun x => if x = k then some c else f x) (if (f k).isSome = true then sz else sz + 1) ∧ w.grownBy w' (some g) := by
  obtain ⟨D, h1, h2, h3, h4⟩ := h
  have hm : IsMap D := h1.isMap
  obtain ⟨w', hrun, h1', hg⟩ := h1.update intKeyed Try.underlying51 (by unfold maxLen; omega) (keyIn hk) (plainElem_int Try.underlying25 (wf_u64 hc))
  refine ⟨w', hrun, ⟨_, h1', fun x => ?_, fun x => ?_, ?_⟩, hg⟩
  · by_cases e : x = k
    · subst e
      rw [Maps.has_put_same hm (by simp [WideAt.IsKeyLit])]
      simp
    · rw [Maps.has_put_other (by intro h; injection h with _ h; exact e h), h2 x]
      simp [e]
  · by_cases e : x = k
    · subst e
      rw [Maps.atKey_put_same hm (by simp [WideAt.IsKeyLit])]
      simp
    · rw [Maps.atKey_put_other (by intro h; injection h with _ h; exact e h), h3 x]
      simp [e]
  · rw [Maps.size_put (h1.tidy intKeyed), h2 k, h4]
set_option maxRecDepth 100000 in
/-- delete(m, k). -/
theorem Mu.drop (h : Mu w g n f sz) (k : Int) (hk : 0 ≤ k ∧ k < 64) (ty : TypeId) :
    ∃ w', (Builtin.delete_ #[51, 3] ty #[.map (some g), .int .i64 k]).run Try.prog w = .ok (.tuple #[]) w' ∧ Mu w' g n (fun x => if x = k then none else f x) (if (f k).isSome = true then sz - 1 else sz) ∧ w.grownBy w' (some g) := by
  obtain ⟨D, h1, h2, h3, h4⟩ := h
  have ht := h1.tidy intKeyed
  obtain ⟨w', hrun, h1', hg⟩ := h1.drop intKeyed Try.underlying51 (keyIn hk) ty
  refine ⟨w', hrun, ⟨_, h1', fun x => ?_, fun x => ?_, ?_⟩, hg.grown⟩
  · by_cases e : x = k
    · subst e
      rw [Maps.has_del_same]
      simp
    · rw [Maps.has_del_other (by intro h; injection h with _ h; exact e h), h2 x]
      simp [e]
  · by_cases e : x = k
    · subst e
      rw [Maps.atKey_del_same]
      simp
    · rw [Maps.atKey_del_other (by intro h; injection h with _ h; exact e h), h3 x]
      simp [e]
  · have := Maps.size_del (k := .int .i64 k) ht
    rw [h2 k, h4] at this
    by_cases e : (f k).isSome = true
    · rw [if_pos e] at this ⊢; omega
    · rw [if_neg e] at this ⊢; omega
end
/-- Doubts lie in no map. -/
theorem va_apart {w w' : World} {g : Nat} {v : Value} {R : List Dt} (hne : ∀ (a : Addr) (u : Value), w.cell? a = some u → a.block ≠ g) (h : Va w v R) (hg : w.grownBy w' (some g)) : Va w' v R := by
  obtain ⟨A, c, ys, e, h1, h2, h3, h4⟩ := h
  refine ⟨A, c, ys, e, h1, h2, fun j hj => ?_, h4⟩
  obtain ⟨ad, e, k1, k2, k3⟩ := h3 j hj
  have hs := hg.size
  have hkeep : ∀ p : Addr, ∀ u, w.cell? p = some u → w'.cell? p = some u := fun p u hu => by
    have hlt := World.block_lt_of_cell? w _ hu
    exact (World.cell?_of_block (w := w) (hg.block p.block hlt (by intro e; injection e with e; exact hne p u hu e))).trans hu
  refine ⟨ad, e, by omega, ⟨hkeep _ _ k2.1, hkeep _ _ k2.2.1, hkeep _ _ k2.2.2.1, hkeep _ _ k2.2.2.2⟩, fun i hi => ?_, k3.2⟩
  obtain ⟨ad', e', k4, k5, k6⟩ := k3.1 i hi
  exact ⟨ad', e', by omega, by have : ad'.block < w.heap.size := k5; omega, hkeep _ _ k6⟩
end Go.Proofs.Ytknpbbplolncpaa
