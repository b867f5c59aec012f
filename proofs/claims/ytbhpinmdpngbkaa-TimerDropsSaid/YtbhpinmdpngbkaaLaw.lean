/-
  How a law's statement is reached from its walk: the law returns true, and below the old heap nothing has turned.
-/
import Derived.Test.YtbhpinmdpngbkaaAwake
import Derived.ProofKit
import Derived.OpenShut
import Derived.Lib.SmallJoins
import Derived.Deep.Slices
namespace Go.Proofs.Ytbhpinmdpngbkaa
open Go.ChangeShapes Go.WideShapes Go.ChangeAt Go.RowKit Go.Joins

theorem own : ownKnob Try.prog.godebug = none := by kernel_rfl
theorem laidOut : laidOutB Try.prog = true := by kernel_rfl

section
variable {H : Type} {enc : TypeId × Value → H}

/-- Arguments read behind the call as they did before it. -/
theorem args_on {W W' : World} (hb : Below W.heap.size W W') : ∀ {ts : List TypeId} {vs : List Value} {ds : List (DataW H)} {ps : List MemPlace},
    (∀ t ∈ ts, Try.prog.readableRec t = true ∧ t < Try.prog.types.size) → (∀ x ∈ ps, x.block < W.heap.size) → DataW.TrodAll enc Try.prog W 0 (fun _ => true) true ts vs ds ps →
    DataW.TrodAll enc Try.prog W' 0 (fun b => decide (b < W.heap.size)) true ts vs ds ps := by
  intro ts
  induction ts with
  | nil =>
    intro vs ds ps _ _ h
    obtain ⟨rfl, rfl, rfl⟩ := trodAll_nil h
    rfl
  | cons t ts ih =>
    intro vs ds ps ht hlt h
    obtain ⟨v, vs', d, ds', p, q, rfl, rfl, rfl, h0, h1⟩ := trodAll_cons h
    exact ⟨p, q, Below.trod laidOut (ht t (by simp)).1 (ht t (by simp)).2 h0 hb (fun x hx => hlt x (by simp [hx])), ih (fun u hu => ht u (by simp [hu])) (fun x hx => hlt x (by simp [hx])) h1, rfl⟩

/-- A law that answered true, and turned nothing. -/
theorem law_post {f : Func} {s : ChangeSpec} {W W' : World} {args : Array Value} {ds gs : List (DataW H)} {before : List MemPlace}
    (hres : f.resultTypes = #[4]) (hpar : ∀ t ∈ f.params.toList, Try.prog.readableRec t = true ∧ t < Try.prog.types.size) (hvars : s.vars = [])
    (hW : DataW.Whole enc Try.prog f.params.toList s.vars false W args.toList ds gs before)
    (hr : (s.fn H (ds ++ gs)).results = [.lit (.bool true)]) (ha : (s.fn H (ds ++ gs)).args = ds) (hv : (s.fn H (ds ++ gs)).vars = []) (hb : Below W.heap.size W W') :
    s.post enc Try.prog f false true false false W args (.bool true) W' := by
  have hlt : ∀ p ∈ before, p.block < W.heap.size := fun p hp => hW.lt p hp
  have hW' := hW
  obtain ⟨p, q, hA, hV, rfl, _, _⟩ := hW'
  refine ⟨ds, gs, p ++ q, [], p, [], hW, ?_, ?_, ?_, hb.frame _, fun h => by cases h⟩
  · rw [hr, hres]
    exact trodAll_mk1 (shut_bool Try.underlying4 _)
  · rw [ha]
    exact args_on hb hpar (fun x hx => hlt x (by simp [hx])) hA
  · rw [hv, hvars]
    rfl

theorem cellsTm : Try.prog.cellsOf 33 = 4 := by kernel_rfl
theorem cellsI64 : Try.prog.cellsOf 2 = 1 := by kernel_rfl
theorem cellsInt : Try.prog.cellsOf 3 = 1 := by kernel_rfl
theorem cellsU64 : Try.prog.cellsOf 31 = 1 := by kernel_rfl
theorem cellsTake : Try.prog.cellsOf 37 = 4 := by kernel_rfl

theorem le_of_wf {a : Int} (h : (Lit.int .i64 a).wf = true) : a ≤ 9223372036854775807 := by
  have : -9223372036854775808 ≤ a ∧ a ≤ 9223372036854775807 := by simpa [Lit.wf, IntKind.min, IntKind.max, IntKind.signed, IntKind.bits] using h
  exact this.2

open Go.Proofs.Ytbhpinmdpngbkaa.Pure
/-- Four cells that read as a timer are a timer's. -/
theorem one_tm {W : World} {n : Nat} {cs : List Value} {x : DataW H × List MemPlace} (h : DataW.trod enc Try.prog W 0 (fun _ => true) true n 33 cs = some x) :
    ∃ y : Tm, cs = cells1 y ∧ y.a ≤ 9223372036854775807 := by
  obtain ⟨y0, y1, y2, y3, k, _, hl, h0, h1, h2, h3⟩ := trod_struct4 Try.underlying33 h
  rw [cellsTm] at hl
  match cs, hl with
  | [c0, c1, c2, c3], _ =>
    have g0 : DataW.trod enc Try.prog W 0 (fun _ => true) true k 2 ((([c0, c1, c2, c3] : List Value).drop 0).take (Try.prog.cellsOf 2)) = some y0 := h0
    have g1 : DataW.trod enc Try.prog W 0 (fun _ => true) true k 3 ((([c0, c1, c2, c3] : List Value).drop 1).take (Try.prog.cellsOf 3)) = some y1 := h1
    have g2 : DataW.trod enc Try.prog W 0 (fun _ => true) true k 3 ((([c0, c1, c2, c3] : List Value).drop 2).take (Try.prog.cellsOf 3)) = some y2 := h2
    have g3 : DataW.trod enc Try.prog W 0 (fun _ => true) true k 31 ((([c0, c1, c2, c3] : List Value).drop 3).take (Try.prog.cellsOf 31)) = some y3 := h3
    rw [cellsI64] at g0
    rw [cellsInt] at g1 g2
    rw [cellsU64] at g3
    simp only [List.drop_zero, List.drop_succ_cons, List.take_succ_cons, List.take_zero] at g0 g1 g2 g3
    obtain ⟨a, e0, _, w0⟩ := DataW.trod_int Try.underlying2 g0
    obtain ⟨b, e1, _, _⟩ := DataW.trod_int Try.underlying3 g1
    obtain ⟨c, e2, _, _⟩ := DataW.trod_int Try.underlying3 g2
    obtain ⟨d, e3, _, _⟩ := DataW.trod_int Try.underlying31 g3
    simp only [List.cons.injEq, and_true] at e0 e1 e2 e3
    subst e0 e1 e2 e3
    exact ⟨⟨a, b, c, d⟩, rfl, le_of_wf w0⟩

/-- A timer that came in. -/
theorem open_tm {W : World} {b0 : Nat} {v : Value} {d : DataW H} {p : List MemPlace} (hval : Value.okWide Try.prog W .any b0 33 v) (h : DataW.Trod enc Try.prog W 0 (fun _ => true) true 33 v d p) :
    ∃ x : Tm, v = .agg #[.int .i64 x.a, .int .i64 x.k, .int .i64 x.o, .int .u64 x.n] ∧ x.a ≤ 9223372036854775807 := by
  obtain ⟨cs, rfl, _⟩ := okWide_struct Try.underlying33 hval
  obtain ⟨fuel, hf⟩ := h
  obtain ⟨y, e, hy⟩ := one_tm hf
  refine ⟨y, ?_, hy⟩
  have : cs.toList = cells1 y := e
  obtain ⟨l⟩ := cs
  simp only at this
  rw [this]
  rfl

/-- Timers, out of what memory holds at each place. -/
theorem tms_of (W : World) (a : Addr) : ∀ m, (∀ i, i < m → ∃ y : Tm, (∀ r, r < 4 → W.cell? (a.add (i * 4 + r)) = (cells1 y)[r]?) ∧ y.a ≤ 9223372036854775807) →
    ∃ xs : List Tm, xs.length = m ∧ (∀ i, i < m → At W (a.add (i * 4)) (xs.getD i zt)) ∧ Fits xs
  | 0, _ => ⟨[], rfl, fun i hi => absurd hi (Nat.not_lt_zero i), fun _ h => (List.not_mem_nil h).elim⟩
  | m + 1, h => by
    obtain ⟨xs, hl, hx, hf⟩ := tms_of W a m fun i hi => h i (by omega)
    obtain ⟨y, hy, hya⟩ := h m (by omega)
    refine ⟨xs ++ [y], by simp [hl], fun i hi => ?_, fun x hm => ?_⟩
    · by_cases e : i < m
      · have : (xs ++ [y]).getD i zt = xs.getD i zt := by simp [List.getD, List.getElem?_append_left (show i < xs.length by omega)]
        rw [this]
        exact hx i e
      · obtain rfl : i = m := by omega
        have : (xs ++ [y]).getD i zt = y := by simp [List.getD, hl]
        rw [this]
        refine ⟨hy 0 (by decide), ?_, ?_, ?_⟩ <;> rw [add_add]
        · exact hy 1 (by decide)
        · exact hy 2 (by decide)
        · exact hy 3 (by decide)
    · rcases List.mem_append.1 hm with h1 | h1
      · exact hf x h1
      · rw [List.mem_singleton.1 h1]; exact hya

theorem tms_trod {W : World} {fuel : Nat} {cs : List Value} {x : DataW H × List MemPlace} (h : DataW.trod enc Try.prog W 0 (fun _ => true) true fuel 22 cs = some x) :
    ∃ (A : Option Addr) (c : Nat) (xs : List Tm), cs = [.slice A xs.length c] ∧ xs.length ≤ c ∧ c ≤ maxLen ∧ Lst W A xs ∧ Fits xs := by
  rcases Go.Deep.open_slice Try.underlying22 h with ⟨rfl, _⟩ | ⟨a, len, cap, m, n, D, Pl, rfl, _, hl, hm, hmm, _, hi⟩
  · exact ⟨none, 0, [], rfl, by simp, by simp, Lst.nil _ _, fun _ h => (List.not_mem_nil h).elim⟩
  · simp only [if_true] at hmm
    rw [cellsTm] at hi
    obtain ⟨xs, hxl, hx, hf⟩ := tms_of W a len fun i hil => by
      obtain ⟨cs', hc, ht⟩ := hi i (by omega)
      obtain ⟨y, rfl, hy⟩ := one_tm ht
      obtain ⟨_, _, hat⟩ := World.cells?_some hc
      exact ⟨y, fun r hr => by rw [← add_add]; exact hat r hr, hy⟩
    refine ⟨some a, cap, xs, by rw [hxl], by omega, hm, fun j hj => ⟨a, rfl, Nat.zero_le _, ?_, hx j (by omega)⟩, hf⟩
    have := World.block_lt_of_cell? W _ (hx j (by omega)).1
    rwa [block_add] at this
/-- Timers that came in. -/
theorem open_tms {W : World} {b0 : Nat} {v : Value} {d : DataW H} {p : List MemPlace} (hval : Value.okWide Try.prog W .any b0 22 v) (h : DataW.Trod enc Try.prog W 0 (fun _ => true) true 22 v d p) :
    ∃ (A : Option Addr) (c : Nat) (xs : List Tm), v = .slice A xs.length c ∧ xs.length ≤ c ∧ c ≤ maxLen ∧ Lst W A xs ∧ Fits xs := by
  obtain ⟨a0, len, cap, rfl⟩ := okWide_slice Try.underlying22 hval
  obtain ⟨fuel, hf⟩ := h
  obtain ⟨A, c, xs, e, h1, h2, h3, h4⟩ := tms_trod hf
  simp only [Value.cells, List.cons.injEq, and_true] at e
  exact ⟨A, c, xs, e, h1, h2, h3, h4⟩

/-- Timers, a tick, a kind, and somebody, that came in. -/
theorem open_take {W : World} {b0 : Nat} {v : Value} {d : DataW H} {p : List MemPlace} (hval : Value.okWide Try.prog W .any b0 37 v) (h : DataW.Trod enc Try.prog W 0 (fun _ => true) true 37 v d p) :
    ∃ (A : Option Addr) (c : Nat) (xs : List Tm) (now kind who : Int), v = .agg #[.slice A xs.length c, .int .i64 now, .int .i64 kind, .int .i64 who] ∧ xs.length ≤ c ∧ c ≤ maxLen ∧ Lst W A xs ∧ Fits xs := by
  obtain ⟨v0, v1, v2, v3, y0, y1, y2, y3, k, rfl, _, _, h0, h1, h2, h3⟩ := open_agg4 Try.underlying37 (by kernel_rfl) cellsTake hval h
  obtain ⟨A, c, xs, e0, g1, g2, g3, g4⟩ := tms_trod h0
  obtain ⟨now, e1, _, _⟩ := DataW.trod_int Try.underlying2 h1
  obtain ⟨kind, e2, _, _⟩ := DataW.trod_int Try.underlying3 h2
  obtain ⟨who, e3, _, _⟩ := DataW.trod_int Try.underlying3 h3
  simp only [List.cons.injEq, and_true] at e0 e1 e2 e3
  subst e0 e1 e2 e3
  exact ⟨A, c, xs, now, kind, who, rfl, g1, g2, g3, g4⟩

/-- Ticks that came in. -/
theorem open_ticks {W : World} {b0 : Nat} {v : Value} {d : DataW H} {p : List MemPlace} (hval : Value.okWide Try.prog W .any b0 46 v) (h : DataW.Trod enc Try.prog W 0 (fun _ => true) true 46 v d p) :
    ∃ (A : Option Addr) (c : Nat) (is : List Int), v = .slice A is.length c ∧ is.length ≤ c ∧ c ≤ maxLen ∧ (∀ j, j < is.length → ∃ ad, A = some ad ∧ ad.block < W.heap.size ∧ W.cell? (ad.add j) = some (.int .i64 (is.getD j 0))) ∧ ∀ i ∈ is, i ≤ 9223372036854775807 := by
  obtain ⟨a0, len, cap, rfl⟩ := okWide_slice Try.underlying46 hval
  obtain ⟨fuel, hf⟩ := h
  rcases open_ints Try.underlying46 Try.underlying2 cellsI64 hf with ⟨hcs, hx⟩ | ⟨a, len', cap', zs, hcs, _, hl, hm, hz, hx, hcell, hwz⟩
  · simp [Value.cells] at hcs
    obtain ⟨rfl, rfl, rfl⟩ := hcs
    exact ⟨none, 0, [], rfl, by simp, by simp, fun j hj => absurd hj (Nat.not_lt_zero j), fun _ h => (List.not_mem_nil h).elim⟩
  · simp [Value.cells] at hcs
    obtain ⟨rfl, rfl, rfl⟩ := hcs
    simp only [if_true] at hz
    have hlen : (zs.take len).length = len := by simp; omega
    refine ⟨some a, cap, zs.take len, by rw [hlen], by omega, hm, fun j hj => ?_, fun i hi => ?_⟩
    · rw [hlen] at hj
      have hc := hcell j (by omega)
      refine ⟨a, rfl, by have := World.block_lt_of_cell? W _ hc; rwa [block_add] at this, ?_⟩
      rw [hc]
      simp [List.getD, hj]
    · exact le_of_wf (hwz i (List.mem_of_mem_take hi))
end
end Go.Proofs.Ytbhpinmdpngbkaa
