/-
  What comes in: terms, what is asked, steps.
-/
import Derived.Test.YtlefnohcfnlejaaVa
import Derived.ProofKit
import Derived.OpenShut
import Derived.Lib.SmallJoins
import Derived.Deep.Slices
namespace Go.Proofs.Ytlefnohcfnlejaa
open Go.ChangeShapes Go.WideShapes Go.ChangeAt Go.RowKit Go.Joins Go.Proofs.Ytlefnohcfnlejaa.Pure

theorem own : ownKnob Try.prog.godebug = none := by kernel_rfl
theorem laidOut : laidOutB Try.prog = true := by kernel_rfl

section
variable {H : Type} {enc : TypeId × Value → H}

/-- Arguments read behind the call as they did before it. -/
theorem args_on {W W' : World} (hb : Below W.heap.size W W') : ∀ {ts : List TypeId} {vs : List Value} {ds : List (DataW H)} {ps : List MemPlace},
    (∀ t ∈ ts, Try.prog.readableRec t = true ∧ t < Try.prog.types.size) → (∀ x ∈ ps, x.block < W.heap.size) → DataW.TrodAll enc Try.prog W 0 (fun _ => true) true ts vs ds ps →
    DataW.TrodAll enc Try.prog W' 0 (fun b => decide (b < W.heap.size)) true ts vs ds ps := by
  intro ts
  induction ts with
  | nil =>
    intro vs ds ps _ _ h
    obtain ⟨rfl, rfl, rfl⟩ := trodAll_nil h
    rfl
  | cons t ts ih =>
    intro vs ds ps ht hlt h
    obtain ⟨v, vs', d, ds', p, q, rfl, rfl, rfl, h0, h1⟩ := trodAll_cons h
    exact ⟨p, q, Below.trod laidOut (ht t (by simp)).1 (ht t (by simp)).2 h0 hb (fun x hx => hlt x (by simp [hx])), ih (fun u hu => ht u (by simp [hu])) (fun x hx => hlt x (by simp [hx])) h1, rfl⟩

/-- A law that answered true, and turned nothing. -/
theorem law_post {f : Func} {s : ChangeSpec} {W W' : World} {args : Array Value} {ds gs : List (DataW H)} {before : List MemPlace}
    (hres : f.resultTypes = #[4]) (hpar : ∀ t ∈ f.params.toList, Try.prog.readableRec t = true ∧ t < Try.prog.types.size) (hvars : s.vars = [])
    (hW : DataW.Whole enc Try.prog f.params.toList s.vars false W args.toList ds gs before)
    (hr : (s.fn H (ds ++ gs)).results = [.lit (.bool true)]) (ha : (s.fn H (ds ++ gs)).args = ds) (hv : (s.fn H (ds ++ gs)).vars = []) (hb : Below W.heap.size W W') :
    s.post enc Try.prog f false true false false W args (.bool true) W' := by
  have hlt : ∀ p ∈ before, p.block < W.heap.size := fun p hp => hW.lt p hp
  have hW' := hW
  obtain ⟨p, q, hA, hV, rfl, _, _⟩ := hW'
  refine ⟨ds, gs, p ++ q, [], p, [], hW, ?_, ?_, ?_, hb.frame _, fun h => by cases h⟩
  · rw [hr, hres]
    exact trodAll_mk1 (shut_bool Try.underlying4 _)
  · rw [ha]
    exact args_on hb hpar (fun x hx => hlt x (by simp [hx])) hA
  · rw [hv, hvars]
    rfl


theorem cellsI64 : Try.prog.cellsOf 2 = 1 := by kernel_rfl
theorem cellsInt : Try.prog.cellsOf 3 = 1 := by kernel_rfl
theorem cellsU64 : Try.prog.cellsOf 31 = 1 := by kernel_rfl
theorem cellsU8 : Try.prog.cellsOf 5 = 1 := by kernel_rfl
theorem cellsBo : Try.prog.cellsOf 4 = 1 := by kernel_rfl
theorem cellsTm : Try.prog.cellsOf 23 = 3 := by kernel_rfl
theorem cellsVt : Try.prog.cellsOf 38 = 4 := by kernel_rfl
theorem cellsQs : Try.prog.cellsOf 40 = 10 := by kernel_rfl
theorem cellsSp : Try.prog.cellsOf 36 = 4 := by kernel_rfl
theorem i64_of_wf {a : Int} (h : (Lit.int .i64 a).wf = true) : -9223372036854775808 ≤ a ∧ a ≤ 9223372036854775807 := by
  simpa [Lit.wf, IntKind.min, IntKind.max, IntKind.signed, IntKind.bits] using h
theorem u64_of_wf {a : Int} (h : (Lit.int .u64 a).wf = true) : 0 ≤ a ∧ a ≤ 18446744073709551615 := by
  simpa [Lit.wf, IntKind.min, IntKind.max, IntKind.signed, IntKind.bits] using h
theorem u8_of_wf {a : Int} (h : (Lit.int .u8 a).wf = true) : 0 ≤ a ∧ a ≤ 255 := by
  simpa [Lit.wf, IntKind.min, IntKind.max, IntKind.signed, IntKind.bits] using h
theorem u16_of_wf {a : Int} (h : (Lit.int .u16 a).wf = true) : 0 ≤ a ∧ a ≤ 65535 := by
  simpa [Lit.wf, IntKind.min, IntKind.max, IntKind.signed, IntKind.bits] using h
theorem open_nat {k : IntKind} {t : TypeId} {m : Int} (ht : Try.prog.underlying t = some (.int k)) (hm : ∀ a, (Lit.int k a).wf = true → 0 ≤ a ∧ a ≤ m) {W : World} {b0 : Nat} {v : Value} {d : DataW H} {p : List MemPlace} (hval : Value.okWide Try.prog W .any b0 t v) (h : DataW.Trod enc Try.prog W 0 (fun _ => true) true t v d p) :
    ∃ a : Nat, v = .int k (a : Int) ∧ (a : Int) ≤ m := by
  obtain ⟨n, rfl⟩ := okWide_int ht hval
  obtain ⟨fuel, hf⟩ := h
  obtain ⟨a, e, _, hw⟩ := DataW.trod_int ht hf
  simp only [Value.cells, List.cons.injEq, and_true, Value.int.injEq, true_and] at e
  subst e
  have := hm _ hw
  obtain ⟨m, rfl⟩ := Int.eq_ofNat_of_zero_le this.1
  exact ⟨m, rfl, by omega⟩
def In64 (a : Int) : Prop := -9223372036854775808 ≤ a ∧ a ≤ 9223372036854775807
def FitT (x : Tm) : Prop := In64 x.t ∧ In64 x.d ∧ In64 x.r
def FitV (v : Vt) : Prop := (0 ≤ v.e ∧ v.e ≤ 18446744073709551615) ∧ In64 v.t ∧ In64 v.u ∧ In64 v.w
theorem one_tm {W : World} {n : Nat} {cs : List Value} {x : DataW H × List MemPlace} (h : DataW.trod enc Try.prog W 0 (fun _ => true) true n 23 cs = some x) :
    ∃ y : Tm, cs = [.int .i64 y.t, .int .i64 y.d, .int .i64 y.r] ∧ FitT y := by
  have hl : cs.length = 3 := by
    obtain ⟨xs, n', _, _, hl, _⟩ := DataW.trod_struct Try.underlying23 h
    rw [hl, cellsTm]
  match cs, hl with
  | [c0, c1, c2], _ =>
    obtain ⟨xs, n', _, hx, _, hlen, hg⟩ := DataW.trod_struct Try.underlying23 h
    match xs, hlen with
    | [y0, y1, y2], _ =>
      have g0 : DataW.trod enc Try.prog W 0 (fun _ => true) true n' 2 ((([c0, c1, c2] : List Value).drop 0).take (Try.prog.cellsOf 2)) = some y0 := hg 0 _ rfl
      rw [cellsI64] at g0
      have g1 : DataW.trod enc Try.prog W 0 (fun _ => true) true n' 2 ((([c0, c1, c2] : List Value).drop 1).take (Try.prog.cellsOf 2)) = some y1 := hg 1 _ rfl
      rw [cellsI64] at g1
      have g2 : DataW.trod enc Try.prog W 0 (fun _ => true) true n' 2 ((([c0, c1, c2] : List Value).drop 2).take (Try.prog.cellsOf 2)) = some y2 := hg 2 _ rfl
      rw [cellsI64] at g2
      simp only [List.drop_zero, List.drop_succ_cons, List.take_succ_cons, List.take_zero] at g0 g1 g2
      obtain ⟨v0, e0, _, w0⟩ := DataW.trod_int Try.underlying2 g0
      obtain ⟨v1, e1, _, w1⟩ := DataW.trod_int Try.underlying2 g1
      obtain ⟨v2, e2, _, w2⟩ := DataW.trod_int Try.underlying2 g2
      simp only [List.cons.injEq, and_true] at e0 e1 e2
      subst e0 e1 e2
      exact ⟨⟨v0, v1, v2⟩, rfl, i64_of_wf w0, i64_of_wf w1, i64_of_wf w2⟩
theorem one_vt {W : World} {n : Nat} {cs : List Value} {x : DataW H × List MemPlace} (h : DataW.trod enc Try.prog W 0 (fun _ => true) true n 38 cs = some x) :
    ∃ y : Vt, cs = [.int .u64 y.e, .int .i64 y.t, .int .i64 y.u, .int .i64 y.w] ∧ FitV y := by
  have hl : cs.length = 4 := by
    obtain ⟨xs, n', _, _, hl, _⟩ := DataW.trod_struct Try.underlying38 h
    rw [hl, cellsVt]
  match cs, hl with
  | [c0, c1, c2, c3], _ =>
    obtain ⟨xs, n', _, hx, _, hlen, hg⟩ := DataW.trod_struct Try.underlying38 h
    match xs, hlen with
    | [y0, y1, y2, y3], _ =>
      have g0 : DataW.trod enc Try.prog W 0 (fun _ => true) true n' 31 ((([c0, c1, c2, c3] : List Value).drop 0).take (Try.prog.cellsOf 31)) = some y0 := hg 0 _ rfl
      rw [cellsU64] at g0
      have g1 : DataW.trod enc Try.prog W 0 (fun _ => true) true n' 3 ((([c0, c1, c2, c3] : List Value).drop 1).take (Try.prog.cellsOf 3)) = some y1 := hg 1 _ rfl
      rw [cellsInt] at g1
      have g2 : DataW.trod enc Try.prog W 0 (fun _ => true) true n' 2 ((([c0, c1, c2, c3] : List Value).drop 2).take (Try.prog.cellsOf 2)) = some y2 := hg 2 _ rfl
      rw [cellsI64] at g2
      have g3 : DataW.trod enc Try.prog W 0 (fun _ => true) true n' 2 ((([c0, c1, c2, c3] : List Value).drop 3).take (Try.prog.cellsOf 2)) = some y3 := hg 3 _ rfl
      rw [cellsI64] at g3
      simp only [List.drop_zero, List.drop_succ_cons, List.take_succ_cons, List.take_zero] at g0 g1 g2 g3
      obtain ⟨v0, e0, _, w0⟩ := DataW.trod_int Try.underlying31 g0
      obtain ⟨v1, e1, _, w1⟩ := DataW.trod_int Try.underlying3 g1
      obtain ⟨v2, e2, _, w2⟩ := DataW.trod_int Try.underlying2 g2
      obtain ⟨v3, e3, _, w3⟩ := DataW.trod_int Try.underlying2 g3
      simp only [List.cons.injEq, and_true] at e0 e1 e2 e3
      subst e0 e1 e2 e3
      exact ⟨⟨v0, v1, v2, v3⟩, rfl, u64_of_wf w0, i64_of_wf w1, i64_of_wf w2, i64_of_wf w3⟩
/-- A step, as it lies there. -/
structure Rs where
  f : Int
  e : Int
  l : Int
  a : Bool
def zrs : Rs := ⟨0, 0, 0, false⟩
def rs (l : List Rs) (j : Nat) : Rs := l.getD j zrs
def FitR (x : Rs) : Prop := (0 ≤ x.f ∧ x.f ≤ 255) ∧ (0 ≤ x.e ∧ x.e ≤ 255) ∧ (0 ≤ x.l ∧ x.l ≤ 255)
theorem one_rs {W : World} {n : Nat} {cs : List Value} {x : DataW H × List MemPlace} (h : DataW.trod enc Try.prog W 0 (fun _ => true) true n 36 cs = some x) :
    ∃ y : Rs, cs = [.int .u8 y.f, .int .u8 y.e, .int .u8 y.l, .bool y.a] ∧ FitR y := by
  have hl : cs.length = 4 := by
    obtain ⟨xs, n', _, _, hl, _⟩ := DataW.trod_struct Try.underlying36 h
    rw [hl, cellsSp]
  match cs, hl with
  | [c0, c1, c2, c3], _ =>
    obtain ⟨xs, n', _, hx, _, hlen, hg⟩ := DataW.trod_struct Try.underlying36 h
    match xs, hlen with
    | [y0, y1, y2, y3], _ =>
      have g0 : DataW.trod enc Try.prog W 0 (fun _ => true) true n' 5 ((([c0, c1, c2, c3] : List Value).drop 0).take (Try.prog.cellsOf 5)) = some y0 := hg 0 _ rfl
      rw [cellsU8] at g0
      have g1 : DataW.trod enc Try.prog W 0 (fun _ => true) true n' 5 ((([c0, c1, c2, c3] : List Value).drop 1).take (Try.prog.cellsOf 5)) = some y1 := hg 1 _ rfl
      rw [cellsU8] at g1
      have g2 : DataW.trod enc Try.prog W 0 (fun _ => true) true n' 5 ((([c0, c1, c2, c3] : List Value).drop 2).take (Try.prog.cellsOf 5)) = some y2 := hg 2 _ rfl
      rw [cellsU8] at g2
      have g3 : DataW.trod enc Try.prog W 0 (fun _ => true) true n' 4 ((([c0, c1, c2, c3] : List Value).drop 3).take (Try.prog.cellsOf 4)) = some y3 := hg 3 _ rfl
      rw [cellsBo] at g3
      simp only [List.drop_zero, List.drop_succ_cons, List.take_succ_cons, List.take_zero] at g0 g1 g2 g3
      obtain ⟨v0, e0, _, w0⟩ := DataW.trod_int Try.underlying5 g0
      obtain ⟨v1, e1, _, w1⟩ := DataW.trod_int Try.underlying5 g1
      obtain ⟨v2, e2, _, w2⟩ := DataW.trod_int Try.underlying5 g2
      obtain ⟨v3, e3, _⟩ := DataW.trod_bool Try.underlying4 g3
      simp only [List.cons.injEq, and_true] at e0 e1 e2 e3
      subst e0 e1 e2 e3
      exact ⟨⟨v0, v1, v2, v3⟩, rfl, u8_of_wf w0, u8_of_wf w1, u8_of_wf w2⟩
theorem block_add (a : Addr) (n : Nat) : (a.add n).block = a.block := by unfold Addr.add; split <;> rfl
def RAt (w : World) (a : Addr) (x : Rs) : Prop := w.cell? a = some (.int .u8 x.f) ∧ w.cell? (a.add 1) = some (.int .u8 x.e) ∧ w.cell? (a.add 2) = some (.int .u8 x.l) ∧ w.cell? (a.add 3) = some (.bool x.a)
/-- The slice that begins at A holds l. -/
def RL (w : World) (A : Option Addr) (l : List Rs) : Prop := ∀ j, j < l.length → ∃ ad, A = some ad ∧ ad.block < w.heap.size ∧ RAt w (ad.add (j * 4)) (rs l j)
theorem RAt.keep {w w' : World} {a : Addr} {x : Rs} (h : RAt w a x) (hk : ∀ p : Addr, p.block = a.block → w'.cell? p = w.cell? p) : RAt w' a x :=
  ⟨(hk _ rfl).trans h.1, (hk _ (block_add _ _)).trans h.2.1, (hk _ (block_add _ _)).trans h.2.2.1, (hk _ (block_add _ _)).trans h.2.2.2⟩
theorem RAt.flat {w : World} {a : Addr} {x : Rs} (h : RAt w a x) : w.cell? a = some (.int .u8 x.f) ∧ w.cell? ⟨a.block, a.off + 1, none⟩ = some (.int .u8 x.e) ∧ w.cell? ⟨a.block, a.off + 2, none⟩ = some (.int .u8 x.l) ∧ w.cell? ⟨a.block, a.off + 3, none⟩ = some (.bool x.a) := h
theorem RL.on {w w' : World} {A : Option Addr} {l : List Rs} (h : RL w A l) (hb : Below w.heap.size w w') : RL w' A l := fun j hj => by
  obtain ⟨ad, e, h1, h2⟩ := h j hj
  have hs := hb.size
  exact ⟨ad, e, by omega, h2.keep fun p hp => hb.cell (by rw [hp, block_add]; exact h1)⟩
theorem rs_of (W : World) (a : Addr) : ∀ m : Nat, (∀ i, i < m → ∃ y : Rs, RAt W (a.add (i * 4)) y ∧ FitR y) → ∃ xs : List Rs, xs.length = m ∧ (∀ i, i < m → RAt W (a.add (i * 4)) (rs xs i)) ∧ ∀ i, i < m → FitR (rs xs i) := by
  intro m
  induction m with
  | zero => intro _; exact ⟨[], rfl, fun i hi => absurd hi (Nat.not_lt_zero i), fun j hj => absurd hj (Nat.not_lt_zero j)⟩
  | succ m ih =>
    intro h
    obtain ⟨xs, hl, hx, hf⟩ := ih fun i hi => h i (by omega)
    obtain ⟨y, hy, hb⟩ := h m (by omega)
    have e1 : ∀ i, i < m → rs (xs ++ [y]) i = rs xs i := fun i hi => by simp [rs, List.getD, List.getElem?_append_left (show i < xs.length by omega)]
    have e2 : rs (xs ++ [y]) m = y := by simp [rs, List.getD, ← hl]
    refine ⟨xs ++ [y], by simp [hl], fun i hi => ?_, fun i hi => ?_⟩
    · by_cases e : i < m
      · rw [e1 i e]; exact hx i e
      · obtain rfl : i = m := by omega
        rw [e2]; exact hy
    · by_cases e : i < m
      · rw [e1 i e]; exact hf i (by omega)
      · obtain rfl : i = m := by omega
        rw [e2]; exact hb
set_option maxRecDepth 100000 in
/-- Steps that came in. -/
theorem open_steps {W : World} {b0 : Nat} {v : Value} {d : DataW H} {p : List MemPlace} (hval : Value.okWide Try.prog W .any b0 24 v) (h : DataW.Trod enc Try.prog W 0 (fun _ => true) true 24 v d p) :
    ∃ (A : Option Addr) (c : Nat) (xs : List Rs), v = .slice A xs.length c ∧ xs.length ≤ c ∧ c ≤ maxLen ∧ RL W A xs ∧ ∀ j, j < xs.length → FitR (rs xs j) := by
  obtain ⟨a0, len, cap, rfl⟩ := okWide_slice Try.underlying24 hval
  obtain ⟨fuel, hf⟩ := h
  rcases Go.Deep.open_slice Try.underlying24 hf with ⟨hcs, _⟩ | ⟨a, len', cap', m, n, D, Pl, hcs, _, hl, hm, hmm, _, hi⟩
  · simp [Value.cells] at hcs
    obtain ⟨rfl, rfl, rfl⟩ := hcs
    exact ⟨none, 0, [], rfl, by simp, by simp, fun j hj => absurd hj (Nat.not_lt_zero j), fun j hj => absurd hj (Nat.not_lt_zero j)⟩
  · simp [Value.cells] at hcs
    obtain ⟨rfl, rfl, rfl⟩ := hcs
    simp only [if_true] at hmm
    rw [cellsSp] at hi
    obtain ⟨xs, hxl, hx, hf⟩ := rs_of W a len fun i hil => by
      obtain ⟨cs', hc, ht⟩ := hi i (by omega)
      obtain ⟨y, rfl, hy⟩ := one_rs ht
      obtain ⟨_, _, hat⟩ := World.cells?_some hc
      exact ⟨y, ⟨hat 0 (by decide), hat 1 (by decide), hat 2 (by decide), hat 3 (by decide)⟩, hy⟩
    refine ⟨some a, cap, xs, by rw [hxl], by omega, hm, fun j hj => ⟨a, rfl, ?_, hx j (by omega)⟩, fun j hj => hf j (by omega)⟩
    have := World.block_lt_of_cell? W _ (hx j (by omega)).1
    rwa [block_add] at this
theorem open_tm {W : World} {b0 : Nat} {v : Value} {d : DataW H} {p : List MemPlace} (hval : Value.okWide Try.prog W .any b0 23 v) (h : DataW.Trod enc Try.prog W 0 (fun _ => true) true 23 v d p) :
    ∃ x : Tm, v = .agg #[.int .i64 x.t, .int .i64 x.d, .int .i64 x.r] ∧ FitT x := by
  obtain ⟨cs, rfl, _⟩ := okWide_struct Try.underlying23 hval
  obtain ⟨fuel, hf⟩ := h
  obtain ⟨y, e, hy⟩ := one_tm hf
  refine ⟨y, ?_, hy⟩
  have : cs.toList = [.int .i64 y.t, .int .i64 y.d, .int .i64 y.r] := e
  obtain ⟨l⟩ := cs
  simp only at this
  rw [this]
/-- What is asked that came in. -/
theorem open_ask {W : World} {b0 : Nat} {v : Value} {d : DataW H} {p : List MemPlace} (hval : Value.okWide Try.prog W .any b0 40 v) (h : DataW.Trod enc Try.prog W 0 (fun _ => true) true 40 v d p) :
    ∃ (x : Tm) (y : Vt) (f e n : Int), v = .agg #[.int .i64 x.t, .int .i64 x.d, .int .i64 x.r, .int .u64 y.e, .int .i64 y.t, .int .i64 y.u, .int .i64 y.w, .int .i64 f, .int .u64 e, .int .i64 n] ∧ FitT x ∧ FitV y ∧ In64 f ∧ (0 ≤ e ∧ e ≤ 18446744073709551615) ∧ In64 n := by
  obtain ⟨cs, rfl, hsz⟩ := okWide_struct Try.underlying40 hval
  obtain ⟨l⟩ := cs
  match l, hsz.trans cellsQs with
  | [c0, c1, c2, c3, c4, c5, c6, c7, c8, c9], _ =>
    obtain ⟨fuel, hf⟩ := h
    obtain ⟨xs, n, _, hx, _, hlen, hg⟩ := DataW.trod_struct Try.underlying40 hf
    match xs, hlen with
    | [y0, y1, y2, y3, y4], _ =>
      have g0 : DataW.trod enc Try.prog W 0 (fun _ => true) true n 23 ((([c0, c1, c2, c3, c4, c5, c6, c7, c8, c9] : List Value).drop 0).take (Try.prog.cellsOf 23)) = some y0 := hg 0 _ rfl
      have g1 : DataW.trod enc Try.prog W 0 (fun _ => true) true n 38 ((([c0, c1, c2, c3, c4, c5, c6, c7, c8, c9] : List Value).drop 3).take (Try.prog.cellsOf 38)) = some y1 := hg 1 _ rfl
      have g2 : DataW.trod enc Try.prog W 0 (fun _ => true) true n 3 ((([c0, c1, c2, c3, c4, c5, c6, c7, c8, c9] : List Value).drop 7).take (Try.prog.cellsOf 3)) = some y2 := hg 2 _ rfl
      have g3 : DataW.trod enc Try.prog W 0 (fun _ => true) true n 31 ((([c0, c1, c2, c3, c4, c5, c6, c7, c8, c9] : List Value).drop 8).take (Try.prog.cellsOf 31)) = some y3 := hg 3 _ rfl
      have g4 : DataW.trod enc Try.prog W 0 (fun _ => true) true n 2 ((([c0, c1, c2, c3, c4, c5, c6, c7, c8, c9] : List Value).drop 9).take (Try.prog.cellsOf 2)) = some y4 := hg 4 _ rfl
      rw [cellsTm] at g0
      rw [cellsVt] at g1
      rw [cellsInt] at g2
      rw [cellsU64] at g3
      rw [cellsI64] at g4
      simp only [List.drop_zero, List.drop_succ_cons, List.take_succ_cons, List.take_zero] at g0 g1 g2 g3 g4
      obtain ⟨x, e0, hx0⟩ := one_tm g0
      obtain ⟨y, e1, hy0⟩ := one_vt g1
      obtain ⟨a, e2, _, w2⟩ := DataW.trod_int Try.underlying3 g2
      obtain ⟨b, e3, _, w3⟩ := DataW.trod_int Try.underlying31 g3
      obtain ⟨c, e4, _, w4⟩ := DataW.trod_int Try.underlying2 g4
      simp only [List.cons.injEq, and_true] at e0 e1 e2 e3 e4
      obtain ⟨rfl, rfl, rfl⟩ := e0
      obtain ⟨rfl, rfl, rfl, rfl⟩ := e1
      subst e2 e3 e4
      exact ⟨x, y, a, b, c, rfl, hx0, hy0, i64_of_wf w2, u64_of_wf w3, i64_of_wf w4⟩
end
end Go.Proofs.Ytlefnohcfnlejaa
