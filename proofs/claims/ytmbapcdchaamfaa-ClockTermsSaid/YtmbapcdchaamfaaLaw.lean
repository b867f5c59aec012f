/-
  How a law's statement is reached from its walk: the law returns true, and below the old heap nothing has turned.
-/
import Derived.Test.YtmbapcdchaamfaaAwake
import Derived.Test.YtmbapcdchaamfaaMay
import Derived.ProofKit
import Derived.OpenShut
import Derived.Lib.SmallJoins
import Derived.Deep.Slices
namespace Go.Proofs.Ytmbapcdchaamfaa
open Go.ChangeShapes Go.WideShapes Go.ChangeAt Go.RowKit Go.Joins

theorem own : ownKnob Try.prog.godebug = none := by kernel_rfl
theorem laidOut : laidOutB Try.prog = true := by kernel_rfl

section
variable {H : Type} {enc : TypeId × Value → H}

/-- Arguments read behind the call as they did before it. -/
theorem args_on {W W' : World} (hb : Below W.heap.size W W') : ∀ {ts : List TypeId} {vs : List Value} {ds : List (DataW H)} {ps : List MemPlace},
    (∀ t ∈ ts, Try.prog.readableRec t = true ∧ t < Try.prog.types.size) → (∀ x ∈ ps, x.block < W.heap.size) → DataW.TrodAll enc Try.prog W 0 (fun _ => true) true ts vs ds ps →
    DataW.TrodAll enc Try.prog W' 0 (fun b => decide (b < W.heap.size)) true ts vs ds ps := by
  intro ts
  induction ts with
  | nil =>
    intro vs ds ps _ _ h
    obtain ⟨rfl, rfl, rfl⟩ := trodAll_nil h
    rfl
  | cons t ts ih =>
    intro vs ds ps ht hlt h
    obtain ⟨v, vs', d, ds', p, q, rfl, rfl, rfl, h0, h1⟩ := trodAll_cons h
    exact ⟨p, q, Below.trod laidOut (ht t (by simp)).1 (ht t (by simp)).2 h0 hb (fun x hx => hlt x (by simp [hx])), ih (fun u hu => ht u (by simp [hu])) (fun x hx => hlt x (by simp [hx])) h1, rfl⟩

/-- A law that answered true, and turned nothing. -/
theorem law_post {f : Func} {s : ChangeSpec} {W W' : World} {args : Array Value} {ds gs : List (DataW H)} {before : List MemPlace}
    (hres : f.resultTypes = #[4]) (hpar : ∀ t ∈ f.params.toList, Try.prog.readableRec t = true ∧ t < Try.prog.types.size) (hvars : s.vars = [])
    (hW : DataW.Whole enc Try.prog f.params.toList s.vars false W args.toList ds gs before)
    (hr : (s.fn H (ds ++ gs)).results = [.lit (.bool true)]) (ha : (s.fn H (ds ++ gs)).args = ds) (hv : (s.fn H (ds ++ gs)).vars = []) (hb : Below W.heap.size W W') :
    s.post enc Try.prog f false true false false W args (.bool true) W' := by
  have hlt : ∀ p ∈ before, p.block < W.heap.size := fun p hp => hW.lt p hp
  have hW' := hW
  obtain ⟨p, q, hA, hV, rfl, _, _⟩ := hW'
  refine ⟨ds, gs, p ++ q, [], p, [], hW, ?_, ?_, ?_, hb.frame _, fun h => by cases h⟩
  · rw [hr, hres]
    exact trodAll_mk1 (shut_bool Try.underlying4 _)
  · rw [ha]
    exact args_on hb hpar (fun x hx => hlt x (by simp [hx])) hA
  · rw [hv, hvars]
    rfl

theorem cellsBt : Try.prog.cellsOf 59 = 2 := by kernel_rfl
theorem cellsBts : Try.prog.cellsOf 22 = 1 := by kernel_rfl
theorem cellsI64 : Try.prog.cellsOf 2 = 1 := by kernel_rfl
theorem cellsInt : Try.prog.cellsOf 3 = 1 := by kernel_rfl
theorem cellsU16 : Try.prog.cellsOf 46 = 1 := by kernel_rfl
theorem cellsU8 : Try.prog.cellsOf 5 = 1 := by kernel_rfl
theorem cellsAsk : Try.prog.cellsOf 24 = 7 := by kernel_rfl
theorem cellsTerm : Try.prog.cellsOf 48 = 4 := by kernel_rfl

theorem i64_of_wf {a : Int} (h : (Lit.int .i64 a).wf = true) : -9223372036854775808 ≤ a ∧ a ≤ 9223372036854775807 := by
  simpa [Lit.wf, IntKind.min, IntKind.max, IntKind.signed, IntKind.bits] using h
theorem u8_of_wf {a : Int} (h : (Lit.int .u8 a).wf = true) : 0 ≤ a ∧ a ≤ 255 := by
  simpa [Lit.wf, IntKind.min, IntKind.max, IntKind.signed, IntKind.bits] using h
theorem u16_of_wf {a : Int} (h : (Lit.int .u16 a).wf = true) : 0 ≤ a ∧ a ≤ 65535 := by
  simpa [Lit.wf, IntKind.min, IntKind.max, IntKind.signed, IntKind.bits] using h

open Go.Proofs.Ytmbapcdchaamfaa.Pure
/-- Two cells that read as a beat are a beat's. -/
theorem one_bt {W : World} {n : Nat} {cs : List Value} {x : DataW H × List MemPlace} (h : DataW.trod enc Try.prog W 0 (fun _ => true) true n 59 cs = some x) :
    ∃ y : Bt, cs = [.int .i64 y.n, .int .i64 y.k] := by
  have hl : cs.length = 2 := by
    obtain ⟨xs, n', _, _, hl, _⟩ := DataW.trod_struct Try.underlying59 h
    rw [hl, cellsBt]
  match cs, hl with
  | [c0, c1], _ =>
    obtain ⟨y0, y1, k, _, _, h0, h1⟩ := trod_struct2 Try.underlying59 h
    have g0 : DataW.trod enc Try.prog W 0 (fun _ => true) true k 3 ((([c0, c1] : List Value).drop 0).take (Try.prog.cellsOf 3)) = some y0 := h0
    have g1 : DataW.trod enc Try.prog W 0 (fun _ => true) true k 3 ((([c0, c1] : List Value).drop 1).take (Try.prog.cellsOf 3)) = some y1 := h1
    rw [cellsInt] at g0 g1
    simp only [List.drop_zero, List.drop_succ_cons, List.take_succ_cons, List.take_zero] at g0 g1
    obtain ⟨a, e0, _, _⟩ := DataW.trod_int Try.underlying3 g0
    obtain ⟨b, e1, _, _⟩ := DataW.trod_int Try.underlying3 g1
    simp only [List.cons.injEq, and_true] at e0 e1
    subst e0 e1
    exact ⟨⟨a, b⟩, rfl⟩

/-- Beats, out of what memory holds at each place. -/
theorem bts_of (W : World) (a : Addr) : ∀ m, (∀ i, i < m → ∃ y : Bt, BAt W (a.add (i * 2)) y) → ∃ xs : List Bt, xs.length = m ∧ ∀ i, i < m → BAt W (a.add (i * 2)) (bt xs i)
  | 0, _ => ⟨[], rfl, fun i hi => absurd hi (Nat.not_lt_zero i)⟩
  | m + 1, h => by
    obtain ⟨xs, hl, hx⟩ := bts_of W a m fun i hi => h i (by omega)
    obtain ⟨y, hy⟩ := h m (by omega)
    refine ⟨xs ++ [y], by simp [hl], fun i hi => ?_⟩
    by_cases e : i < m
    · have : bt (xs ++ [y]) i = bt xs i := by simp [bt, List.getD, List.getElem?_append_left (show i < xs.length by omega)]
      rw [this]
      exact hx i e
    · obtain rfl : i = m := by omega
      have : bt (xs ++ [y]) i = y := by simp [bt, List.getD, hl]
      rw [this]
      exact hy
theorem bts_trod {W : World} {fuel : Nat} {cs : List Value} {x : DataW H × List MemPlace} (h : DataW.trod enc Try.prog W 0 (fun _ => true) true fuel 22 cs = some x) :
    ∃ (A : Option Addr) (c : Nat) (xs : List Bt), cs = [.slice A xs.length c] ∧ xs.length ≤ c ∧ c ≤ maxLen ∧ Lst W A xs := by
  rcases Go.Deep.open_slice Try.underlying22 h with ⟨rfl, _⟩ | ⟨a, len, cap, m, n, D, Pl, rfl, _, hl, hm, hmm, _, hi⟩
  · exact ⟨none, 0, [], rfl, by simp, by simp, Lst.nil _ _⟩
  · simp only [if_true] at hmm
    rw [cellsBt] at hi
    obtain ⟨xs, hxl, hx⟩ := bts_of W a len fun i hil => by
      obtain ⟨cs', hc, ht⟩ := hi i (by omega)
      obtain ⟨y, rfl⟩ := one_bt ht
      obtain ⟨_, _, hat⟩ := World.cells?_some hc
      exact ⟨y, hat 0 (by decide), hat 1 (by decide)⟩
    refine ⟨some a, cap, xs, by rw [hxl], by omega, hm, fun j hj => ⟨a, rfl, ?_, hx j (by omega)⟩⟩
    have := World.block_lt_of_cell? W _ (hx j (by omega)).1
    rwa [block_add] at this

/-- What was asked, as a value. -/
def askV (n d r node p q : Int) (A : Option Addr) (len c : Nat) : Value := .agg #[.int .i64 n, .slice A len c, .int .i64 d, .int .i64 r, .int .i64 node, .int .i64 p, .int .i64 q]
/-- What came in: how many nodes, beats, d and r, a node, and places. -/
theorem open_ask {W : World} {b0 : Nat} {v : Value} {d : DataW H} {p : List MemPlace} (hval : Value.okWide Try.prog W .any b0 24 v) (h : DataW.Trod enc Try.prog W 0 (fun _ => true) true 24 v d p) :
    ∃ (n dd r node f t : Int) (A : Option Addr) (c : Nat) (xs : List Bt), v = askV n dd r node f t A xs.length c ∧ xs.length ≤ c ∧ c ≤ maxLen ∧ Lst W A xs ∧
      (-9223372036854775808 ≤ n ∧ n ≤ 9223372036854775807) ∧ (-9223372036854775808 ≤ dd ∧ dd ≤ 9223372036854775807) ∧ (-9223372036854775808 ≤ r ∧ r ≤ 9223372036854775807) ∧ (-9223372036854775808 ≤ node ∧ node ≤ 9223372036854775807) ∧ (-9223372036854775808 ≤ f ∧ f ≤ 9223372036854775807) ∧ (-9223372036854775808 ≤ t ∧ t ≤ 9223372036854775807) := by
  obtain ⟨cs, rfl, hsz⟩ := okWide_struct Try.underlying24 hval
  obtain ⟨l⟩ := cs
  match l, hsz.trans cellsAsk with
  | [c0, c1, c2, c3, c4, c5, c6], _ =>
    obtain ⟨fuel, hf⟩ := h
    obtain ⟨xs, n, _, hx, _, hlen, hg⟩ := DataW.trod_struct Try.underlying24 hf
    match xs, hlen with
    | [y0, y1, y2, y3, y4, y5, y6], _ =>
      have g0 : DataW.trod enc Try.prog W 0 (fun _ => true) true n 3 ((([c0, c1, c2, c3, c4, c5, c6] : List Value).drop 0).take (Try.prog.cellsOf 3)) = some y0 := hg 0 _ rfl
      have g1 : DataW.trod enc Try.prog W 0 (fun _ => true) true n 22 ((([c0, c1, c2, c3, c4, c5, c6] : List Value).drop 1).take (Try.prog.cellsOf 22)) = some y1 := hg 1 _ rfl
      have g2 : DataW.trod enc Try.prog W 0 (fun _ => true) true n 2 ((([c0, c1, c2, c3, c4, c5, c6] : List Value).drop 2).take (Try.prog.cellsOf 2)) = some y2 := hg 2 _ rfl
      have g3 : DataW.trod enc Try.prog W 0 (fun _ => true) true n 2 ((([c0, c1, c2, c3, c4, c5, c6] : List Value).drop 3).take (Try.prog.cellsOf 2)) = some y3 := hg 3 _ rfl
      have g4 : DataW.trod enc Try.prog W 0 (fun _ => true) true n 3 ((([c0, c1, c2, c3, c4, c5, c6] : List Value).drop 4).take (Try.prog.cellsOf 3)) = some y4 := hg 4 _ rfl
      have g5 : DataW.trod enc Try.prog W 0 (fun _ => true) true n 3 ((([c0, c1, c2, c3, c4, c5, c6] : List Value).drop 5).take (Try.prog.cellsOf 3)) = some y5 := hg 5 _ rfl
      have g6 : DataW.trod enc Try.prog W 0 (fun _ => true) true n 3 ((([c0, c1, c2, c3, c4, c5, c6] : List Value).drop 6).take (Try.prog.cellsOf 3)) = some y6 := hg 6 _ rfl
      rw [cellsInt] at g0 g4 g5 g6
      rw [cellsBts] at g1
      rw [cellsI64] at g2 g3
      simp only [List.drop_zero, List.drop_succ_cons, List.take_succ_cons, List.take_zero] at g0 g1 g2 g3 g4 g5 g6
      obtain ⟨n', e0, _, w0⟩ := DataW.trod_int Try.underlying3 g0
      obtain ⟨A, c, xs, e1, h1, h2, h3⟩ := bts_trod g1
      obtain ⟨d', e2, _, w2⟩ := DataW.trod_int Try.underlying2 g2
      obtain ⟨r', e3, _, w3⟩ := DataW.trod_int Try.underlying2 g3
      obtain ⟨a', e4, _, w4⟩ := DataW.trod_int Try.underlying3 g4
      obtain ⟨f', e5, _, w5⟩ := DataW.trod_int Try.underlying3 g5
      obtain ⟨t', e6, _, w6⟩ := DataW.trod_int Try.underlying3 g6
      simp only [List.cons.injEq, and_true] at e0 e1 e2 e3 e4 e5 e6
      subst e0 e1 e2 e3 e4 e5 e6
      exact ⟨n', d', r', a', f', t', A, c, xs, rfl, h1, h2, h3, i64_of_wf w0, i64_of_wf w2, i64_of_wf w3, i64_of_wf w4, i64_of_wf w5, i64_of_wf w6⟩

/-- A term, d, r, and by how much one is more, that came in. -/
theorem open_term {W : World} {b0 : Nat} {v : Value} {d : DataW H} {p : List MemPlace} (hval : Value.okWide Try.prog W .any b0 48 v) (h : DataW.Trod enc Try.prog W 0 (fun _ => true) true 48 v d p) :
    ∃ t dd r b : Int, v = .agg #[.int .u16 t, .int .u16 dd, .int .u16 r, .int .u8 b] ∧ (0 ≤ t ∧ t ≤ 65535) ∧ (0 ≤ dd ∧ dd ≤ 65535) ∧ (0 ≤ r ∧ r ≤ 65535) ∧ (0 ≤ b ∧ b ≤ 255) := by
  obtain ⟨v0, v1, v2, v3, y0, y1, y2, y3, k, rfl, _, _, h0, h1, h2, h3⟩ := open_agg4 Try.underlying48 (by kernel_rfl) cellsTerm hval h
  obtain ⟨t, e0, _, w0⟩ := DataW.trod_int Try.underlying46 h0
  obtain ⟨dd, e1, _, w1⟩ := DataW.trod_int Try.underlying46 h1
  obtain ⟨r, e2, _, w2⟩ := DataW.trod_int Try.underlying46 h2
  obtain ⟨b, e3, _, w3⟩ := DataW.trod_int Try.underlying5 h3
  simp only [List.cons.injEq, and_true] at e0 e1 e2 e3
  subst e0 e1 e2 e3
  exact ⟨t, dd, r, b, rfl, u16_of_wf w0, u16_of_wf w1, u16_of_wf w2, u8_of_wf w3⟩
end
end Go.Proofs.Ytmbapcdchaamfaa
