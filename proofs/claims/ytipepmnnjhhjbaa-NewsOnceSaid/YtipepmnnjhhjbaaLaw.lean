/-
  How a law's statement is reached from its walk: the law returns true, and below the old heap nothing has turned.
-/
import Derived.Test.YtipepmnnjhhjbaaAwake
import Derived.ProofKit
import Derived.OpenShut
import Derived.Lib.SmallJoins
import Derived.Deep.Slices
namespace Go.Proofs.Ytipepmnnjhhjbaa
open Go.ChangeShapes Go.WideShapes Go.ChangeAt Go.RowKit Go.Joins

theorem own : ownKnob Try.prog.godebug = none := by kernel_rfl
theorem laidOut : laidOutB Try.prog = true := by kernel_rfl

section
variable {H : Type} {enc : TypeId × Value → H}

/-- Arguments read behind the call as they did before it. -/
theorem args_on {W W' : World} (hb : Below W.heap.size W W') : ∀ {ts : List TypeId} {vs : List Value} {ds : List (DataW H)} {ps : List MemPlace},
    (∀ t ∈ ts, Try.prog.readableRec t = true ∧ t < Try.prog.types.size) → (∀ x ∈ ps, x.block < W.heap.size) → DataW.TrodAll enc Try.prog W 0 (fun _ => true) true ts vs ds ps →
    DataW.TrodAll enc Try.prog W' 0 (fun b => decide (b < W.heap.size)) true ts vs ds ps := by
  intro ts
  induction ts with
  | nil =>
    intro vs ds ps _ _ h
    obtain ⟨rfl, rfl, rfl⟩ := trodAll_nil h
    rfl
  | cons t ts ih =>
    intro vs ds ps ht hlt h
    obtain ⟨v, vs', d, ds', p, q, rfl, rfl, rfl, h0, h1⟩ := trodAll_cons h
    exact ⟨p, q, Below.trod laidOut (ht t (by simp)).1 (ht t (by simp)).2 h0 hb (fun x hx => hlt x (by simp [hx])), ih (fun u hu => ht u (by simp [hu])) (fun x hx => hlt x (by simp [hx])) h1, rfl⟩

/-- A law that answered true, and turned nothing. -/
theorem law_post {f : Func} {s : ChangeSpec} {W W' : World} {args : Array Value} {ds gs : List (DataW H)} {before : List MemPlace}
    (hres : f.resultTypes = #[4]) (hpar : ∀ t ∈ f.params.toList, Try.prog.readableRec t = true ∧ t < Try.prog.types.size) (hvars : s.vars = [])
    (hW : DataW.Whole enc Try.prog f.params.toList s.vars false W args.toList ds gs before)
    (hr : (s.fn H (ds ++ gs)).results = [.lit (.bool true)]) (ha : (s.fn H (ds ++ gs)).args = ds) (hv : (s.fn H (ds ++ gs)).vars = []) (hb : Below W.heap.size W W') :
    s.post enc Try.prog f false true false false W args (.bool true) W' := by
  have hlt : ∀ p ∈ before, p.block < W.heap.size := fun p hp => hW.lt p hp
  have hW' := hW
  obtain ⟨p, q, hA, hV, rfl, _, _⟩ := hW'
  refine ⟨ds, gs, p ++ q, [], p, [], hW, ?_, ?_, ?_, hb.frame _, fun h => by cases h⟩
  · rw [hr, hres]
    exact trodAll_mk1 (shut_bool Try.underlying4 _)
  · rw [ha]
    exact args_on hb hpar (fun x hx => hlt x (by simp [hx])) hA
  · rw [hv, hvars]
    rfl

theorem cellsKn : Try.prog.cellsOf 25 = 2 := by kernel_rfl
theorem cellsNw : Try.prog.cellsOf 27 = 3 := by kernel_rfl
theorem cellsTd : Try.prog.cellsOf 59 = 4 := by kernel_rfl
theorem cellsInt : Try.prog.cellsOf 3 = 1 := by kernel_rfl
theorem cellsU64 : Try.prog.cellsOf 23 = 1 := by kernel_rfl
theorem cellsU8 : Try.prog.cellsOf 5 = 1 := by kernel_rfl
theorem cellsTds : Try.prog.cellsOf 22 = 1 := by kernel_rfl
theorem cellsAsk : Try.prog.cellsOf 29 = 6 := by kernel_rfl

theorem u8_of_wf {a : Int} (h : (Lit.int .u8 a).wf = true) : 0 ≤ a ∧ a ≤ 255 := by
  simpa [Lit.wf, IntKind.min, IntKind.max, IntKind.signed, IntKind.bits] using h
theorem i64_of_wf {a : Int} (h : (Lit.int .i64 a).wf = true) : -9223372036854775808 ≤ a ∧ a ≤ 9223372036854775807 := by
  simpa [Lit.wf, IntKind.min, IntKind.max, IntKind.signed, IntKind.bits] using h

open Go.Proofs.Ytipepmnnjhhjbaa.Pure
/-- Two cells that read as what is known are that. -/
theorem one_kn {W : World} {n : Nat} {cs : List Value} {x : DataW H × List MemPlace} (h : DataW.trod enc Try.prog W 0 (fun _ => true) true n 25 cs = some x) :
    ∃ a b : Int, cs = [.int .u64 a, .int .i64 b] := by
  have hl : cs.length = 2 := by
    obtain ⟨xs, n', _, _, hl, _⟩ := DataW.trod_struct Try.underlying25 h
    rw [hl, cellsKn]
  match cs, hl with
  | [c0, c1], _ =>
    obtain ⟨y0, y1, k, _, _, h0, h1⟩ := trod_struct2 Try.underlying25 h
    have g0 : DataW.trod enc Try.prog W 0 (fun _ => true) true k 23 ((([c0, c1] : List Value).drop 0).take (Try.prog.cellsOf 23)) = some y0 := h0
    have g1 : DataW.trod enc Try.prog W 0 (fun _ => true) true k 3 ((([c0, c1] : List Value).drop 1).take (Try.prog.cellsOf 3)) = some y1 := h1
    rw [cellsU64] at g0
    rw [cellsInt] at g1
    simp only [List.drop_zero, List.drop_succ_cons, List.take_succ_cons, List.take_zero] at g0 g1
    obtain ⟨a, e0, _, w0⟩ := DataW.trod_int Try.underlying23 g0
    obtain ⟨b, e1, _, _⟩ := DataW.trod_int Try.underlying3 g1
    simp only [List.cons.injEq, and_true] at e0 e1
    subst e0 e1
    exact ⟨a, b, rfl⟩
/-- Three cells that read as news are that. -/
theorem one_nw {W : World} {n : Nat} {cs : List Value} {x : DataW H × List MemPlace} (h : DataW.trod enc Try.prog W 0 (fun _ => true) true n 27 cs = some x) :
    ∃ y : Nw, cs = [.int .i64 y.w, .int .u64 y.i, .int .i64 y.s] := by
  have hl : cs.length = 3 := by
    obtain ⟨xs, n', _, _, hl, _⟩ := DataW.trod_struct Try.underlying27 h
    rw [hl, cellsNw]
  match cs, hl with
  | [c0, c1, c2], _ =>
    obtain ⟨y0, y1, k, _, _, h0, h1⟩ := trod_struct2 Try.underlying27 h
    have g0 : DataW.trod enc Try.prog W 0 (fun _ => true) true k 3 ((([c0, c1, c2] : List Value).drop 0).take (Try.prog.cellsOf 3)) = some y0 := h0
    have g1 : DataW.trod enc Try.prog W 0 (fun _ => true) true k 25 ((([c0, c1, c2] : List Value).drop 1).take (Try.prog.cellsOf 25)) = some y1 := h1
    rw [cellsInt] at g0
    rw [cellsKn] at g1
    simp only [List.drop_zero, List.drop_succ_cons, List.take_succ_cons, List.take_zero] at g0 g1
    obtain ⟨a, e0, _, w0⟩ := DataW.trod_int Try.underlying3 g0
    obtain ⟨b, c, e1⟩ := one_kn g1
    simp only [List.cons.injEq, and_true] at e0 e1
    obtain ⟨rfl, rfl⟩ := e1
    subst e0
    exact ⟨⟨a, b, c⟩, rfl⟩
/-- Four cells that read as what is told are that. -/
theorem one_td {W : World} {n : Nat} {cs : List Value} {x : DataW H × List MemPlace} (h : DataW.trod enc Try.prog W 0 (fun _ => true) true n 59 cs = some x) :
    ∃ y : Td, cs = [.int .i64 y.w, .int .u64 y.i, .int .i64 y.s, .int .i64 y.l] := by
  have hl : cs.length = 4 := by
    obtain ⟨xs, n', _, _, hl, _⟩ := DataW.trod_struct Try.underlying59 h
    rw [hl, cellsTd]
  match cs, hl with
  | [c0, c1, c2, c3], _ =>
    obtain ⟨y0, y1, k, _, _, h0, h1⟩ := trod_struct2 Try.underlying59 h
    have g0 : DataW.trod enc Try.prog W 0 (fun _ => true) true k 27 ((([c0, c1, c2, c3] : List Value).drop 0).take (Try.prog.cellsOf 27)) = some y0 := h0
    have g1 : DataW.trod enc Try.prog W 0 (fun _ => true) true k 3 ((([c0, c1, c2, c3] : List Value).drop 3).take (Try.prog.cellsOf 3)) = some y1 := h1
    rw [cellsNw] at g0
    rw [cellsInt] at g1
    simp only [List.drop_zero, List.drop_succ_cons, List.take_succ_cons, List.take_zero] at g0 g1
    obtain ⟨y, e0⟩ := one_nw g0
    obtain ⟨b, e1, _, w1⟩ := DataW.trod_int Try.underlying3 g1
    simp only [List.cons.injEq, and_true] at e0 e1
    obtain ⟨rfl, rfl, rfl⟩ := e0
    subst e1
    exact ⟨⟨y.w, y.i, y.s, b⟩, rfl⟩

theorem tds_of (W : World) (a : Addr) : ∀ m, (∀ i, i < m → ∃ y : Td, TAt W (a.add (i * 4)) y) → ∃ xs : List Td, xs.length = m ∧ ∀ i, i < m → TAt W (a.add (i * 4)) (td xs i)
  | 0, _ => ⟨[], rfl, fun i hi => absurd hi (Nat.not_lt_zero i)⟩
  | m + 1, h => by
    obtain ⟨xs, hl, hx⟩ := tds_of W a m fun i hi => h i (by omega)
    obtain ⟨y, hy⟩ := h m (by omega)
    refine ⟨xs ++ [y], by simp [hl], fun i hi => ?_⟩
    by_cases e : i < m
    · have : td (xs ++ [y]) i = td xs i := by simp [td, List.getD, List.getElem?_append_left (show i < xs.length by omega)]
      rw [this]
      exact hx i e
    · obtain rfl : i = m := by omega
      have : td (xs ++ [y]) i = y := by simp [td, List.getD, hl]
      rw [this]
      exact hy
theorem tds_trod {W : World} {fuel : Nat} {cs : List Value} {x : DataW H × List MemPlace} (h : DataW.trod enc Try.prog W 0 (fun _ => true) true fuel 22 cs = some x) :
    ∃ (A : Option Addr) (c : Nat) (xs : List Td), cs = [.slice A xs.length c] ∧ xs.length ≤ c ∧ c ≤ maxLen ∧ Ts W A xs := by
  rcases Go.Deep.open_slice Try.underlying22 h with ⟨rfl, _⟩ | ⟨a, len, cap, m, n, D, Pl, rfl, _, hl, hm, hmm, _, hi⟩
  · exact ⟨none, 0, [], rfl, by simp, by simp, Ts.nil _ _⟩
  · simp only [if_true] at hmm
    rw [cellsTd] at hi
    obtain ⟨xs, hxl, hx⟩ := tds_of W a len fun i hil => by
      obtain ⟨cs', hc, ht⟩ := hi i (by omega)
      obtain ⟨y, rfl⟩ := one_td ht
      obtain ⟨_, _, hat⟩ := World.cells?_some hc
      exact ⟨y, hat 0 (by decide), hat 1 (by decide), hat 2 (by decide), hat 3 (by decide)⟩
    refine ⟨some a, cap, xs, by rw [hxl], by omega, hm, fun j hj => ⟨a, rfl, ?_, hx j (by omega)⟩⟩
    have := World.block_lt_of_cell? W _ (hx j (by omega)).1
    rwa [block_add] at this
set_option maxRecDepth 100000 in
theorem open_tds {W : World} {b0 : Nat} {v : Value} {d : DataW H} {p : List MemPlace} (hval : Value.okWide Try.prog W .any b0 22 v) (h : DataW.Trod enc Try.prog W 0 (fun _ => true) true 22 v d p) :
    ∃ (A : Option Addr) (c : Nat) (xs : List Td), v = .slice A xs.length c ∧ xs.length ≤ c ∧ c ≤ maxLen ∧ Ts W A xs := by
  obtain ⟨a0, len, cap, rfl⟩ := okWide_slice Try.underlying22 hval
  obtain ⟨fuel, hf⟩ := h
  obtain ⟨A, c, xs, e, h1, h2, h3⟩ := tds_trod hf
  simp only [Value.cells, List.cons.injEq, and_true] at e
  exact ⟨A, c, xs, e, h1, h2, h3⟩

theorem nws_of (W : World) (a : Addr) : ∀ m, (∀ i, i < m → ∃ y : Nw, NAt W (a.add (i * 3)) y) → ∃ xs : List Nw, xs.length = m ∧ ∀ i, i < m → NAt W (a.add (i * 3)) (nw xs i)
  | 0, _ => ⟨[], rfl, fun i hi => absurd hi (Nat.not_lt_zero i)⟩
  | m + 1, h => by
    obtain ⟨xs, hl, hx⟩ := nws_of W a m fun i hi => h i (by omega)
    obtain ⟨y, hy⟩ := h m (by omega)
    refine ⟨xs ++ [y], by simp [hl], fun i hi => ?_⟩
    by_cases e : i < m
    · have : nw (xs ++ [y]) i = nw xs i := by simp [nw, List.getD, List.getElem?_append_left (show i < xs.length by omega)]
      rw [this]
      exact hx i e
    · obtain rfl : i = m := by omega
      have : nw (xs ++ [y]) i = y := by simp [nw, List.getD, hl]
      rw [this]
      exact hy
theorem nws_trod {W : World} {fuel : Nat} {cs : List Value} {x : DataW H × List MemPlace} (h : DataW.trod enc Try.prog W 0 (fun _ => true) true fuel 37 cs = some x) :
    ∃ (A : Option Addr) (c : Nat) (xs : List Nw), cs = [.slice A xs.length c] ∧ xs.length ≤ c ∧ c ≤ maxLen ∧ Ns W A xs := by
  rcases Go.Deep.open_slice Try.underlying37 h with ⟨rfl, _⟩ | ⟨a, len, cap, m, n, D, Pl, rfl, _, hl, hm, hmm, _, hi⟩
  · exact ⟨none, 0, [], rfl, by simp, by simp, Ns.nil _ _⟩
  · simp only [if_true] at hmm
    rw [cellsNw] at hi
    obtain ⟨xs, hxl, hx⟩ := nws_of W a len fun i hil => by
      obtain ⟨cs', hc, ht⟩ := hi i (by omega)
      obtain ⟨y, rfl⟩ := one_nw ht
      obtain ⟨_, _, hat⟩ := World.cells?_some hc
      exact ⟨y, hat 0 (by decide), hat 1 (by decide), hat 2 (by decide)⟩
    refine ⟨some a, cap, xs, by rw [hxl], by omega, hm, fun j hj => ⟨a, rfl, ?_, hx j (by omega)⟩⟩
    have := World.block_lt_of_cell? W _ (hx j (by omega)).1
    rwa [block_add] at this
set_option maxRecDepth 100000 in
theorem open_nws {W : World} {b0 : Nat} {v : Value} {d : DataW H} {p : List MemPlace} (hval : Value.okWide Try.prog W .any b0 37 v) (h : DataW.Trod enc Try.prog W 0 (fun _ => true) true 37 v d p) :
    ∃ (A : Option Addr) (c : Nat) (xs : List Nw), v = .slice A xs.length c ∧ xs.length ≤ c ∧ c ≤ maxLen ∧ Ns W A xs := by
  obtain ⟨a0, len, cap, rfl⟩ := okWide_slice Try.underlying37 hval
  obtain ⟨fuel, hf⟩ := h
  obtain ⟨A, c, xs, e, h1, h2, h3⟩ := nws_trod hf
  simp only [Value.cells, List.cons.injEq, and_true] at e
  exact ⟨A, c, xs, e, h1, h2, h3⟩

/-- Octets, in a slice. -/
def Octs (w : World) (A : Option Addr) (is : List Int) : Prop := (∀ j, j < is.length → ∃ ad, A = some ad ∧ ad.block < w.heap.size ∧ w.cell? (ad.add j) = some (.int .u8 (is.getD j 0))) ∧ ∀ i ∈ is, 0 ≤ i ∧ i ≤ 255
theorem octs_trod {W : World} {fuel : Nat} {cs : List Value} {x : DataW H × List MemPlace} (hf : DataW.trod enc Try.prog W 0 (fun _ => true) true fuel 50 cs = some x) :
    ∃ (A : Option Addr) (c : Nat) (is : List Int), cs = [.slice A is.length c] ∧ is.length ≤ c ∧ c ≤ maxLen ∧ Octs W A is := by
  rcases open_ints Try.underlying50 Try.underlying5 cellsU8 hf with ⟨rfl, hx⟩ | ⟨a, len', cap', zs, rfl, _, hl, hm, hz, hx, hcell, hwz⟩
  · exact ⟨none, 0, [], rfl, by simp, by simp, fun j hj => absurd hj (Nat.not_lt_zero j), fun _ h => (List.not_mem_nil h).elim⟩
  · simp only [if_true] at hz
    have hlen : (zs.take len').length = len' := by simp; omega
    refine ⟨some a, cap', zs.take len', by rw [hlen], by omega, hm, fun j hj => ?_, fun i hi => ?_⟩
    · rw [hlen] at hj
      have hc := hcell j (by omega)
      refine ⟨a, rfl, by have := World.block_lt_of_cell? W _ hc; rwa [block_add] at this, ?_⟩
      rw [hc]
      simp [List.getD, hj]
    · exact u8_of_wf (hwz i (List.mem_of_mem_take hi))
theorem Octs.on {w w' : World} {A : Option Addr} {is : List Int} (h : Octs w A is) (hb : Below w.heap.size w w') : Octs w' A is := ⟨fun j hj => by
  obtain ⟨ad, e, h1, h2⟩ := h.1 j hj
  have hs := hb.size
  exact ⟨ad, e, by omega, (hb.cell (by rw [block_add]; exact h1)).trans h2⟩, h.2⟩

set_option maxRecDepth 100000 in
/-- A small number that came in. -/
theorem open_u8 {W : World} {b0 : Nat} {v : Value} {d : DataW H} {p : List MemPlace} (hval : Value.okWide Try.prog W .any b0 5 v) (h : DataW.Trod enc Try.prog W 0 (fun _ => true) true 5 v d p) :
    ∃ a : Nat, v = .int .u8 (a : Int) ∧ a ≤ 255 := by
  obtain ⟨n, rfl⟩ := okWide_int Try.underlying5 hval
  obtain ⟨fuel, hf⟩ := h
  obtain ⟨a, e, _, hw⟩ := DataW.trod_int Try.underlying5 hf
  simp only [Value.cells, List.cons.injEq, and_true, Value.int.injEq, true_and] at e
  subst e
  have := u8_of_wf hw
  obtain ⟨m, rfl⟩ := Int.eq_ofNat_of_zero_le this.1
  exact ⟨m, rfl, by omega⟩

set_option maxRecDepth 100000 in
/-- Octets that came in. -/
theorem open_octs {W : World} {b0 : Nat} {v : Value} {d : DataW H} {p : List MemPlace} (hval : Value.okWide Try.prog W .any b0 50 v) (h : DataW.Trod enc Try.prog W 0 (fun _ => true) true 50 v d p) :
    ∃ (A : Option Addr) (c : Nat) (is : List Int), v = .slice A is.length c ∧ is.length ≤ c ∧ c ≤ maxLen ∧ Octs W A is := by
  obtain ⟨a0, len, cap, rfl⟩ := okWide_slice Try.underlying50 hval
  obtain ⟨fuel, hf⟩ := h
  obtain ⟨A, c, xs, e, h1, h2, h3⟩ := octs_trod hf
  simp only [Value.cells, List.cons.injEq, and_true] at e
  exact ⟨A, c, xs, e, h1, h2, h3⟩
set_option maxRecDepth 100000 in
/-- What came in: a queue, news, and two numbers. -/
theorem open_ask {W : World} {b0 : Nat} {v : Value} {d : DataW H} {p : List MemPlace} (hval : Value.okWide Try.prog W .any b0 29 v) (h : DataW.Trod enc Try.prog W 0 (fun _ => true) true 29 v d p) :
    ∃ (A : Option Addr) (c : Nat) (q : List Td) (n : Nw) (a b : Int), v = .agg #[.slice A q.length c, .int .i64 n.w, .int .u64 n.i, .int .i64 n.s, .int .i64 a, .int .i64 b] ∧ (q.length ≤ c ∧ c ≤ maxLen ∧ Ts W A q) ∧
      (-9223372036854775808 ≤ a ∧ a ≤ 9223372036854775807) ∧ (-9223372036854775808 ≤ b ∧ b ≤ 9223372036854775807) := by
  obtain ⟨cs, rfl, hsz⟩ := okWide_struct Try.underlying29 hval
  obtain ⟨l⟩ := cs
  match l, hsz.trans cellsAsk with
  | [c0, c1, c2, c3, c4, c5], _ =>
    obtain ⟨fuel, hf⟩ := h
    obtain ⟨xs, n, _, hx, _, hlen, hg⟩ := DataW.trod_struct Try.underlying29 hf
    match xs, hlen with
    | [y0, y1, y2, y3], _ =>
      have g0 : DataW.trod enc Try.prog W 0 (fun _ => true) true n 22 ((([c0, c1, c2, c3, c4, c5] : List Value).drop 0).take (Try.prog.cellsOf 22)) = some y0 := hg 0 _ rfl
      have g1 : DataW.trod enc Try.prog W 0 (fun _ => true) true n 27 ((([c0, c1, c2, c3, c4, c5] : List Value).drop 1).take (Try.prog.cellsOf 27)) = some y1 := hg 1 _ rfl
      have g2 : DataW.trod enc Try.prog W 0 (fun _ => true) true n 3 ((([c0, c1, c2, c3, c4, c5] : List Value).drop 4).take (Try.prog.cellsOf 3)) = some y2 := hg 2 _ rfl
      have g3 : DataW.trod enc Try.prog W 0 (fun _ => true) true n 3 ((([c0, c1, c2, c3, c4, c5] : List Value).drop 5).take (Try.prog.cellsOf 3)) = some y3 := hg 3 _ rfl
      rw [cellsTds] at g0
      rw [cellsNw] at g1
      rw [cellsInt] at g2 g3
      simp only [List.drop_zero, List.drop_succ_cons, List.take_succ_cons, List.take_zero] at g0 g1 g2 g3
      obtain ⟨A, c, q, e0, h00, h01, h02⟩ := tds_trod g0
      obtain ⟨nn, e1⟩ := one_nw g1
      obtain ⟨a, e2, _, w2⟩ := DataW.trod_int Try.underlying3 g2
      obtain ⟨b, e3, _, w3⟩ := DataW.trod_int Try.underlying3 g3
      simp only [List.cons.injEq, and_true] at e0 e1 e2 e3
      obtain ⟨rfl, rfl, rfl⟩ := e1
      subst e0 e2 e3
      exact ⟨A, c, q, nn, a, b, rfl, ⟨h00, h01, h02⟩, i64_of_wf w2, i64_of_wf w3⟩

/-! ### the law's own cut -/
set_option maxRecDepth 100000 in
set_option maxHeartbeats 1000000 in
theorem few_any (A : Option Addr) (c : Nat) (l : List Td) (w : World) (hc : l.length ≤ c) (hm : c ≤ maxLen) (h : Ts w A l) :
    ∀ W : World, Calls Try.prog 9 #[.slice A l.length c] W fun e w' => e = .returned (.slice A (l.take 65).length c) ∧ W = w' := fun W => by
  unfold maxLen at hm
  by_cases h1 : 65 < l.length
  · obtain ⟨ad, rfl, _⟩ := h 0 (by omega)
    have e : (l.take 65).length = 65 := by rw [List.length_take]; omega
    rw [e]
    clear e h
    generalize l.length = n at *
    go_enter Try.func9, Try.ntmps9
    go_wp2
    go_ret
    exact ⟨rfl, rfl⟩
  · have e : (l.take 65).length = l.length := by rw [List.length_take]; omega
    rw [e]
    clear e h
    generalize l.length = n at *
    go_enter Try.func9, Try.ntmps9
    go_wp2
    go_ret
    exact ⟨rfl, rfl⟩
end
end Go.Proofs.Ytipepmnnjhhjbaa
