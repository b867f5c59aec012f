/-
  How a law's statement is reached from its walk: the law returns true, and below the old heap nothing has turned.
-/
import Derived.Test.YtphcmjhphoacgaaAwake
import Derived.ProofKit
import Derived.OpenShut
import Derived.Lib.SmallJoins
namespace Go.Proofs.Ytphcmjhphoacgaa
open Go.ChangeShapes Go.WideShapes Go.ChangeAt Go.RowKit Go.Joins

theorem own : ownKnob Try.prog.godebug = none := by kernel_rfl
theorem laidOut : laidOutB Try.prog = true := by kernel_rfl

section
variable {H : Type} {enc : TypeId × Value → H}

/-- Arguments read behind the call as they did before it. -/
theorem args_on {W W' : World} (hb : Below W.heap.size W W') : ∀ {ts : List TypeId} {vs : List Value} {ds : List (DataW H)} {ps : List MemPlace},
    (∀ t ∈ ts, Try.prog.readableRec t = true ∧ t < Try.prog.types.size) → (∀ x ∈ ps, x.block < W.heap.size) → DataW.TrodAll enc Try.prog W 0 (fun _ => true) true ts vs ds ps →
    DataW.TrodAll enc Try.prog W' 0 (fun b => decide (b < W.heap.size)) true ts vs ds ps := by
  intro ts
  induction ts with
  | nil =>
    intro vs ds ps _ _ h
    obtain ⟨rfl, rfl, rfl⟩ := trodAll_nil h
    rfl
  | cons t ts ih =>
    intro vs ds ps ht hlt h
    obtain ⟨v, vs', d, ds', p, q, rfl, rfl, rfl, h0, h1⟩ := trodAll_cons h
    exact ⟨p, q, Below.trod laidOut (ht t (by simp)).1 (ht t (by simp)).2 h0 hb (fun x hx => hlt x (by simp [hx])), ih (fun u hu => ht u (by simp [hu])) (fun x hx => hlt x (by simp [hx])) h1, rfl⟩

/-- A law that answered true, and turned nothing. -/
theorem law_post {f : Func} {s : ChangeSpec} {W W' : World} {args : Array Value} {ds gs : List (DataW H)} {before : List MemPlace}
    (hres : f.resultTypes = #[4]) (hpar : ∀ t ∈ f.params.toList, Try.prog.readableRec t = true ∧ t < Try.prog.types.size) (hvars : s.vars = [])
    (hW : DataW.Whole enc Try.prog f.params.toList s.vars false W args.toList ds gs before)
    (hr : (s.fn H (ds ++ gs)).results = [.lit (.bool true)]) (ha : (s.fn H (ds ++ gs)).args = ds) (hv : (s.fn H (ds ++ gs)).vars = []) (hb : Below W.heap.size W W') :
    s.post enc Try.prog f false true false false W args (.bool true) W' := by
  have hlt : ∀ p ∈ before, p.block < W.heap.size := fun p hp => hW.lt p hp
  have hW' := hW
  obtain ⟨p, q, hA, hV, rfl, _, _⟩ := hW'
  refine ⟨ds, gs, p ++ q, [], p, [], hW, ?_, ?_, ?_, hb.frame _, fun h => by cases h⟩
  · rw [hr, hres]
    exact trodAll_mk1 (shut_bool Try.underlying4 _)
  · rw [ha]
    exact args_on hb hpar (fun x hx => hlt x (by simp [hx])) hA
  · rw [hv, hvars]
    rfl

theorem cellsDice : Try.prog.cellsOf 26 = 2 := by kernel_rfl
theorem cellsInt : Try.prog.cellsOf 3 = 1 := by kernel_rfl

/-- Dice that came in. -/
theorem open_dice {W : World} {b0 : Nat} {v : Value} {d : DataW H} {p : List MemPlace} (hval : Value.okWide Try.prog W .any b0 26 v) (h : DataW.Trod enc Try.prog W 0 (fun _ => true) true 26 v d p) :
    ∃ (s : ByteArray) (a : Int), v = .agg #[.string s, .int .i64 a] ∧ s.size ≤ maxLen ∧ -9223372036854775808 ≤ a ∧ a ≤ 9223372036854775807 := by
  obtain ⟨v0, v1, y0, y1, k, rfl, _, _, h0, h1⟩ := open_agg2 Try.underlying26 (by kernel_rfl) cellsDice hval h
  obtain ⟨s, e0, _, w0⟩ := DataW.trod_string Try.underlying9 h0
  obtain ⟨a, e1, _, w1⟩ := DataW.trod_int Try.underlying3 h1
  simp only [List.cons.injEq, and_true] at e0 e1
  subst e0 e1
  have hw : -9223372036854775808 ≤ a ∧ a ≤ 9223372036854775807 := by simpa [Lit.wf, IntKind.min, IntKind.max, IntKind.signed, IntKind.bits] using w1
  exact ⟨s, a, rfl, w0, hw.1, hw.2⟩

theorem cellsStr : Try.prog.cellsOf 9 = 1 := by kernel_rfl
theorem cellsNums : Try.prog.cellsOf 22 = 1 := by kernel_rfl
theorem cellsTurn : Try.prog.cellsOf 24 = 2 := by kernel_rfl
theorem cellsU8 : Try.prog.cellsOf 5 = 1 := by kernel_rfl
theorem cellsGone : Try.prog.cellsOf 45 = 7 := by kernel_rfl

/-- Cells that read as numbers. -/
theorem one_nums {W : World} {n : Nat} {cs : List Value} {x : DataW H × List MemPlace} (h : DataW.trod enc Try.prog W 0 (fun _ => true) true n 22 cs = some x) :
    ∃ (A : Option Addr) (c : Nat) (xs : List Int), cs = [.slice A xs.length c] ∧ xs.length ≤ c ∧ c ≤ maxLen ∧ Has W 0 W.heap.size A xs := by
  rcases open_ints Try.underlying22 Try.underlying3 cellsInt h with ⟨hcs, _⟩ | ⟨ad, len, cap, zs, hcs, _, hl, hm, hz, _, hcell, hwz⟩
  · exact ⟨none, 0, [], hcs, by simp, by simp, Has.nil _ _ _ _⟩
  · simp only [if_true] at hz
    have hlen' : (zs.take len).length = len := by simp; omega
    refine ⟨some ad, cap, zs.take len, by rw [hlen', hcs], by omega, hm, fun j hj => ?_⟩
    rw [hlen'] at hj
    have hc := hcell j (by omega)
    refine ⟨ad, rfl, Nat.zero_le _, by have := World.block_lt_of_cell? W _ hc; rwa [block_add] at this, ?_⟩
    rw [hc]
    simp [List.getD, hj]
/-- Two cells that read as a turn. -/
theorem one_turn {W : World} {n : Nat} {cs : List Value} {x : DataW H × List MemPlace} (h : DataW.trod enc Try.prog W 0 (fun _ => true) true n 24 cs = some x) :
    ∃ (A : Option Addr) (c : Nat) (xs : List Int) (p : Int), cs = [.slice A xs.length c, .int .i64 p] ∧ xs.length ≤ c ∧ c ≤ maxLen ∧ Has W 0 W.heap.size A xs := by
  have hl : cs.length = 2 := by
    obtain ⟨xs, n', _, _, hl, _⟩ := DataW.trod_struct Try.underlying24 h
    rw [hl, cellsTurn]
  match cs, hl with
  | [c0, c1], _ =>
    obtain ⟨y0, y1, k, _, _, h0, h1⟩ := trod_struct2 Try.underlying24 h
    have g0 : DataW.trod enc Try.prog W 0 (fun _ => true) true k 22 ((([c0, c1] : List Value).drop 0).take (Try.prog.cellsOf 22)) = some y0 := h0
    have g1 : DataW.trod enc Try.prog W 0 (fun _ => true) true k 3 ((([c0, c1] : List Value).drop 1).take (Try.prog.cellsOf 3)) = some y1 := h1
    rw [cellsNums] at g0
    rw [cellsInt] at g1
    simp only [List.drop_zero, List.drop_succ_cons, List.take_succ_cons, List.take_zero] at g0 g1
    obtain ⟨A, c, xs, e0, n1, n2, n3⟩ := one_nums g0
    obtain ⟨b, e1, _, _⟩ := DataW.trod_int Try.underlying3 g1
    simp only [List.cons.injEq, and_true] at e0 e1
    subst e0 e1
    exact ⟨A, c, xs, b, rfl, n1, n2, n3⟩
/-- Two cells that read as dice. -/
theorem one_dice {W : World} {n : Nat} {cs : List Value} {x : DataW H × List MemPlace} (h : DataW.trod enc Try.prog W 0 (fun _ => true) true n 26 cs = some x) :
    ∃ (s : ByteArray) (a : Int), cs = [.string s, .int .i64 a] ∧ s.size ≤ maxLen := by
  have hl : cs.length = 2 := by
    obtain ⟨xs, n', _, _, hl, _⟩ := DataW.trod_struct Try.underlying26 h
    rw [hl, cellsDice]
  match cs, hl with
  | [c0, c1], _ =>
    obtain ⟨y0, y1, k, _, _, h0, h1⟩ := trod_struct2 Try.underlying26 h
    have g0 : DataW.trod enc Try.prog W 0 (fun _ => true) true k 9 ((([c0, c1] : List Value).drop 0).take (Try.prog.cellsOf 9)) = some y0 := h0
    have g1 : DataW.trod enc Try.prog W 0 (fun _ => true) true k 3 ((([c0, c1] : List Value).drop 1).take (Try.prog.cellsOf 3)) = some y1 := h1
    rw [cellsStr] at g0
    rw [cellsInt] at g1
    simp only [List.drop_zero, List.drop_succ_cons, List.take_succ_cons, List.take_zero] at g0 g1
    obtain ⟨s, e0, _, w0⟩ := DataW.trod_string Try.underlying9 g0
    obtain ⟨b, e1, _, _⟩ := DataW.trod_int Try.underlying3 g1
    simp only [List.cons.injEq, and_true] at e0 e1
    subst e0 e1
    exact ⟨s, b, rfl, w0⟩

/-- A turn that came in. -/
theorem open_turn {W : World} {b0 : Nat} {v : Value} {d : DataW H} {p : List MemPlace} (hval : Value.okWide Try.prog W .any b0 24 v) (h : DataW.Trod enc Try.prog W 0 (fun _ => true) true 24 v d p) :
    ∃ (A : Option Addr) (c : Nat) (xs : List Int) (q : Int), v = .agg #[.slice A xs.length c, .int .i64 q] ∧ xs.length ≤ c ∧ c ≤ maxLen ∧ Has W 0 W.heap.size A xs := by
  obtain ⟨cs, rfl, hsz⟩ := okWide_struct Try.underlying24 hval
  obtain ⟨l⟩ := cs
  obtain ⟨fuel, hf⟩ := h
  obtain ⟨A, c, xs, q, e, h1, h2, h3⟩ := one_turn hf
  have e' : l = [.slice A xs.length c, .int .i64 q] := by simpa [Value.cells] using e
  subst e'
  exact ⟨A, c, xs, q, rfl, h1, h2, h3⟩
/-- TurnGone's argument that came in. -/
theorem open_gone {W : World} {b0 : Nat} {v : Value} {d : DataW H} {p : List MemPlace} (hval : Value.okWide Try.prog W .any b0 45 v) (h : DataW.Trod enc Try.prog W 0 (fun _ => true) true 45 v d p) :
    ∃ (A : Option Addr) (c : Nat) (T : List Int) (q : Int) (s : ByteArray) (a : Int) (A' : Option Addr) (c' : Nat) (l : List Int) (g m : Int), v = .agg #[.slice A T.length c, .int .i64 q, .string s, .int .i64 a, .slice A' l.length c', .int .u8 g, .int .u8 m] ∧
      T.length ≤ c ∧ c ≤ maxLen ∧ Has W 0 W.heap.size A T ∧ s.size ≤ maxLen ∧ l.length ≤ c' ∧ c' ≤ maxLen ∧ Has W 0 W.heap.size A' l ∧ (0 ≤ g ∧ g ≤ 255) ∧ (0 ≤ m ∧ m ≤ 255) := by
  obtain ⟨cs, rfl, hsz⟩ := okWide_struct Try.underlying45 hval
  obtain ⟨l⟩ := cs
  match l, hsz.trans cellsGone with
  | [c0, c1, c2, c3, c4, c5, c6], _ =>
    obtain ⟨fuel, hf⟩ := h
    obtain ⟨xs, n, _, hx, _, hlen, hg⟩ := DataW.trod_struct Try.underlying45 hf
    match xs, hlen with
    | [y0, y1, y2, y3, y4], _ =>
      have g0 : DataW.trod enc Try.prog W 0 (fun _ => true) true n 24 ((([c0, c1, c2, c3, c4, c5, c6] : List Value).drop 0).take (Try.prog.cellsOf 24)) = some y0 := hg 0 _ rfl
      have g1 : DataW.trod enc Try.prog W 0 (fun _ => true) true n 26 ((([c0, c1, c2, c3, c4, c5, c6] : List Value).drop 2).take (Try.prog.cellsOf 26)) = some y1 := hg 1 _ rfl
      have g2 : DataW.trod enc Try.prog W 0 (fun _ => true) true n 22 ((([c0, c1, c2, c3, c4, c5, c6] : List Value).drop 4).take (Try.prog.cellsOf 22)) = some y2 := hg 2 _ rfl
      have g3 : DataW.trod enc Try.prog W 0 (fun _ => true) true n 5 ((([c0, c1, c2, c3, c4, c5, c6] : List Value).drop 5).take (Try.prog.cellsOf 5)) = some y3 := hg 3 _ rfl
      have g4 : DataW.trod enc Try.prog W 0 (fun _ => true) true n 5 ((([c0, c1, c2, c3, c4, c5, c6] : List Value).drop 6).take (Try.prog.cellsOf 5)) = some y4 := hg 4 _ rfl
      rw [cellsTurn] at g0
      rw [cellsDice] at g1
      rw [cellsNums] at g2
      rw [cellsU8] at g3 g4
      simp only [List.drop_zero, List.drop_succ_cons, List.take_succ_cons, List.take_zero] at g0 g1 g2 g3 g4
      obtain ⟨A, c, T, q, e0, t1, t2, t3⟩ := one_turn g0
      obtain ⟨s, a, e1, w1⟩ := one_dice g1
      obtain ⟨A', c', l', e2, l1, l2, l3⟩ := one_nums g2
      obtain ⟨b, e3, _, w3⟩ := DataW.trod_int Try.underlying5 g3
      obtain ⟨m, e4, _, w4⟩ := DataW.trod_int Try.underlying5 g4
      simp only [List.cons.injEq, and_true] at e0 e1 e2 e3 e4
      obtain ⟨rfl, rfl⟩ := e0
      obtain ⟨rfl, rfl⟩ := e1
      subst e2 e3 e4
      have hb : 0 ≤ b ∧ b ≤ 255 := by simpa [Lit.wf, IntKind.min, IntKind.max, IntKind.signed, IntKind.bits] using w3
      have hm : 0 ≤ m ∧ m ≤ 255 := by simpa [Lit.wf, IntKind.min, IntKind.max, IntKind.signed, IntKind.bits] using w4
      exact ⟨A, c, T, q, s, a, A', c', l', b, m, rfl, t1, t2, t3, w1, l1, l2, l3, hb, hm⟩
/-- A slice of numbers that came in. -/
theorem open_nums {W : World} {b0 : Nat} {v : Value} {d : DataW H} {p : List MemPlace} (hval : Value.okWide Try.prog W .any b0 22 v) (h : DataW.Trod enc Try.prog W 0 (fun _ => true) true 22 v d p) :
    ∃ (A : Option Addr) (c : Nat) (xs : List Int), v = .slice A xs.length c ∧ xs.length ≤ c ∧ c ≤ maxLen ∧ Has W 0 W.heap.size A xs := by
  obtain ⟨a0, len, cap, rfl⟩ := okWide_slice Try.underlying22 hval
  obtain ⟨fuel, hf⟩ := h
  rcases open_ints Try.underlying22 Try.underlying3 cellsInt hf with ⟨hcs, hx⟩ | ⟨a, len', cap', zs, hcs, _, hl, hm, hz, hx, hcell, hwz⟩
  · simp [Value.cells] at hcs
    obtain ⟨rfl, rfl, rfl⟩ := hcs
    exact ⟨none, 0, [], rfl, by simp, by simp, Has.nil _ _ _ _⟩
  · simp [Value.cells] at hcs
    obtain ⟨rfl, rfl, rfl⟩ := hcs
    simp only [if_true] at hz
    have hlen : (zs.take len).length = len := by simp; omega
    refine ⟨some a, cap, zs.take len, by rw [hlen], by omega, hm, fun j hj => ?_⟩
    rw [hlen] at hj
    have hc := hcell j (by omega)
    refine ⟨a, rfl, Nat.zero_le _, by have := World.block_lt_of_cell? W _ hc; rwa [block_add] at this, ?_⟩
    rw [hc]
    simp [List.getD, hj]
end
end Go.Proofs.Ytphcmjhphoacgaa
