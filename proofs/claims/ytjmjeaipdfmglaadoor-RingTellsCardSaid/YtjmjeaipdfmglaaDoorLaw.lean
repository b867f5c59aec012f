/-
  How a law's statement is reached from its walk: the law returns true, and below the old heap nothing has turned; what comes in.
-/
import Derived.Test.YtjmjeaipdfmglaaDoorNam
import Derived.WalkKit
import Derived.ProofKit
import Derived.OpenShut
import Derived.Deep.DeepHandedRow
import Derived.Lib.LaidTab
import Derived.Lib.SmallJoins
import Derived.Deep.Slices
namespace Go.Proofs.YtjmjeaipdfmglaaDoor
open Go.Sort Go.ChangeShapes Go.WideShapes Go.ChangeAt Go.RowKit Go.Joins Go.Proofs.YtjmjeaipdfmglaaDoor.Pure

theorem own : ownKnob Tryd.prog.godebug = none := by kernel_rfl
theorem laidOut : laidOutB Tryd.prog = true := by kernel_rfl

section
variable {H : Type} {enc : TypeId × Value → H}

/-- Arguments read behind the call as they did before it. -/
theorem args_on {W W' : World} (hb : Below W.heap.size W W') : ∀ {ts : List TypeId} {vs : List Value} {ds : List (DataW H)} {ps : List MemPlace},
    (∀ t ∈ ts, Tryd.prog.readableRec t = true ∧ t < Tryd.prog.types.size) → (∀ x ∈ ps, x.block < W.heap.size) → DataW.TrodAll enc Tryd.prog W 0 (fun _ => true) true ts vs ds ps →
    DataW.TrodAll enc Tryd.prog W' 0 (fun b => decide (b < W.heap.size)) true ts vs ds ps := by
  intro ts
  induction ts with
  | nil =>
    intro vs ds ps _ _ h
    obtain ⟨rfl, rfl, rfl⟩ := trodAll_nil h
    rfl
  | cons t ts ih =>
    intro vs ds ps ht hlt h
    obtain ⟨v, vs', d, ds', p, q, rfl, rfl, rfl, h0, h1⟩ := trodAll_cons h
    exact ⟨p, q, Below.trod laidOut (ht t (by simp)).1 (ht t (by simp)).2 h0 hb (fun x hx => hlt x (by simp [hx])), ih (fun u hu => ht u (by simp [hu])) (fun x hx => hlt x (by simp [hx])) h1, rfl⟩

/-- A law that answered true, and turned nothing. -/
theorem law_post {f : Func} {s : ChangeSpec} {W W' : World} {args : Array Value} {ds gs : List (DataW H)} {before : List MemPlace}
    (hres : f.resultTypes = #[4]) (hpar : ∀ t ∈ f.params.toList, Tryd.prog.readableRec t = true ∧ t < Tryd.prog.types.size) (hvars : s.vars = [])
    (hW : DataW.Whole enc Tryd.prog f.params.toList s.vars false W args.toList ds gs before)
    (hr : (s.fn H (ds ++ gs)).results = [.lit (.bool true)]) (ha : (s.fn H (ds ++ gs)).args = ds) (hv : (s.fn H (ds ++ gs)).vars = []) (hb : Below W.heap.size W W') :
    s.post enc Tryd.prog f false true false false W args (.bool true) W' := by
  have hlt : ∀ p ∈ before, p.block < W.heap.size := fun p hp => hW.lt p hp
  have hW' := hW
  obtain ⟨p, q, hA, hV, rfl, _, _⟩ := hW'
  refine ⟨ds, gs, p ++ q, [], p, [], hW, ?_, ?_, ?_, hb.frame _, fun h => by cases h⟩
  · rw [hr, hres]
    exact trodAll_mk1 (shut_bool Tryd.underlying4 _)
  · rw [ha]
    exact args_on hb hpar (fun x hx => hlt x (by simp [hx])) hA
  · rw [hv, hvars]
    rfl

theorem cellsInt : Tryd.prog.cellsOf 3 = 1 := by kernel_rfl
theorem cellsStr : Tryd.prog.cellsOf 9 = 1 := by kernel_rfl
theorem cellsNums : Tryd.prog.cellsOf 22 = 1 := by kernel_rfl
theorem cellsU8 : Tryd.prog.cellsOf 5 = 1 := by kernel_rfl
theorem cellsU64 : Tryd.prog.cellsOf 43 = 1 := by kernel_rfl
theorem cellsPt : Tryd.prog.cellsOf 45 = 3 := by kernel_rfl
theorem cellsPts : Tryd.prog.cellsOf 23 = 1 := by kernel_rfl
theorem cellsAsk : Tryd.prog.cellsOf 25 = 4 := by kernel_rfl
theorem cellsGone : Tryd.prog.cellsOf 50 = 4 := by kernel_rfl
theorem u8_of_wf {a : Int} (h : Lit.wf (.int .u8 a)) : 0 ≤ a ∧ a ≤ 255 := by simpa [Lit.wf, IntKind.min, IntKind.max, IntKind.signed, IntKind.bits] using h
theorem u64_of_wf {a : Int} (h : Lit.wf (.int .u64 a)) : 0 ≤ a ∧ a < 18446744073709551616 := by
  have : 0 ≤ a ∧ a ≤ 18446744073709551615 := by simpa [Lit.wf, IntKind.min, IntKind.max, IntKind.signed, IntKind.bits] using h
  omega
theorem i64_of_wf {a : Int} (h : Lit.wf (.int .i64 a)) : -9223372036854775808 ≤ a ∧ a ≤ 9223372036854775807 := by simpa [Lit.wf, IntKind.min, IntKind.max, IntKind.signed, IntKind.bits] using h

/-- Cells that read as numbers. -/
theorem one_nums {W : World} {n : Nat} {cs : List Value} {x : DataW H × List MemPlace} (h : DataW.trod enc Tryd.prog W 0 (fun _ => true) true n 22 cs = some x) :
    ∃ (A : Option Addr) (c : Nat) (xs : List Int), cs = [.slice A xs.length c] ∧ xs.length ≤ c ∧ c ≤ maxLen ∧ Has W 0 W.heap.size A xs := by
  rcases open_ints Tryd.underlying22 Tryd.underlying3 cellsInt h with ⟨hcs, _⟩ | ⟨ad, len, cap, zs, hcs, _, hl, hm, hz, _, hcell, hwz⟩
  · exact ⟨none, 0, [], hcs, by simp, by simp, Has.nil _ _ _ _⟩
  · simp only [if_true] at hz
    have hlen' : (zs.take len).length = len := by simp; omega
    refine ⟨some ad, cap, zs.take len, by rw [hlen', hcs], by omega, hm, fun j hj => ?_⟩
    rw [hlen'] at hj
    have hc := hcell j (by omega)
    refine ⟨ad, rfl, Nat.zero_le _, by have := World.block_lt_of_cell? W _ hc; rwa [block_add] at this, ?_⟩
    rw [hc]
    simp [List.getD, hj]
set_option maxRecDepth 100000 in
/-- A slice of numbers that came in. -/
theorem open_nums {W : World} {b0 : Nat} {v : Value} {d : DataW H} {p : List MemPlace} (hval : Value.okWide Tryd.prog W .any b0 22 v) (h : DataW.Trod enc Tryd.prog W 0 (fun _ => true) true 22 v d p) :
    ∃ (A : Option Addr) (c : Nat) (xs : List Int), v = .slice A xs.length c ∧ xs.length ≤ c ∧ c ≤ maxLen ∧ Has W 0 W.heap.size A xs := by
  obtain ⟨a0, len, cap, rfl⟩ := okWide_slice Tryd.underlying22 hval
  obtain ⟨fuel, hf⟩ := h
  rcases open_ints Tryd.underlying22 Tryd.underlying3 cellsInt hf with ⟨hcs, hx⟩ | ⟨a, len', cap', zs, hcs, _, hl, hm, hz, hx, hcell, hwz⟩
  · simp [Value.cells] at hcs
    obtain ⟨rfl, rfl, rfl⟩ := hcs
    exact ⟨none, 0, [], rfl, by simp, by simp, Has.nil _ _ _ _⟩
  · simp [Value.cells] at hcs
    obtain ⟨rfl, rfl, rfl⟩ := hcs
    simp only [if_true] at hz
    have hlen : (zs.take len).length = len := by simp; omega
    refine ⟨some a, cap, zs.take len, by rw [hlen], by omega, hm, fun j hj => ?_⟩
    rw [hlen] at hj
    have hc := hcell j (by omega)
    refine ⟨a, rfl, Nat.zero_le _, by have := World.block_lt_of_cell? W _ hc; rwa [block_add] at this, ?_⟩
    rw [hc]
    simp [List.getD, hj]
/-- Three cells that read as a point are that. -/
theorem one_pt {W : World} {n : Nat} {cs : List Value} {x : DataW H × List MemPlace} (h : DataW.trod enc Tryd.prog W 0 (fun _ => true) true n 45 cs = some x) :
    ∃ y : Pt, cs = [.int .u64 y.h, .int .i64 y.n, .int .i64 y.i] ∧ 0 ≤ y.h ∧ y.h < 18446744073709551616 := by
  have hl : cs.length = 3 := by
    obtain ⟨xs, n', _, _, hl, _⟩ := DataW.trod_struct Tryd.underlying45 h
    rw [hl, cellsPt]
  match cs, hl with
  | [c0, c1, c2], _ =>
    obtain ⟨xs, n', _, hx, _, hlen, hg⟩ := DataW.trod_struct Tryd.underlying45 h
    match xs, hlen with
    | [y0, y1, y2], _ =>
      have g0 : DataW.trod enc Tryd.prog W 0 (fun _ => true) true n' 43 ((([c0, c1, c2] : List Value).drop 0).take (Tryd.prog.cellsOf 43)) = some y0 := hg 0 _ rfl
      have g1 : DataW.trod enc Tryd.prog W 0 (fun _ => true) true n' 3 ((([c0, c1, c2] : List Value).drop 1).take (Tryd.prog.cellsOf 3)) = some y1 := hg 1 _ rfl
      have g2 : DataW.trod enc Tryd.prog W 0 (fun _ => true) true n' 3 ((([c0, c1, c2] : List Value).drop 2).take (Tryd.prog.cellsOf 3)) = some y2 := hg 2 _ rfl
      rw [cellsU64] at g0
      rw [cellsInt] at g1 g2
      simp only [List.drop_zero, List.drop_succ_cons, List.take_succ_cons, List.take_zero] at g0 g1 g2
      obtain ⟨a, e0, _, w0⟩ := DataW.trod_int Tryd.underlying43 g0
      obtain ⟨b, e1, _, _⟩ := DataW.trod_int Tryd.underlying3 g1
      obtain ⟨c, e2, _, _⟩ := DataW.trod_int Tryd.underlying3 g2
      simp only [List.cons.injEq, and_true] at e0 e1 e2
      subst e0 e1 e2
      have := u64_of_wf w0
      exact ⟨⟨a, b, c⟩, rfl, this.1, this.2⟩
/-- What points' sums are. -/
def FitP (l : List Pt) : Prop := ∀ j, j < l.length → 0 ≤ (pt l j).h ∧ (pt l j).h < 18446744073709551616
theorem pts_of (W : World) (a : Addr) : ∀ m : Nat, (∀ i, i < m → ∃ y : Pt, PAt W (a.add (i * 3)) y ∧ 0 ≤ y.h ∧ y.h < 18446744073709551616) → ∃ xs : List Pt, xs.length = m ∧ (∀ i, i < m → PAt W (a.add (i * 3)) (pt xs i)) ∧ FitP xs := by
  intro m
  induction m with
  | zero => intro _; exact ⟨[], rfl, fun i hi => absurd hi (Nat.not_lt_zero i), fun j hj => absurd hj (Nat.not_lt_zero j)⟩
  | succ m ih =>
    intro h
    obtain ⟨xs, hl, hx, hf⟩ := ih fun i hi => h i (by omega)
    obtain ⟨y, hy, hb⟩ := h m (by omega)
    have e1 : ∀ i, i < m → pt (xs ++ [y]) i = pt xs i := fun i hi => by simp [pt, List.getD, List.getElem?_append_left (show i < xs.length by omega)]
    have e2 : pt (xs ++ [y]) m = y := by simp [pt, List.getD, ← hl]
    refine ⟨xs ++ [y], by simp [hl], fun i hi => ?_, fun i hi => ?_⟩
    · by_cases e : i < m
      · rw [e1 i e]; exact hx i e
      · obtain rfl : i = m := by omega
        rw [e2]; exact hy
    · have hi' : i < m + 1 := by simpa [hl] using hi
      by_cases e : i < m
      · rw [e1 i e]; exact hf i (by omega)
      · obtain rfl : i = m := by omega
        rw [e2]; exact hb
theorem pts_trod {W : World} {fuel : Nat} {cs : List Value} {x : DataW H × List MemPlace} (h : DataW.trod enc Tryd.prog W 0 (fun _ => true) true fuel 23 cs = some x) :
    ∃ (A : Option Addr) (c : Nat) (xs : List Pt), cs = [.slice A xs.length c] ∧ xs.length ≤ c ∧ c ≤ maxLen ∧ Ps W A xs ∧ FitP xs := by
  rcases Go.Deep.open_slice Tryd.underlying23 h with ⟨rfl, _⟩ | ⟨a, len, cap, m, n, D, Pl, rfl, _, hl, hm, hmm, _, hi⟩
  · exact ⟨none, 0, [], rfl, by simp, by simp, Ps.nil _ _, fun j hj => absurd hj (Nat.not_lt_zero j)⟩
  · simp only [if_true] at hmm
    rw [cellsPt] at hi
    obtain ⟨xs, hxl, hx, hf⟩ := pts_of W a len fun i hil => by
      obtain ⟨cs', hc, ht⟩ := hi i (by omega)
      obtain ⟨y, rfl, hy⟩ := one_pt ht
      obtain ⟨_, _, hat⟩ := World.cells?_some hc
      exact ⟨y, ⟨hat 0 (by decide), hat 1 (by decide), hat 2 (by decide)⟩, hy⟩
    refine ⟨some a, cap, xs, by rw [hxl], by omega, hm, fun j hj => ⟨a, rfl, ?_, hx j (by omega)⟩, hf⟩
    have := World.block_lt_of_cell? W _ (hx j (by omega)).1
    rwa [block_add] at this
set_option maxRecDepth 100000 in
/-- Points that came in. -/
theorem open_pts {W : World} {b0 : Nat} {v : Value} {d : DataW H} {p : List MemPlace} (hval : Value.okWide Tryd.prog W .any b0 23 v) (h : DataW.Trod enc Tryd.prog W 0 (fun _ => true) true 23 v d p) :
    ∃ (A : Option Addr) (c : Nat) (xs : List Pt), v = .slice A xs.length c ∧ xs.length ≤ c ∧ c ≤ maxLen ∧ Ps W A xs ∧ FitP xs := by
  obtain ⟨a0, len, cap, rfl⟩ := okWide_slice Tryd.underlying23 hval
  obtain ⟨fuel, hf⟩ := h
  obtain ⟨A, c, xs, e, h1, h2, h3, h4⟩ := pts_trod hf
  simp only [Value.cells, List.cons.injEq, and_true] at e
  exact ⟨A, c, xs, e, h1, h2, h3, h4⟩
set_option maxRecDepth 100000 in
/-- A small number that came in. -/
theorem open_u8 {W : World} {b0 : Nat} {v : Value} {d : DataW H} {p : List MemPlace} (hval : Value.okWide Tryd.prog W .any b0 5 v) (h : DataW.Trod enc Tryd.prog W 0 (fun _ => true) true 5 v d p) :
    ∃ a : Nat, v = .int .u8 (a : Int) ∧ a ≤ 255 := by
  obtain ⟨n, rfl⟩ := okWide_int Tryd.underlying5 hval
  obtain ⟨fuel, hf⟩ := h
  obtain ⟨a, e, _, hw⟩ := DataW.trod_int Tryd.underlying5 hf
  simp only [Value.cells, List.cons.injEq, and_true, Value.int.injEq, true_and] at e
  subst e
  have := u8_of_wf hw
  obtain ⟨m, rfl⟩ := Int.eq_ofNat_of_zero_le this.1
  exact ⟨m, rfl, by omega⟩

set_option maxRecDepth 100000 in
/-- A text that came in. -/
theorem open_text {W : World} {b0 : Nat} {v : Value} {d : DataW H} {p : List MemPlace} (hval : Value.okWide Tryd.prog W .any b0 9 v) (h : DataW.Trod enc Tryd.prog W 0 (fun _ => true) true 9 v d p) :
    ∃ s : ByteArray, v = .string s ∧ s.size ≤ maxLen := by
  obtain ⟨s, rfl, _, _, hs⟩ := Go.ChangeMaps.open_string Tryd.underlying9 hval h
  exact ⟨s, rfl, hs⟩
set_option maxRecDepth 100000 in
/-- What came in: nodes, spots, points, a key. -/
theorem open_ask {W : World} {b0 : Nat} {v : Value} {d : DataW H} {p : List MemPlace} (hval : Value.okWide Tryd.prog W .any b0 25 v) (h : DataW.Trod enc Tryd.prog W 0 (fun _ => true) true 25 v d p) :
    ∃ (A : Option Addr) (c : Nat) (xs : List Int) (a : Int) (B : Option Addr) (c2 : Nat) (l : List Pt) (s : ByteArray), v = .agg #[.slice A xs.length c, .int .i64 a, .slice B l.length c2, .string s] ∧ xs.length ≤ c ∧ c ≤ maxLen ∧ Has W 0 W.heap.size A xs ∧ (-9223372036854775808 ≤ a ∧ a ≤ 9223372036854775807) ∧ l.length ≤ c2 ∧ c2 ≤ maxLen ∧ Ps W B l ∧ FitP l ∧ s.size ≤ maxLen := by
  obtain ⟨cs, rfl, hsz⟩ := okWide_struct Tryd.underlying25 hval
  obtain ⟨l⟩ := cs
  match l, hsz.trans cellsAsk with
  | [c0, c1, c2, c3], _ =>
    obtain ⟨fuel, hf⟩ := h
    obtain ⟨xs, n, _, hx, _, hlen, hg⟩ := DataW.trod_struct Tryd.underlying25 hf
    match xs, hlen with
    | [y0, y1, y2, y3], _ =>
      have g0 : DataW.trod enc Tryd.prog W 0 (fun _ => true) true n 22 ((([c0, c1, c2, c3] : List Value).drop 0).take (Tryd.prog.cellsOf 22)) = some y0 := hg 0 _ rfl
      have g1 : DataW.trod enc Tryd.prog W 0 (fun _ => true) true n 3 ((([c0, c1, c2, c3] : List Value).drop 1).take (Tryd.prog.cellsOf 3)) = some y1 := hg 1 _ rfl
      have g2 : DataW.trod enc Tryd.prog W 0 (fun _ => true) true n 23 ((([c0, c1, c2, c3] : List Value).drop 2).take (Tryd.prog.cellsOf 23)) = some y2 := hg 2 _ rfl
      have g3 : DataW.trod enc Tryd.prog W 0 (fun _ => true) true n 9 ((([c0, c1, c2, c3] : List Value).drop 3).take (Tryd.prog.cellsOf 9)) = some y3 := hg 3 _ rfl
      rw [cellsNums] at g0
      rw [cellsInt] at g1
      rw [cellsPts] at g2
      rw [cellsStr] at g3
      simp only [List.drop_zero, List.drop_succ_cons, List.take_succ_cons, List.take_zero] at g0 g1 g2 g3
      obtain ⟨A, c, xs, e0, n1, n2, n3⟩ := one_nums g0
      obtain ⟨a, e1, _, w1⟩ := DataW.trod_int Tryd.underlying3 g1
      obtain ⟨B, c2, l, e2, p1, p2, p3, p4⟩ := pts_trod g2
      obtain ⟨s, e3, _, w3⟩ := DataW.trod_string Tryd.underlying9 g3
      simp only [List.cons.injEq, and_true] at e0 e1 e2 e3
      subst e0 e1 e2 e3
      exact ⟨A, c, xs, a, B, c2, l, s, rfl, n1, n2, n3, i64_of_wf w1, p1, p2, p3, p4, w3⟩
set_option maxRecDepth 100000 in
/-- What came in: nodes, spots, one that is gone, a key. -/
theorem open_gone {W : World} {b0 : Nat} {v : Value} {d : DataW H} {p : List MemPlace} (hval : Value.okWide Tryd.prog W .any b0 50 v) (h : DataW.Trod enc Tryd.prog W 0 (fun _ => true) true 50 v d p) :
    ∃ (A : Option Addr) (c : Nat) (xs : List Int) (a b : Nat) (s : ByteArray), v = .agg #[.slice A xs.length c, .int .u8 (a : Int), .int .u8 (b : Int), .string s] ∧ xs.length ≤ c ∧ c ≤ maxLen ∧ Has W 0 W.heap.size A xs ∧ a ≤ 255 ∧ b ≤ 255 ∧ s.size ≤ maxLen := by
  obtain ⟨cs, rfl, hsz⟩ := okWide_struct Tryd.underlying50 hval
  obtain ⟨l⟩ := cs
  match l, hsz.trans cellsGone with
  | [c0, c1, c2, c3], _ =>
    obtain ⟨fuel, hf⟩ := h
    obtain ⟨xs, n, _, hx, _, hlen, hg⟩ := DataW.trod_struct Tryd.underlying50 hf
    match xs, hlen with
    | [y0, y1, y2, y3], _ =>
      have g0 : DataW.trod enc Tryd.prog W 0 (fun _ => true) true n 22 ((([c0, c1, c2, c3] : List Value).drop 0).take (Tryd.prog.cellsOf 22)) = some y0 := hg 0 _ rfl
      have g1 : DataW.trod enc Tryd.prog W 0 (fun _ => true) true n 5 ((([c0, c1, c2, c3] : List Value).drop 1).take (Tryd.prog.cellsOf 5)) = some y1 := hg 1 _ rfl
      have g2 : DataW.trod enc Tryd.prog W 0 (fun _ => true) true n 5 ((([c0, c1, c2, c3] : List Value).drop 2).take (Tryd.prog.cellsOf 5)) = some y2 := hg 2 _ rfl
      have g3 : DataW.trod enc Tryd.prog W 0 (fun _ => true) true n 9 ((([c0, c1, c2, c3] : List Value).drop 3).take (Tryd.prog.cellsOf 9)) = some y3 := hg 3 _ rfl
      rw [cellsNums] at g0
      rw [cellsU8] at g1
      rw [cellsU8] at g2
      rw [cellsStr] at g3
      simp only [List.drop_zero, List.drop_succ_cons, List.take_succ_cons, List.take_zero] at g0 g1 g2 g3
      obtain ⟨A, c, xs, e0, n1, n2, n3⟩ := one_nums g0
      obtain ⟨a, e1, _, w1⟩ := DataW.trod_int Tryd.underlying5 g1
      obtain ⟨b, e2, _, w2⟩ := DataW.trod_int Tryd.underlying5 g2
      obtain ⟨s, e3, _, w3⟩ := DataW.trod_string Tryd.underlying9 g3
      simp only [List.cons.injEq, and_true] at e0 e1 e2 e3
      subst e0 e1 e2 e3
      have ha := u8_of_wf w1
      have hb := u8_of_wf w2
      obtain ⟨a, rfl⟩ := Int.eq_ofNat_of_zero_le ha.1
      obtain ⟨b, rfl⟩ := Int.eq_ofNat_of_zero_le hb.1
      exact ⟨A, c, xs, a, b, s, rfl, n1, n2, n3, by omega, by omega, w3⟩
end

/-- A world for the witness: the settled one, the library's tables holding what their initialisers lay. -/
def tab32 : List Int := [0, 1, 28, 2, 29, 14, 24, 3, 30, 22, 20, 15, 25, 17, 4, 8, 31, 27, 13, 23, 21, 19, 16, 7, 26, 12, 18, 6, 11, 5, 10, 9]
def tab64 : List Int := [0, 1, 56, 2, 57, 49, 28, 3, 61, 58, 42, 50, 38, 29, 17, 4, 62, 47, 59, 36, 45, 43, 51, 22, 53, 39, 33, 30, 24, 18, 12, 5, 63, 55, 48, 27, 60, 41, 37, 16, 46, 35, 44, 21, 52, 32, 23, 11, 54, 26, 40, 15, 34, 20, 31, 10, 25, 14, 19, 9, 13, 8, 7, 6]
def pow10 : List Int := [1, 10, 100, 1000, 10000, 100000, 1000000, 10000000, 100000000, 1000000000, 10000000000, 100000000000, 1000000000000, 10000000000000, 100000000000000, 1000000000000000, 10000000000000000, 100000000000000000, 1000000000000000000, 10000000000000000000]
def putT (k : IntKind) (l : List Int) : Obj → Obj
  | .cells _ t frozen => .cells (l.map (Value.int k)).toArray t frozen
  | o => o
noncomputable def laidWorld (os : Os) : World :=
  { World.holding Tryd.prog os ⟨#[], #[], []⟩ with heap := (((World.holding Tryd.prog os ⟨#[], #[], []⟩).heap.modify 1 (putT .u8 tab32)).modify 2 (putT .u8 tab64)).modify 0 (putT .u64 pow10) }
end Go.Proofs.YtjmjeaipdfmglaaDoor
