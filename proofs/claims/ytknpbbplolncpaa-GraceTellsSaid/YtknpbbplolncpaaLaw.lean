/-
  How a law's statement is reached from its walk: the law returns true, and below the old heap nothing has turned; what came in.
-/
import Derived.Test.YtknpbbplolncpaaAwake
import Derived.ProofKit
import Derived.OpenShut
import Derived.Lib.SmallJoins
namespace Go.Proofs.Ytknpbbplolncpaa
open Go.ChangeShapes Go.WideShapes Go.ChangeAt Go.RowKit Go.Joins Go.Proofs.Ytknpbbplolncpaa.Pure

theorem own : ownKnob Try.prog.godebug = none := by kernel_rfl
theorem laidOut : laidOutB Try.prog = true := by kernel_rfl

section
variable {H : Type} {enc : TypeId × Value → H}

/-- Arguments read behind the call as they did before it. -/
theorem args_on {W W' : World} (hb : Below W.heap.size W W') : ∀ {ts : List TypeId} {vs : List Value} {ds : List (DataW H)} {ps : List MemPlace},
    (∀ t ∈ ts, Try.prog.readableRec t = true ∧ t < Try.prog.types.size) → (∀ x ∈ ps, x.block < W.heap.size) → DataW.TrodAll enc Try.prog W 0 (fun _ => true) true ts vs ds ps →
    DataW.TrodAll enc Try.prog W' 0 (fun b => decide (b < W.heap.size)) true ts vs ds ps := by
  intro ts
  induction ts with
  | nil =>
    intro vs ds ps _ _ h
    obtain ⟨rfl, rfl, rfl⟩ := trodAll_nil h
    rfl
  | cons t ts ih =>
    intro vs ds ps ht hlt h
    obtain ⟨v, vs', d, ds', p, q, rfl, rfl, rfl, h0, h1⟩ := trodAll_cons h
    exact ⟨p, q, Below.trod laidOut (ht t (by simp)).1 (ht t (by simp)).2 h0 hb (fun x hx => hlt x (by simp [hx])), ih (fun u hu => ht u (by simp [hu])) (fun x hx => hlt x (by simp [hx])) h1, rfl⟩

/-- A law that answered true, and turned nothing. -/
theorem law_post {f : Func} {s : ChangeSpec} {W W' : World} {args : Array Value} {ds gs : List (DataW H)} {before : List MemPlace}
    (hres : f.resultTypes = #[4]) (hpar : ∀ t ∈ f.params.toList, Try.prog.readableRec t = true ∧ t < Try.prog.types.size) (hvars : s.vars = [])
    (hW : DataW.Whole enc Try.prog f.params.toList s.vars false W args.toList ds gs before)
    (hr : (s.fn H (ds ++ gs)).results = [.lit (.bool true)]) (ha : (s.fn H (ds ++ gs)).args = ds) (hv : (s.fn H (ds ++ gs)).vars = []) (hb : Below W.heap.size W W') :
    s.post enc Try.prog f false true false false W args (.bool true) W' := by
  have hlt : ∀ p ∈ before, p.block < W.heap.size := fun p hp => hW.lt p hp
  have hW' := hW
  obtain ⟨p, q, hA, hV, rfl, _, _⟩ := hW'
  refine ⟨ds, gs, p ++ q, [], p, [], hW, ?_, ?_, ?_, hb.frame _, fun h => by cases h⟩
  · rw [hr, hres]
    exact trodAll_mk1 (shut_bool Try.underlying4 _)
  · rw [ha]
    exact args_on hb hpar (fun x hx => hlt x (by simp [hx])) hA
  · rw [hv, hvars]
    rfl

theorem cellsInt : Try.prog.cellsOf 3 = 1 := by kernel_rfl
theorem cellsI64 : Try.prog.cellsOf 2 = 1 := by kernel_rfl
theorem cellsU64 : Try.prog.cellsOf 25 = 1 := by kernel_rfl
theorem cellsU8 : Try.prog.cellsOf 5 = 1 := by kernel_rfl
theorem cellsNums : Try.prog.cellsOf 53 = 1 := by kernel_rfl
theorem cellsDbs : Try.prog.cellsOf 22 = 1 := by kernel_rfl
theorem cellsDb : Try.prog.cellsOf 55 = 4 := by kernel_rfl
theorem cellsRu : Try.prog.cellsOf 24 = 3 := by kernel_rfl
theorem cellsAsk : Try.prog.cellsOf 27 = 10 := by kernel_rfl

theorem u8_of_wf {a : Int} (h : (Lit.int .u8 a).wf = true) : 0 ≤ a ∧ a ≤ 255 := by
  simpa [Lit.wf, IntKind.min, IntKind.max, IntKind.signed, IntKind.bits] using h
theorem i64_of_wf {a : Int} (h : (Lit.int .i64 a).wf = true) : -9223372036854775808 ≤ a ∧ a ≤ 9223372036854775807 := by
  simpa [Lit.wf, IntKind.min, IntKind.max, IntKind.signed, IntKind.bits] using h

/-- Cells that read as numbers. -/
theorem one_nums {W : World} {n : Nat} {cs : List Value} {x : DataW H × List MemPlace} (h : DataW.trod enc Try.prog W 0 (fun _ => true) true n 53 cs = some x) :
    ∃ (A : Option Addr) (c : Nat) (xs : List Int), cs = [.slice A xs.length c] ∧ xs.length ≤ c ∧ c ≤ maxLen ∧ Has W 0 W.heap.size A xs := by
  rcases open_ints Try.underlying53 Try.underlying3 cellsInt h with ⟨hcs, _⟩ | ⟨ad, len, cap, zs, hcs, _, hl, hm, hz, _, hcell, hwz⟩
  · exact ⟨none, 0, [], hcs, by simp, by simp, Has.nil _ _ _ _⟩
  · simp only [if_true] at hz
    have hlen' : (zs.take len).length = len := by simp; omega
    refine ⟨some ad, cap, zs.take len, by rw [hlen', hcs], by omega, hm, fun j hj => ?_⟩
    rw [hlen'] at hj
    have hc := hcell j (by omega)
    refine ⟨ad, rfl, Nat.zero_le _, by have := World.block_lt_of_cell? W _ hc; rwa [block_add] at this, ?_⟩
    rw [hc]
    simp [List.getD, hj]
/-- Four cells that read as a doubt. -/
theorem one_db {W : World} {n : Nat} {cs : List Value} {x : DataW H × List MemPlace} (h : DataW.trod enc Try.prog W 0 (fun _ => true) true n 55 cs = some x) :
    ∃ y : Db, cs = [.int .i64 y.w, .int .u64 y.i, .int .i64 y.t, .slice y.A y.b.length y.c] ∧ Rd W (fun k => k < W.heap.size) y := by
  have hl : cs.length = 4 := by
    obtain ⟨xs, n', _, _, hl, _⟩ := DataW.trod_struct Try.underlying55 h
    rw [hl, cellsDb]
  match cs, hl with
  | [c0, c1, c2, c3], _ =>
    obtain ⟨xs, k, _, hx, _, hlen, hg⟩ := DataW.trod_struct Try.underlying55 h
    match xs, hlen with
    | [y0, y1, y2, y3], _ =>
      have g0 : DataW.trod enc Try.prog W 0 (fun _ => true) true k 3 ((([c0, c1, c2, c3] : List Value).drop 0).take (Try.prog.cellsOf 3)) = some y0 := hg 0 _ rfl
      have g1 : DataW.trod enc Try.prog W 0 (fun _ => true) true k 25 ((([c0, c1, c2, c3] : List Value).drop 1).take (Try.prog.cellsOf 25)) = some y1 := hg 1 _ rfl
      have g2 : DataW.trod enc Try.prog W 0 (fun _ => true) true k 2 ((([c0, c1, c2, c3] : List Value).drop 2).take (Try.prog.cellsOf 2)) = some y2 := hg 2 _ rfl
      have g3 : DataW.trod enc Try.prog W 0 (fun _ => true) true k 53 ((([c0, c1, c2, c3] : List Value).drop 3).take (Try.prog.cellsOf 53)) = some y3 := hg 3 _ rfl
      rw [cellsInt] at g0
      rw [cellsU64] at g1
      rw [cellsI64] at g2
      rw [cellsNums] at g3
      simp only [List.drop_zero, List.drop_succ_cons, List.take_succ_cons, List.take_zero] at g0 g1 g2 g3
      obtain ⟨b0, e0, _, w0⟩ := DataW.trod_int Try.underlying3 g0
      obtain ⟨b1, e1, _, w1⟩ := DataW.trod_int Try.underlying25 g1
      obtain ⟨b2, e2, _, w2⟩ := DataW.trod_int Try.underlying2 g2
      obtain ⟨A, c, b, e3, n1, n2, n3⟩ := one_nums g3
      simp only [List.cons.injEq, and_true] at e0 e1 e2 e3
      subst e0 e1 e2 e3
      exact ⟨⟨b0, b1, b2, A, c, b⟩, rfl, (n3.ns (Nat.le_refl _)).imp fun k _ hk => hk.2, n1, n2⟩
/-- Three cells that read as rules. -/
theorem one_ru {W : World} {n : Nat} {cs : List Value} {x : DataW H × List MemPlace} (h : DataW.trod enc Try.prog W 0 (fun _ => true) true n 24 cs = some x) :
    ∃ r : Ru, cs = [.int .i64 r.mn, .int .i64 r.mo, .int .i64 r.al] ∧ (-9223372036854775808 ≤ r.al ∧ r.al ≤ 9223372036854775807) := by
  have hl : cs.length = 3 := by
    obtain ⟨xs, n', _, _, hl, _⟩ := DataW.trod_struct Try.underlying24 h
    rw [hl, cellsRu]
  match cs, hl with
  | [c0, c1, c2], _ =>
    obtain ⟨xs, k, _, hx, _, hlen, hg⟩ := DataW.trod_struct Try.underlying24 h
    match xs, hlen with
    | [y0, y1, y2], _ =>
      have g0 : DataW.trod enc Try.prog W 0 (fun _ => true) true k 3 ((([c0, c1, c2] : List Value).drop 0).take (Try.prog.cellsOf 3)) = some y0 := hg 0 _ rfl
      have g1 : DataW.trod enc Try.prog W 0 (fun _ => true) true k 3 ((([c0, c1, c2] : List Value).drop 1).take (Try.prog.cellsOf 3)) = some y1 := hg 1 _ rfl
      have g2 : DataW.trod enc Try.prog W 0 (fun _ => true) true k 3 ((([c0, c1, c2] : List Value).drop 2).take (Try.prog.cellsOf 3)) = some y2 := hg 2 _ rfl
      rw [cellsInt] at g0
      rw [cellsInt] at g1
      rw [cellsInt] at g2
      simp only [List.drop_zero, List.drop_succ_cons, List.take_succ_cons, List.take_zero] at g0 g1 g2
      obtain ⟨b0, e0, _, w0⟩ := DataW.trod_int Try.underlying3 g0
      obtain ⟨b1, e1, _, w1⟩ := DataW.trod_int Try.underlying3 g1
      obtain ⟨b2, e2, _, w2⟩ := DataW.trod_int Try.underlying3 g2
      simp only [List.cons.injEq, and_true] at e0 e1 e2
      subst e0 e1 e2
      exact ⟨⟨b0, b1, b2⟩, rfl, i64_of_wf w2⟩
theorem dbs_of (W : World) (a : Addr) : ∀ m, (∀ i, i < m → ∃ y : Db, DAt W (a.add (i * 4)) y ∧ Rd W (fun k => k < W.heap.size) y) → ∃ xs : List Db, xs.length = m ∧ ∀ i, i < m → DAt W (a.add (i * 4)) (db xs i) ∧ Rd W (fun k => k < W.heap.size) (db xs i)
  | 0, _ => ⟨[], rfl, fun i hi => absurd hi (Nat.not_lt_zero i)⟩
  | m + 1, h => by
    obtain ⟨xs, hl, hx⟩ := dbs_of W a m fun i hi => h i (by omega)
    obtain ⟨y, hy⟩ := h m (by omega)
    refine ⟨xs ++ [y], by simp [hl], fun i hi => ?_⟩
    by_cases e : i < m
    · have : db (xs ++ [y]) i = db xs i := by simp [db, List.getD, List.getElem?_append_left (show i < xs.length by omega)]
      rw [this]
      exact hx i e
    · obtain rfl : i = m := by omega
      have : db (xs ++ [y]) i = y := by simp [db, List.getD, hl]
      rw [this]
      exact hy
theorem dbs_trod {W : World} {fuel : Nat} {cs : List Value} {x : DataW H × List MemPlace} (h : DataW.trod enc Try.prog W 0 (fun _ => true) true fuel 22 cs = some x) :
    ∃ (A : Option Addr) (c : Nat) (xs : List Db), cs = [.slice A xs.length c] ∧ xs.length ≤ c ∧ c ≤ maxLen ∧ Ds W W.heap.size A xs := by
  rcases Go.Deep.open_slice Try.underlying22 h with ⟨rfl, _⟩ | ⟨a, len, cap, m, n, D, Pl, rfl, _, hl, hm, hmm, _, hi⟩
  · exact ⟨none, 0, [], rfl, by simp, by simp, Ds.nil _ _ _⟩
  · simp only [if_true] at hmm
    rw [cellsDb] at hi
    obtain ⟨xs, hxl, hx⟩ := dbs_of W a len fun i hil => by
      obtain ⟨cs', hc, ht⟩ := hi i (by omega)
      obtain ⟨y, rfl, hr⟩ := one_db ht
      obtain ⟨_, _, hat⟩ := World.cells?_some hc
      exact ⟨y, ⟨hat 0 (by decide), hat 1 (by decide), hat 2 (by decide), hat 3 (by decide)⟩, hr⟩
    refine ⟨some a, cap, xs, by rw [hxl], by omega, hm, fun j hj => ⟨a, rfl, ?_, hx j (by omega)⟩⟩
    have := World.block_lt_of_cell? W _ (hx j (by omega)).1.1
    rwa [block_add] at this
/-- What came in: doubts, rules, and numbers. -/
structure Ak where
  A : Option Addr
  c : Nat
  q : List Db
  r : Ru
  n : Int
  k : Int
  who : Int
  by_ : Int
  inc : Int
  now : Int
def Ak.cells (y : Ak) : List Value := [.slice y.A y.q.length y.c, .int .i64 y.r.mn, .int .i64 y.r.mo, .int .i64 y.r.al, .int .i64 y.n, .int .i64 y.k, .int .i64 y.who, .int .i64 y.by_, .int .u64 y.inc, .int .i64 y.now]
def inI64 (a : Int) : Prop := -9223372036854775808 ≤ a ∧ a ≤ 9223372036854775807
structure Ak.ok (W : World) (y : Ak) : Prop where
  q1 : y.q.length ≤ y.c
  q2 : y.c ≤ maxLen
  q3 : Ds W W.heap.size y.A y.q
  al : inI64 y.r.al
  n_ : inI64 y.n
  k_ : inI64 y.k
  who_ : inI64 y.who
  by__ : inI64 y.by_
  inc_ : 0 ≤ y.inc ∧ y.inc ≤ 18446744073709551615
  now_ : inI64 y.now
theorem u64_of_wf {a : Int} (h : (Lit.int .u64 a).wf = true) : 0 ≤ a ∧ a ≤ 18446744073709551615 := by
  simpa [Lit.wf, IntKind.min, IntKind.max, IntKind.signed, IntKind.bits] using h
/-- Ten cells that read so. -/
theorem one_ask {W : World} {n : Nat} {cs : List Value} {x : DataW H × List MemPlace} (h : DataW.trod enc Try.prog W 0 (fun _ => true) true n 27 cs = some x) :
    ∃ y : Ak, cs = y.cells ∧ y.ok W := by
  have hl : cs.length = 10 := by
    obtain ⟨xs, n', _, _, hl, _⟩ := DataW.trod_struct Try.underlying27 h
    rw [hl, cellsAsk]
  match cs, hl with
  | [c0, c1, c2, c3, c4, c5, c6, c7, c8, c9], _ =>
    obtain ⟨xs, k, _, hx, _, hlen, hg⟩ := DataW.trod_struct Try.underlying27 h
    match xs, hlen with
    | [y0, y1, y2, y3, y4, y5, y6, y7], _ =>
      have g0 : DataW.trod enc Try.prog W 0 (fun _ => true) true k 22 ((([c0, c1, c2, c3, c4, c5, c6, c7, c8, c9] : List Value).drop 0).take (Try.prog.cellsOf 22)) = some y0 := hg 0 _ rfl
      have g1 : DataW.trod enc Try.prog W 0 (fun _ => true) true k 24 ((([c0, c1, c2, c3, c4, c5, c6, c7, c8, c9] : List Value).drop 1).take (Try.prog.cellsOf 24)) = some y1 := hg 1 _ rfl
      have g2 : DataW.trod enc Try.prog W 0 (fun _ => true) true k 3 ((([c0, c1, c2, c3, c4, c5, c6, c7, c8, c9] : List Value).drop 4).take (Try.prog.cellsOf 3)) = some y2 := hg 2 _ rfl
      have g3 : DataW.trod enc Try.prog W 0 (fun _ => true) true k 3 ((([c0, c1, c2, c3, c4, c5, c6, c7, c8, c9] : List Value).drop 5).take (Try.prog.cellsOf 3)) = some y3 := hg 3 _ rfl
      have g4 : DataW.trod enc Try.prog W 0 (fun _ => true) true k 3 ((([c0, c1, c2, c3, c4, c5, c6, c7, c8, c9] : List Value).drop 6).take (Try.prog.cellsOf 3)) = some y4 := hg 4 _ rfl
      have g5 : DataW.trod enc Try.prog W 0 (fun _ => true) true k 3 ((([c0, c1, c2, c3, c4, c5, c6, c7, c8, c9] : List Value).drop 7).take (Try.prog.cellsOf 3)) = some y5 := hg 5 _ rfl
      have g6 : DataW.trod enc Try.prog W 0 (fun _ => true) true k 25 ((([c0, c1, c2, c3, c4, c5, c6, c7, c8, c9] : List Value).drop 8).take (Try.prog.cellsOf 25)) = some y6 := hg 6 _ rfl
      have g7 : DataW.trod enc Try.prog W 0 (fun _ => true) true k 2 ((([c0, c1, c2, c3, c4, c5, c6, c7, c8, c9] : List Value).drop 9).take (Try.prog.cellsOf 2)) = some y7 := hg 7 _ rfl
      rw [cellsDbs] at g0
      rw [cellsRu] at g1
      rw [cellsInt] at g2
      rw [cellsInt] at g3
      rw [cellsInt] at g4
      rw [cellsInt] at g5
      rw [cellsU64] at g6
      rw [cellsI64] at g7
      simp only [List.drop_zero, List.drop_succ_cons, List.take_succ_cons, List.take_zero] at g0 g1 g2 g3 g4 g5 g6 g7
      obtain ⟨A, c, q, e0, n1, n2, n3⟩ := dbs_trod g0
      obtain ⟨r, e1, hal⟩ := one_ru g1
      obtain ⟨b2, e2, _, w2⟩ := DataW.trod_int Try.underlying3 g2
      obtain ⟨b3, e3, _, w3⟩ := DataW.trod_int Try.underlying3 g3
      obtain ⟨b4, e4, _, w4⟩ := DataW.trod_int Try.underlying3 g4
      obtain ⟨b5, e5, _, w5⟩ := DataW.trod_int Try.underlying3 g5
      obtain ⟨b6, e6, _, w6⟩ := DataW.trod_int Try.underlying25 g6
      obtain ⟨b7, e7, _, w7⟩ := DataW.trod_int Try.underlying2 g7
      simp only [List.cons.injEq, and_true] at e0 e1 e2 e3 e4 e5 e6 e7
      obtain ⟨rfl, rfl, rfl⟩ := e1
      subst e0 e2 e3 e4 e5 e6 e7
      exact ⟨⟨A, c, q, r, b2, b3, b4, b5, b6, b7⟩, rfl, n1, n2, n3, hal, i64_of_wf w2, i64_of_wf w3, i64_of_wf w4, i64_of_wf w5, u64_of_wf w6, i64_of_wf w7⟩
/-- What a slice of them holds, as far as a law reads it. -/
def AAt (w : World) (a : Addr) (y : Ak) : Prop := w.cell? (a.add 5) = some (.int .i64 y.k) ∧ w.cell? (a.add 6) = some (.int .i64 y.who) ∧ w.cell? (a.add 7) = some (.int .i64 y.by_) ∧ w.cell? (a.add 8) = some (.int .u64 y.inc)
def ak (l : List Ak) (j : Nat) : Ak := l.getD j ⟨none, 0, [], ⟨0, 0, 0⟩, 0, 0, 0, 0, 0, 0⟩
def As (w : World) (A : Option Addr) (l : List Ak) : Prop := ∀ j, j < l.length → ∃ ad, A = some ad ∧ ad.block < w.heap.size ∧ AAt w (ad.add (j * 10)) (ak l j) ∧ (0 ≤ (ak l j).inc ∧ (ak l j).inc ≤ 18446744073709551615)
theorem As.on {w w' : World} {A : Option Addr} {l : List Ak} (h : As w A l) (hb : Below w.heap.size w w') : As w' A l := fun j hj => by
  obtain ⟨ad, e, h1, ⟨c1, c2, c3, c4⟩, h3⟩ := h j hj
  have hs := hb.size
  exact ⟨ad, e, by omega, ⟨cell_on c1 hb, cell_on c2 hb, cell_on c3 hb, cell_on c4 hb⟩, h3⟩
theorem AAt.flat {w : World} {ad : Addr} {j : Nat} {y : Ak} (h : AAt w (ad.add (j * 10)) y) : w.cell? ⟨ad.block, ad.off + 10 * j + 5, none⟩ = some (.int .i64 y.k) ∧ w.cell? ⟨ad.block, ad.off + 10 * j + 6, none⟩ = some (.int .i64 y.who) ∧ w.cell? ⟨ad.block, ad.off + 10 * j + 7, none⟩ = some (.int .i64 y.by_) ∧ w.cell? ⟨ad.block, ad.off + 10 * j + 8, none⟩ = some (.int .u64 y.inc) := by
  obtain ⟨h1, h2, h3, h4⟩ := h
  rw [add_add] at h1 h2 h3 h4
  have e : ∀ r, 0 < r → ad.add (j * 10 + r) = ⟨ad.block, ad.off + 10 * j + r, none⟩ := fun r hr => by
    unfold Addr.add
    rw [if_neg (by omega)]
    congr 1
    omega
  rw [e _ (by decide)] at h1 h2 h3 h4
  exact ⟨h1, h2, h3, h4⟩
theorem aks_of (W : World) (a : Addr) : ∀ m, (∀ i, i < m → ∃ y : Ak, AAt W (a.add (i * 10)) y ∧ (0 ≤ y.inc ∧ y.inc ≤ 18446744073709551615)) → ∃ xs : List Ak, xs.length = m ∧ ∀ i, i < m → AAt W (a.add (i * 10)) (ak xs i) ∧ (0 ≤ (ak xs i).inc ∧ (ak xs i).inc ≤ 18446744073709551615)
  | 0, _ => ⟨[], rfl, fun i hi => absurd hi (Nat.not_lt_zero i)⟩
  | m + 1, h => by
    obtain ⟨xs, hl, hx⟩ := aks_of W a m fun i hi => h i (by omega)
    obtain ⟨y, hy⟩ := h m (by omega)
    refine ⟨xs ++ [y], by simp [hl], fun i hi => ?_⟩
    by_cases e : i < m
    · have : ak (xs ++ [y]) i = ak xs i := by simp [ak, List.getD, List.getElem?_append_left (show i < xs.length by omega)]
      rw [this]
      exact hx i e
    · obtain rfl : i = m := by omega
      have : ak (xs ++ [y]) i = y := by simp [ak, List.getD, hl]
      rw [this]
      exact hy
theorem aks_trod {W : World} {fuel : Nat} {cs : List Value} {x : DataW H × List MemPlace} (h : DataW.trod enc Try.prog W 0 (fun _ => true) true fuel 50 cs = some x) :
    ∃ (A : Option Addr) (c : Nat) (xs : List Ak), cs = [.slice A xs.length c] ∧ xs.length ≤ c ∧ c ≤ maxLen ∧ As W A xs := by
  rcases Go.Deep.open_slice Try.underlying50 h with ⟨rfl, _⟩ | ⟨a, len, cap, m, n, D, Pl, rfl, _, hl, hm, hmm, _, hi⟩
  · exact ⟨none, 0, [], rfl, by simp, by simp, fun j hj => absurd hj (Nat.not_lt_zero j)⟩
  · simp only [if_true] at hmm
    rw [cellsAsk] at hi
    obtain ⟨xs, hxl, hx⟩ := aks_of W a len fun i hil => by
      obtain ⟨cs', hc, ht⟩ := hi i (by omega)
      obtain ⟨y, rfl, hr⟩ := one_ask ht
      obtain ⟨_, _, hat⟩ := World.cells?_some hc
      exact ⟨y, ⟨hat 5 (by decide), hat 6 (by decide), hat 7 (by decide), hat 8 (by decide)⟩, hr.inc_⟩
    refine ⟨some a, cap, xs, by rw [hxl], by omega, hm, fun j hj => ⟨a, rfl, ?_, hx j (by omega)⟩⟩
    have := World.block_lt_of_cell? W _ (hx j (by omega)).1.1
    rwa [block_add, block_add] at this
/-- Octets, in a slice. -/
def Octs (w : World) (A : Option Addr) (is : List Int) : Prop := (∀ j, j < is.length → ∃ ad, A = some ad ∧ ad.block < w.heap.size ∧ w.cell? (ad.add j) = some (.int .u8 (is.getD j 0))) ∧ ∀ i ∈ is, 0 ≤ i ∧ i ≤ 255
theorem octs_trod {W : World} {fuel : Nat} {cs : List Value} {x : DataW H × List MemPlace} (hf : DataW.trod enc Try.prog W 0 (fun _ => true) true fuel 58 cs = some x) :
    ∃ (A : Option Addr) (c : Nat) (is : List Int), cs = [.slice A is.length c] ∧ is.length ≤ c ∧ c ≤ maxLen ∧ Octs W A is := by
  rcases open_ints Try.underlying58 Try.underlying5 cellsU8 hf with ⟨rfl, hx⟩ | ⟨a, len', cap', zs, rfl, _, hl, hm, hz, hx, hcell, hwz⟩
  · exact ⟨none, 0, [], rfl, by simp, by simp, fun j hj => absurd hj (Nat.not_lt_zero j), fun _ h => (List.not_mem_nil h).elim⟩
  · simp only [if_true] at hz
    have hlen : (zs.take len').length = len' := by simp; omega
    refine ⟨some a, cap', zs.take len', by rw [hlen], by omega, hm, fun j hj => ?_, fun i hi => ?_⟩
    · rw [hlen] at hj
      have hc := hcell j (by omega)
      refine ⟨a, rfl, by have := World.block_lt_of_cell? W _ hc; rwa [block_add] at this, ?_⟩
      rw [hc]
      simp [List.getD, hj]
    · exact u8_of_wf (hwz i (List.mem_of_mem_take hi))
theorem Octs.on {w w' : World} {A : Option Addr} {is : List Int} (h : Octs w A is) (hb : Below w.heap.size w w') : Octs w' A is := ⟨fun j hj => by
  obtain ⟨ad, e, h1, h2⟩ := h.1 j hj
  have hs := hb.size
  exact ⟨ad, e, by omega, (hb.cell (by rw [block_add]; exact h1)).trans h2⟩, h.2⟩

set_option maxRecDepth 100000 in
/-- A small number that came in. -/
theorem open_u8 {W : World} {b0 : Nat} {v : Value} {d : DataW H} {p : List MemPlace} (hval : Value.okWide Try.prog W .any b0 5 v) (h : DataW.Trod enc Try.prog W 0 (fun _ => true) true 5 v d p) :
    ∃ a : Nat, v = .int .u8 (a : Int) ∧ a ≤ 255 := by
  obtain ⟨n, rfl⟩ := okWide_int Try.underlying5 hval
  obtain ⟨fuel, hf⟩ := h
  obtain ⟨a, e, _, hw⟩ := DataW.trod_int Try.underlying5 hf
  simp only [Value.cells, List.cons.injEq, and_true, Value.int.injEq, true_and] at e
  subst e
  have := u8_of_wf hw
  obtain ⟨m, rfl⟩ := Int.eq_ofNat_of_zero_le this.1
  exact ⟨m, rfl, by omega⟩

set_option maxRecDepth 100000 in
/-- Octets that came in. -/
theorem open_octs {W : World} {b0 : Nat} {v : Value} {d : DataW H} {p : List MemPlace} (hval : Value.okWide Try.prog W .any b0 58 v) (h : DataW.Trod enc Try.prog W 0 (fun _ => true) true 58 v d p) :
    ∃ (A : Option Addr) (c : Nat) (is : List Int), v = .slice A is.length c ∧ is.length ≤ c ∧ c ≤ maxLen ∧ Octs W A is := by
  obtain ⟨a0, len, cap, rfl⟩ := okWide_slice Try.underlying58 hval
  obtain ⟨fuel, hf⟩ := h
  obtain ⟨A, c, xs, e, h1, h2, h3⟩ := octs_trod hf
  simp only [Value.cells, List.cons.injEq, and_true] at e
  exact ⟨A, c, xs, e, h1, h2, h3⟩
set_option maxRecDepth 100000 in
/-- Rules that came in. -/
theorem open_rules {W : World} {b0 : Nat} {v : Value} {d : DataW H} {p : List MemPlace} (hval : Value.okWide Try.prog W .any b0 24 v) (h : DataW.Trod enc Try.prog W 0 (fun _ => true) true 24 v d p) :
    ∃ r : Ru, v = .agg #[.int .i64 r.mn, .int .i64 r.mo, .int .i64 r.al] ∧ inI64 r.al := by
  obtain ⟨cs, rfl, hsz⟩ := okWide_struct Try.underlying24 hval
  obtain ⟨l⟩ := cs
  obtain ⟨fuel, hf⟩ := h
  obtain ⟨r, e, h1⟩ := one_ru hf
  have e' : l = [.int .i64 r.mn, .int .i64 r.mo, .int .i64 r.al] := by simpa [Value.cells] using e
  subst e'
  exact ⟨r, rfl, h1⟩
set_option maxRecDepth 100000 in
/-- What came in, a struct. -/
theorem open_ask {W : World} {b0 : Nat} {v : Value} {d : DataW H} {p : List MemPlace} (hval : Value.okWide Try.prog W .any b0 27 v) (h : DataW.Trod enc Try.prog W 0 (fun _ => true) true 27 v d p) :
    ∃ y : Ak, v = .agg y.cells.toArray ∧ y.ok W := by
  obtain ⟨cs, rfl, hsz⟩ := okWide_struct Try.underlying27 hval
  obtain ⟨l⟩ := cs
  obtain ⟨fuel, hf⟩ := h
  obtain ⟨y, e, h1⟩ := one_ask hf
  have e' : l = y.cells := by simpa [Value.cells] using e
  subst e'
  exact ⟨y, rfl, h1⟩
set_option maxRecDepth 100000 in
/-- A slice of them that came in. -/
theorem open_asks {W : World} {b0 : Nat} {v : Value} {d : DataW H} {p : List MemPlace} (hval : Value.okWide Try.prog W .any b0 50 v) (h : DataW.Trod enc Try.prog W 0 (fun _ => true) true 50 v d p) :
    ∃ (A : Option Addr) (c : Nat) (xs : List Ak), v = .slice A xs.length c ∧ xs.length ≤ c ∧ c ≤ maxLen ∧ As W A xs := by
  obtain ⟨a0, len, cap, rfl⟩ := okWide_slice Try.underlying50 hval
  obtain ⟨fuel, hf⟩ := h
  obtain ⟨A, c, xs, e, h1, h2, h3⟩ := aks_trod hf
  simp only [Value.cells, List.cons.injEq, and_true] at e
  exact ⟨A, c, xs, e, h1, h2, h3⟩
set_option maxRecDepth 100000 in
/-- A great number that came in. -/
theorem open_u64 {W : World} {b0 : Nat} {v : Value} {d : DataW H} {p : List MemPlace} (hval : Value.okWide Try.prog W .any b0 25 v) (h : DataW.Trod enc Try.prog W 0 (fun _ => true) true 25 v d p) :
    ∃ a : Int, v = .int .u64 a ∧ 0 ≤ a ∧ a ≤ 18446744073709551615 := by
  obtain ⟨n, rfl⟩ := okWide_int Try.underlying25 hval
  obtain ⟨fuel, hf⟩ := h
  obtain ⟨a, e, _, hw⟩ := DataW.trod_int Try.underlying25 hf
  simp only [Value.cells, List.cons.injEq, and_true, Value.int.injEq, true_and] at e
  subst e
  have := u64_of_wf hw
  exact ⟨_, rfl, this.1, this.2⟩
end
end Go.Proofs.Ytknpbbplolncpaa
