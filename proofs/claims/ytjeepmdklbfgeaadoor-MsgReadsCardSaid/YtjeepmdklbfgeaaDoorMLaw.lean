/-
  How a law's statement is reached from its walk: the law returns true, and below the old heap nothing has turned.
-/
import Derived.Test.YtjeepmdklbfgeaaDoorKeeps
import Derived.WalkKit
import Derived.ProofKit
import Derived.OpenShut
import Derived.Deep.DeepHandedRow
import Derived.Lib.LaidTab
import Derived.Lib.SmallJoins
import Derived.Deep.Slices
namespace Go.Proofs.YtjeepmdklbfgeaaDoor
open Go.ChangeMaps (open_string)
open Go.ChangeShapes Go.WideShapes Go.ChangeAt Go.RowKit Go.Joins Go.Proofs.YtjeepmdklbfgeaaDoor.Crc Go.Proofs.YtjeepmdklbfgeaaDoor.W

theorem own : ownKnob Tryd.prog.godebug = none := by kernel_rfl
theorem laidOut : laidOutB Tryd.prog = true := by kernel_rfl
theorem gTab : Tryd.prog.globalNamed "tattle/wire.sumTable" = some 0 := by kernel_rfl
theorem gTabType : (Tryd.prog.globals[0]?).map (·.type) = some 114 := by kernel_rfl
theorem cellsTab : Tryd.prog.cellsOf 114 = 16 := by kernel_rfl
theorem cellsWord : Tryd.prog.cellsOf 45 = 1 := by kernel_rfl

/-- What each row's list gives: the table's cells. -/
theorem tab_of_laid {W : World} (h : laidMetH Tryd.prog [("tattle/wire.sumTable", Rows.laid_tattle_wire_sumTable)] W) : Tab W := fun i hi => by
  have hT : Lib.TabIs Tryd.prog W "tattle/wire.sumTable" .u32 tabl := Lib.tabIs_of_head (rest := []) gTab gTabType Tryd.underlying114 Tryd.underlying45 cellsWord cellsTab h
  exact hT.cell gTab i hi

section
variable {H : Type} {enc : TypeId × Value → H}

/-- Arguments read behind the call as they did before it. -/
theorem args_on {W W' : World} (hb : Below W.heap.size W W') : ∀ {ts : List TypeId} {vs : List Value} {ds : List (DataW H)} {ps : List MemPlace},
    (∀ t ∈ ts, Tryd.prog.readableRec t = true ∧ t < Tryd.prog.types.size) → (∀ x ∈ ps, x.block < W.heap.size) → DataW.TrodAll enc Tryd.prog W 0 (fun _ => true) true ts vs ds ps →
    DataW.TrodAll enc Tryd.prog W' 0 (fun b => decide (b < W.heap.size)) true ts vs ds ps := by
  intro ts
  induction ts with
  | nil =>
    intro vs ds ps _ _ h
    obtain ⟨rfl, rfl, rfl⟩ := trodAll_nil h
    rfl
  | cons t ts ih =>
    intro vs ds ps ht hlt h
    obtain ⟨v, vs', d, ds', p, q, rfl, rfl, rfl, h0, h1⟩ := trodAll_cons h
    exact ⟨p, q, Below.trod laidOut (ht t (by simp)).1 (ht t (by simp)).2 h0 hb (fun x hx => hlt x (by simp [hx])), ih (fun u hu => ht u (by simp [hu])) (fun x hx => hlt x (by simp [hx])) h1, rfl⟩

/-- A law that answered true, and turned nothing. -/
theorem law_post {f : Func} {s : ChangeSpec} {W W' : World} {args : Array Value} {ds gs : List (DataW H)} {before : List MemPlace}
    (hres : f.resultTypes = #[4]) (hpar : ∀ t ∈ f.params.toList, Tryd.prog.readableRec t = true ∧ t < Tryd.prog.types.size) (hvars : s.vars = [])
    (hW : DataW.Whole enc Tryd.prog f.params.toList s.vars false W args.toList ds gs before)
    (hr : (s.fn H (ds ++ gs)).results = [.lit (.bool true)]) (ha : (s.fn H (ds ++ gs)).args = ds) (hv : (s.fn H (ds ++ gs)).vars = []) (hb : Below W.heap.size W W') :
    s.post enc Tryd.prog f false true false false W args (.bool true) W' := by
  have hlt : ∀ p ∈ before, p.block < W.heap.size := fun p hp => hW.lt p hp
  have hW' := hW
  obtain ⟨p, q, hA, hV, rfl, _, _⟩ := hW'
  refine ⟨ds, gs, p ++ q, [], p, [], hW, ?_, ?_, ?_, hb.frame _, fun h => by cases h⟩
  · rw [hr, hres]
    exact trodAll_mk1 (shut_bool Tryd.underlying4 _)
  · rw [ha]
    exact args_on hb hpar (fun x hx => hlt x (by simp [hx])) hA
  · rw [hv, hvars]
    rfl
end

/-- A world for the witness: the settled one, the table holding what its initialiser lays. -/
noncomputable def laidWorld (os : Os) : World :=
  { World.holding Tryd.prog os ⟨#[], #[], []⟩ with heap := (World.holding Tryd.prog os ⟨#[], #[], []⟩).heap.modify 0 fun
      | .cells _ t frozen => .cells (tabl.map (Value.int .u32)).toArray t frozen
      | o => o }

theorem cellsKn : Tryd.prog.cellsOf 24 = 2 := by kernel_rfl
theorem cellsNw : Tryd.prog.cellsOf 63 = 3 := by kernel_rfl
theorem cellsInt : Tryd.prog.cellsOf 3 = 1 := by kernel_rfl
theorem cellsI64 : Tryd.prog.cellsOf 2 = 1 := by kernel_rfl
theorem cellsU64 : Tryd.prog.cellsOf 22 = 1 := by kernel_rfl
theorem cellsStr : Tryd.prog.cellsOf 9 = 1 := by kernel_rfl
theorem cellsBool : Tryd.prog.cellsOf 4 = 1 := by kernel_rfl
theorem cellsNws : Tryd.prog.cellsOf 25 = 1 := by kernel_rfl
theorem cellsKns : Tryd.prog.cellsOf 26 = 1 := by kernel_rfl
theorem cellsMsg : Tryd.prog.cellsOf 28 = 15 := by kernel_rfl
theorem u8_of_wf {a : Int} (h : (Lit.int .u8 a).wf = true) : 0 ≤ a ∧ a ≤ 255 := by
  simpa [Lit.wf, IntKind.min, IntKind.max, IntKind.signed, IntKind.bits] using h
theorem u64_of_wf {a : Int} (h : (Lit.int .u64 a).wf = true) : 0 ≤ a ∧ a ≤ 18446744073709551615 := by
  simpa [Lit.wf, IntKind.min, IntKind.max, IntKind.signed, IntKind.bits] using h
theorem i64_of_wf {a : Int} (h : (Lit.int .i64 a).wf = true) : -9223372036854775808 ≤ a ∧ a ≤ 9223372036854775807 := by
  simpa [Lit.wf, IntKind.min, IntKind.max, IntKind.signed, IntKind.bits] using h

open Go.Proofs.YtjeepmdklbfgeaaDoor.Pure
section
variable {H : Type} {enc : TypeId × Value → H}
/-- Two cells that read as what is known are that. -/
theorem one_kn {W : World} {n : Nat} {cs : List Value} {x : DataW H × List MemPlace} (h : DataW.trod enc Tryd.prog W 0 (fun _ => true) true n 24 cs = some x) :
    ∃ a b : Int, cs = [.int .u64 a, .int .i64 b] ∧ 0 ≤ a ∧ a ≤ 18446744073709551615 := by
  have hl : cs.length = 2 := by
    obtain ⟨xs, n', _, _, hl, _⟩ := DataW.trod_struct Tryd.underlying24 h
    rw [hl, cellsKn]
  match cs, hl with
  | [c0, c1], _ =>
    obtain ⟨y0, y1, k, _, _, h0, h1⟩ := trod_struct2 Tryd.underlying24 h
    have g0 : DataW.trod enc Tryd.prog W 0 (fun _ => true) true k 22 ((([c0, c1] : List Value).drop 0).take (Tryd.prog.cellsOf 22)) = some y0 := h0
    have g1 : DataW.trod enc Tryd.prog W 0 (fun _ => true) true k 3 ((([c0, c1] : List Value).drop 1).take (Tryd.prog.cellsOf 3)) = some y1 := h1
    rw [cellsU64] at g0
    rw [cellsInt] at g1
    simp only [List.drop_zero, List.drop_succ_cons, List.take_succ_cons, List.take_zero] at g0 g1
    obtain ⟨a, e0, _, w0⟩ := DataW.trod_int Tryd.underlying22 g0
    obtain ⟨b, e1, _, _⟩ := DataW.trod_int Tryd.underlying3 g1
    simp only [List.cons.injEq, and_true] at e0 e1
    subst e0 e1
    exact ⟨a, b, rfl, u64_of_wf w0⟩
/-- Three cells that read as news are that. -/
theorem one_nw {W : World} {n : Nat} {cs : List Value} {x : DataW H × List MemPlace} (h : DataW.trod enc Tryd.prog W 0 (fun _ => true) true n 63 cs = some x) :
    ∃ y : Nw, cs = [.int .i64 y.w, .int .u64 y.i, .int .i64 y.s] ∧ Fit y.k := by
  have hl : cs.length = 3 := by
    obtain ⟨xs, n', _, _, hl, _⟩ := DataW.trod_struct Tryd.underlying63 h
    rw [hl, cellsNw]
  match cs, hl with
  | [c0, c1, c2], _ =>
    obtain ⟨y0, y1, k, _, _, h0, h1⟩ := trod_struct2 Tryd.underlying63 h
    have g0 : DataW.trod enc Tryd.prog W 0 (fun _ => true) true k 3 ((([c0, c1, c2] : List Value).drop 0).take (Tryd.prog.cellsOf 3)) = some y0 := h0
    have g1 : DataW.trod enc Tryd.prog W 0 (fun _ => true) true k 24 ((([c0, c1, c2] : List Value).drop 1).take (Tryd.prog.cellsOf 24)) = some y1 := h1
    rw [cellsInt] at g0
    rw [cellsKn] at g1
    simp only [List.drop_zero, List.drop_succ_cons, List.take_succ_cons, List.take_zero] at g0 g1
    obtain ⟨a, e0, _, _⟩ := DataW.trod_int Tryd.underlying3 g0
    obtain ⟨b, c, e1, hf⟩ := one_kn g1
    simp only [List.cons.injEq, and_true] at e0 e1
    obtain ⟨rfl, rfl⟩ := e1
    subst e0
    exact ⟨⟨a, b, c⟩, rfl, hf⟩
theorem nws_of (W : World) (a : Addr) : ∀ m, (∀ i, i < m → ∃ y : Nw, NAt W (a.add (i * 3)) y ∧ Fit y.k) → ∃ xs : List Nw, xs.length = m ∧ (∀ i, i < m → NAt W (a.add (i * 3)) (nw xs i)) ∧ ∀ y ∈ xs, Fit y.k
  | 0, _ => ⟨[], rfl, fun i hi => absurd hi (Nat.not_lt_zero i), fun _ h => by simp at h⟩
  | m + 1, h => by
    obtain ⟨xs, hl, hx, hF⟩ := nws_of W a m fun i hi => h i (by omega)
    obtain ⟨y, hy, hfy⟩ := h m (by omega)
    refine ⟨xs ++ [y], by simp [hl], fun i hi => ?_, fun z hz => (List.mem_append.1 hz).elim (hF z) (fun h => by rw [List.mem_singleton.1 h]; exact hfy)⟩
    by_cases e : i < m
    · have : nw (xs ++ [y]) i = nw xs i := by simp [nw, List.getD, List.getElem?_append_left (show i < xs.length by omega)]
      rw [this]
      exact hx i e
    · obtain rfl : i = m := by omega
      have : nw (xs ++ [y]) i = y := by simp [nw, List.getD, hl]
      rw [this]
      exact hy
theorem nws_trod {W : World} {fuel : Nat} {cs : List Value} {x : DataW H × List MemPlace} (h : DataW.trod enc Tryd.prog W 0 (fun _ => true) true fuel 25 cs = some x) :
    ∃ (A : Option Addr) (c : Nat) (xs : List Nw), cs = [.slice A xs.length c] ∧ xs.length ≤ c ∧ c ≤ maxLen ∧ Ns W A xs ∧ ∀ y ∈ xs, Fit y.k := by
  rcases Go.Deep.open_slice Tryd.underlying25 h with ⟨rfl, _⟩ | ⟨a, len, cap, m, n, D, Pl, rfl, _, hl, hm, hmm, _, hi⟩
  · exact ⟨none, 0, [], rfl, by simp, by simp, Ns.nil _ _, fun _ h => by simp at h⟩
  · simp only [if_true] at hmm
    rw [cellsNw] at hi
    obtain ⟨xs, hxl, hx, hF⟩ := nws_of W a len fun i hil => by
      obtain ⟨cs', hc, ht⟩ := hi i (by omega)
      obtain ⟨y, rfl, hfy⟩ := one_nw ht
      obtain ⟨_, _, hat⟩ := World.cells?_some hc
      exact ⟨y, ⟨hat 0 (by decide), hat 1 (by decide), hat 2 (by decide)⟩, hfy⟩
    refine ⟨some a, cap, xs, by rw [hxl], by omega, hm, fun j hj => ⟨a, rfl, ?_, hx j (by omega)⟩, hF⟩
    have := World.block_lt_of_cell? W _ (hx j (by omega)).1
    rwa [block_add] at this
theorem kns_of (W : World) (a : Addr) : ∀ m, (∀ i, i < m → ∃ y   : Kn, KAt W (a.add (i * 2)) y ∧ Fit y) → ∃ xs : List Kn, xs.length = m ∧ (∀ i, i < m → KAt W (a.add (i * 2)) (kn xs i)) ∧ ∀ y ∈ xs, Fit y
  | 0, _ => ⟨[], rfl, fun i hi => absurd hi (Nat.not_lt_zero i), fun _ h => by simp at h⟩
  | m + 1, h => by
    obtain ⟨xs, hl, hx, hF⟩ := kns_of W a m fun i hi => h i (by omega)
    obtain ⟨y, hy, hfy⟩ := h m (by omega)
    refine ⟨xs ++ [y], by simp [hl], fun i hi => ?_, fun z hz => (List.mem_append.1 hz).elim (hF z) (fun h => by rw [List.mem_singleton.1 h]; exact hfy)⟩
    by_cases e : i < m
    · have : kn (xs ++ [y]) i = kn xs i := by simp [kn, List.getD, List.getElem?_append_left (show i < xs.length by omega)]
      rw [this]
      exact hx i e
    · obtain rfl : i = m := by omega
      have : kn (xs ++ [y]) i = y := by simp [kn, List.getD, hl]
      rw [this]
      exact hy
theorem kns_trod {W : World} {fuel : Nat} {cs : List Value} {x : DataW H × List MemPlace} (h : DataW.trod enc Tryd.prog W 0 (fun _ => true) true fuel 26 cs = some x) :
    ∃ (A : Option Addr) (c : Nat) (xs : List Kn), cs = [.slice A xs.length c] ∧ xs.length ≤ c ∧ c ≤ maxLen ∧ Lst W A xs ∧ ∀ y ∈ xs, Fit y := by
  rcases Go.Deep.open_slice Tryd.underlying26 h with ⟨rfl, _⟩ | ⟨a, len, cap, m, n, D, Pl, rfl, _, hl, hm, hmm, _, hi⟩
  · exact ⟨none, 0, [], rfl, by simp, by simp, Lst.nil _ _, fun _ h => by simp at h⟩
  · simp only [if_true] at hmm
    rw [cellsKn] at hi
    obtain ⟨xs, hxl, hx, hF⟩ := kns_of W a len fun i hil => by
      obtain ⟨cs', hc, ht⟩ := hi i (by omega)
      obtain ⟨ya, yb, rfl, hfy⟩ := one_kn ht
      obtain ⟨_, _, hat⟩ := World.cells?_some hc
      exact ⟨⟨ya, yb⟩, ⟨hat 0 (by decide), hat 1 (by decide)⟩, hfy⟩
    refine ⟨some a, cap, xs, by rw [hxl], by omega, hm, fun j hj => ⟨a, rfl, ?_, hx j (by omega)⟩, hF⟩
    have := World.block_lt_of_cell? W _ (hx j (by omega)).1
    rwa [block_add] at this
set_option maxRecDepth 100000 in
/-- A small number that came in. -/
theorem open_u8 {W : World} {b0 : Nat} {v : Value} {d : DataW H} {p : List MemPlace} (hval : Value.okWide Tryd.prog W .any b0 5 v) (h : DataW.Trod enc Tryd.prog W 0 (fun _ => true) true 5 v d p) :
    ∃ a : Nat, v = .int .u8 (a : Int) ∧ a ≤ 255 := by
  obtain ⟨n, rfl⟩ := okWide_int Tryd.underlying5 hval
  obtain ⟨fuel, hf⟩ := h
  obtain ⟨a, e, _, hw⟩ := DataW.trod_int Tryd.underlying5 hf
  simp only [Value.cells, List.cons.injEq, and_true, Value.int.injEq, true_and] at e
  subst e
  have := u8_of_wf hw
  obtain ⟨m, rfl⟩ := Int.eq_ofNat_of_zero_le this.1
  exact ⟨m, rfl, by omega⟩

/-- A message that came in: its lists are as long as they will. -/
def MsgA (w : World) (v : Value) (m : Mg) : Prop :=
  ∃ (A : Option Addr) (cA : Nat) (T : Option Addr) (cT : Nat), v = mvv m (.slice A m.ns.length cA) (.slice T m.tb.length cT) ∧ Ns w A m.ns ∧ Lst w T m.tb ∧ (m.ns.length ≤ cA ∧ cA ≤ maxLen) ∧ (m.tb.length ≤ cT ∧ cT ≤ maxLen) ∧ m.ts.size ≤ maxLen
theorem MsgA.on {w w' : World} {v : Value} {m : Mg} (h : MsgA w v m) (hb : Below w.heap.size w w') : MsgA w' v m := by
  obtain ⟨A, cA, T, cT, rfl, hA, hT, l1, l2, l3⟩ := h
  exact ⟨A, cA, T, cT, rfl, hA.on hb, hT.on hb, l1, l2, l3⟩
set_option maxRecDepth 100000 in
set_option maxHeartbeats 1000000 in
theorem open_msg {W : World} {b0 : Nat} {v : Value} {d : DataW H} {p : List MemPlace} (hval : Value.okWide Tryd.prog W .any b0 28 v) (h : DataW.Trod enc Tryd.prog W 0 (fun _ => true) true 28 v d p) :
    ∃ m : Mg, MsgA W v m ∧ Wf m := by
  obtain ⟨cs, rfl, hsz⟩ := okWide_struct Tryd.underlying28 hval
  obtain ⟨l⟩ := cs
  match l, hsz.trans cellsMsg with
  | [c0, c1, c2, c3, c4, c5, c6, c7, c8, c9, c10, c11, c12, c13, c14], _ =>
    obtain ⟨fuel, hf⟩ := h
    obtain ⟨xs, n, _, hx, _, hlen, hg⟩ := DataW.trod_struct Tryd.underlying28 hf
    match xs, hlen with
    | [y0, y1, y2, y3, y4, y5, y6, y7, y8, y9, y10, y11, y12, y13], _ =>
      have g0 : DataW.trod enc Tryd.prog W 0 (fun _ => true) true n 3 ((([c0, c1, c2, c3, c4, c5, c6, c7, c8, c9, c10, c11, c12, c13, c14] : List Value).drop 0).take (Tryd.prog.cellsOf 3)) = some y0 := hg 0 _ rfl
      have g1 : DataW.trod enc Tryd.prog W 0 (fun _ => true) true n 3 ((([c0, c1, c2, c3, c4, c5, c6, c7, c8, c9, c10, c11, c12, c13, c14] : List Value).drop 1).take (Tryd.prog.cellsOf 3)) = some y1 := hg 1 _ rfl
      have g2 : DataW.trod enc Tryd.prog W 0 (fun _ => true) true n 3 ((([c0, c1, c2, c3, c4, c5, c6, c7, c8, c9, c10, c11, c12, c13, c14] : List Value).drop 2).take (Tryd.prog.cellsOf 3)) = some y2 := hg 2 _ rfl
      have g3 : DataW.trod enc Tryd.prog W 0 (fun _ => true) true n 22 ((([c0, c1, c2, c3, c4, c5, c6, c7, c8, c9, c10, c11, c12, c13, c14] : List Value).drop 3).take (Tryd.prog.cellsOf 22)) = some y3 := hg 3 _ rfl
      have g4 : DataW.trod enc Tryd.prog W 0 (fun _ => true) true n 3 ((([c0, c1, c2, c3, c4, c5, c6, c7, c8, c9, c10, c11, c12, c13, c14] : List Value).drop 4).take (Tryd.prog.cellsOf 3)) = some y4 := hg 4 _ rfl
      have g5 : DataW.trod enc Tryd.prog W 0 (fun _ => true) true n 24 ((([c0, c1, c2, c3, c4, c5, c6, c7, c8, c9, c10, c11, c12, c13, c14] : List Value).drop 5).take (Tryd.prog.cellsOf 24)) = some y5 := hg 5 _ rfl
      have g6 : DataW.trod enc Tryd.prog W 0 (fun _ => true) true n 25 ((([c0, c1, c2, c3, c4, c5, c6, c7, c8, c9, c10, c11, c12, c13, c14] : List Value).drop 7).take (Tryd.prog.cellsOf 25)) = some y6 := hg 6 _ rfl
      have g7 : DataW.trod enc Tryd.prog W 0 (fun _ => true) true n 26 ((([c0, c1, c2, c3, c4, c5, c6, c7, c8, c9, c10, c11, c12, c13, c14] : List Value).drop 8).take (Tryd.prog.cellsOf 26)) = some y7 := hg 7 _ rfl
      have g8 : DataW.trod enc Tryd.prog W 0 (fun _ => true) true n 22 ((([c0, c1, c2, c3, c4, c5, c6, c7, c8, c9, c10, c11, c12, c13, c14] : List Value).drop 9).take (Tryd.prog.cellsOf 22)) = some y8 := hg 8 _ rfl
      have g9 : DataW.trod enc Tryd.prog W 0 (fun _ => true) true n 22 ((([c0, c1, c2, c3, c4, c5, c6, c7, c8, c9, c10, c11, c12, c13, c14] : List Value).drop 10).take (Tryd.prog.cellsOf 22)) = some y9 := hg 9 _ rfl
      have g10 : DataW.trod enc Tryd.prog W 0 (fun _ => true) true n 2 ((([c0, c1, c2, c3, c4, c5, c6, c7, c8, c9, c10, c11, c12, c13, c14] : List Value).drop 11).take (Tryd.prog.cellsOf 2)) = some y10 := hg 10 _ rfl
      have g11 : DataW.trod enc Tryd.prog W 0 (fun _ => true) true n 9 ((([c0, c1, c2, c3, c4, c5, c6, c7, c8, c9, c10, c11, c12, c13, c14] : List Value).drop 12).take (Tryd.prog.cellsOf 9)) = some y11 := hg 11 _ rfl
      have g12 : DataW.trod enc Tryd.prog W 0 (fun _ => true) true n 22 ((([c0, c1, c2, c3, c4, c5, c6, c7, c8, c9, c10, c11, c12, c13, c14] : List Value).drop 13).take (Tryd.prog.cellsOf 22)) = some y12 := hg 12 _ rfl
      have g13 : DataW.trod enc Tryd.prog W 0 (fun _ => true) true n 4 ((([c0, c1, c2, c3, c4, c5, c6, c7, c8, c9, c10, c11, c12, c13, c14] : List Value).drop 14).take (Tryd.prog.cellsOf 4)) = some y13 := hg 13 _ rfl
      rw [cellsInt] at g0
      rw [cellsInt] at g1
      rw [cellsInt] at g2
      rw [cellsU64] at g3
      rw [cellsInt] at g4
      rw [cellsKn] at g5
      rw [cellsNws] at g6
      rw [cellsKns] at g7
      rw [cellsU64] at g8
      rw [cellsU64] at g9
      rw [cellsI64] at g10
      rw [cellsStr] at g11
      rw [cellsU64] at g12
      rw [cellsBool] at g13
      simp only [List.drop_zero, List.drop_succ_cons, List.take_succ_cons, List.take_zero] at g0 g1 g2 g3 g4 g5 g6 g7 g8 g9 g10 g11 g12 g13
      obtain ⟨kd, e0, _, w0⟩ := DataW.trod_int Tryd.underlying3 g0
      obtain ⟨fr, e1, _, w1⟩ := DataW.trod_int Tryd.underlying3 g1
      obtain ⟨tt, e2, _, w2⟩ := DataW.trod_int Tryd.underlying3 g2
      obtain ⟨sq, e3, _, w3⟩ := DataW.trod_int Tryd.underlying22 g3
      obtain ⟨wh, e4, _, w4⟩ := DataW.trod_int Tryd.underlying3 g4
      obtain ⟨ki, ks, e5, w5⟩ := one_kn g5
      obtain ⟨A, cA, ns, e6, a1, a2, hA, fA⟩ := nws_trod g6
      obtain ⟨T, cT, tb, e7, b1, b2, hT, fT⟩ := kns_trod g7
      obtain ⟨ep, e8, _, w8⟩ := DataW.trod_int Tryd.underlying22 g8
      obtain ⟨bo, e9, _, w9⟩ := DataW.trod_int Tryd.underlying22 g9
      obtain ⟨ak, e10, _, w10⟩ := DataW.trod_int Tryd.underlying2 g10
      obtain ⟨ts, e11, _, wts⟩ := DataW.trod_string Tryd.underlying9 g11
      obtain ⟨tn, e12, _, w12⟩ := DataW.trod_int Tryd.underlying22 g12
      obtain ⟨gd, e13, _⟩ := DataW.trod_bool Tryd.underlying4 g13
      simp only [List.cons.injEq, and_true] at e0 e1 e2 e3 e4 e5 e6 e7 e8 e9 e10 e11 e12 e13
      obtain ⟨rfl, rfl⟩ := e5
      subst e0 e1 e2 e3 e4 e6 e7 e8 e9 e10 e11 e12 e13
      obtain ⟨nsq, rfl⟩ := Int.eq_ofNat_of_zero_le (u64_of_wf w3).1
      obtain ⟨nep, rfl⟩ := Int.eq_ofNat_of_zero_le (u64_of_wf w8).1
      obtain ⟨nbo, rfl⟩ := Int.eq_ofNat_of_zero_le (u64_of_wf w9).1
      obtain ⟨ntn, rfl⟩ := Int.eq_ofNat_of_zero_le (u64_of_wf w12).1
      have u3 := (u64_of_wf w3).2
      have u8 := (u64_of_wf w8).2
      have u9 := (u64_of_wf w9).2
      have u12 := (u64_of_wf w12).2
      exact ⟨⟨kd, fr, tt, nsq, wh, ⟨ki, ks⟩, ns, tb, nep, nbo, ak, ts, ntn, gd⟩, ⟨A, cA, T, cT, rfl, hA, hT, ⟨a1, a2⟩, ⟨b1, b2⟩, wts⟩, ⟨by show nsq < _; omega, by show nep < _; omega, by show nbo < _; omega, by show ntn < _; omega, w5, fA, fT⟩⟩
end
end Go.Proofs.YtjeepmdklbfgeaaDoor
