/-
  How a law's statement is reached from its walk: the law returns true, and below the old heap nothing has turned.
-/
import Derived.Test.YtjdfkflpgimloaaSum
import Derived.ProofKit
import Derived.OpenShut
import Derived.Lib.SmallJoins
import Derived.SliceStrings
import Derived.ChangeMaps
namespace Go.Proofs.Ytjdfkflpgimloaa
open Go.ChangeShapes Go.WideShapes Go.ChangeAt Go.RowKit Go.Joins

theorem own : ownKnob Try.prog.godebug = none := by kernel_rfl
theorem laidOut : laidOutB Try.prog = true := by kernel_rfl

section
variable {H : Type} {enc : TypeId × Value → H}

/-- Arguments read behind the call as they did before it. -/
theorem args_on {W W' : World} (hb : Below W.heap.size W W') : ∀ {ts : List TypeId} {vs : List Value} {ds : List (DataW H)} {ps : List MemPlace},
    (∀ t ∈ ts, Try.prog.readableRec t = true ∧ t < Try.prog.types.size) → (∀ x ∈ ps, x.block < W.heap.size) → DataW.TrodAll enc Try.prog W 0 (fun _ => true) true ts vs ds ps →
    DataW.TrodAll enc Try.prog W' 0 (fun b => decide (b < W.heap.size)) true ts vs ds ps := by
  intro ts
  induction ts with
  | nil =>
    intro vs ds ps _ _ h
    obtain ⟨rfl, rfl, rfl⟩ := trodAll_nil h
    rfl
  | cons t ts ih =>
    intro vs ds ps ht hlt h
    obtain ⟨v, vs', d, ds', p, q, rfl, rfl, rfl, h0, h1⟩ := trodAll_cons h
    exact ⟨p, q, Below.trod laidOut (ht t (by simp)).1 (ht t (by simp)).2 h0 hb (fun x hx => hlt x (by simp [hx])), ih (fun u hu => ht u (by simp [hu])) (fun x hx => hlt x (by simp [hx])) h1, rfl⟩

/-- A law that answered true, and turned nothing. -/
theorem law_post {f : Func} {s : ChangeSpec} {W W' : World} {args : Array Value} {ds gs : List (DataW H)} {before : List MemPlace}
    (hres : f.resultTypes = #[4]) (hpar : ∀ t ∈ f.params.toList, Try.prog.readableRec t = true ∧ t < Try.prog.types.size) (hvars : s.vars = [])
    (hW : DataW.Whole enc Try.prog f.params.toList s.vars false W args.toList ds gs before)
    (hr : (s.fn H (ds ++ gs)).results = [.lit (.bool true)]) (ha : (s.fn H (ds ++ gs)).args = ds) (hv : (s.fn H (ds ++ gs)).vars = []) (hb : Below W.heap.size W W') :
    s.post enc Try.prog f false true false false W args (.bool true) W' := by
  have hlt : ∀ p ∈ before, p.block < W.heap.size := fun p hp => hW.lt p hp
  have hW' := hW
  obtain ⟨p, q, hA, hV, rfl, _, _⟩ := hW'
  refine ⟨ds, gs, p ++ q, [], p, [], hW, ?_, ?_, ?_, hb.frame _, fun h => by cases h⟩
  · rw [hr, hres]
    exact trodAll_mk1 (shut_bool Try.underlying4 _)
  · rw [ha]
    exact args_on hb hpar (fun x hx => hlt x (by simp [hx])) hA
  · rw [hv, hvars]
    rfl

theorem u8_of_wf {a : Int} (h : (Lit.int .u8 a).wf = true) : 0 ≤ a ∧ a ≤ 255 := by
  simpa [Lit.wf, IntKind.min, IntKind.max, IntKind.signed, IntKind.bits] using h
theorem u64_of_wf {a : Int} (h : (Lit.int .u64 a).wf = true) : 0 ≤ a ∧ a ≤ 18446744073709551615 := by
  simpa [Lit.wf, IntKind.min, IntKind.max, IntKind.signed, IntKind.bits] using h
theorem cellsStr : Try.prog.cellsOf 9 = 1 := by kernel_rfl
theorem cellsU8 : Try.prog.cellsOf 5 = 1 := by kernel_rfl
theorem cellsU16 : Try.prog.cellsOf 31 = 1 := by kernel_rfl
theorem cellsU64 : Try.prog.cellsOf 23 = 1 := by kernel_rfl
theorem cellsDiffer : Try.prog.cellsOf 33 = 5 := by kernel_rfl
theorem cellsTurn : Try.prog.cellsOf 38 = 4 := by kernel_rfl
theorem u16_of_wf {a : Int} (h : (Lit.int .u16 a).wf = true) : 0 ≤ a ∧ a ≤ 65535 := by
  simpa [Lit.wf, IntKind.min, IntKind.max, IntKind.signed, IntKind.bits] using h
theorem is_bv {a : Int} (h : 0 ≤ a ∧ a ≤ 18446744073709551615) : ∃ x : BitVec 64, a = (x.toNat : Int) :=
  ⟨BitVec.ofNat 64 a.toNat, by rw [BitVec.toNat_ofNat, Nat.mod_eq_of_lt (by omega)]; omega⟩
theorem is_octet {a : Int} (h : 0 ≤ a ∧ a ≤ 255) : ∃ x : UInt8, a = (x.toNat : Int) :=
  ⟨UInt8.ofNat a.toNat, by rw [UInt8.toNat_ofNat', Nat.mod_eq_of_lt (by omega)]; omega⟩

def Octs (w : World) (A : Option Addr) (is : List Int) : Prop := (∀ j, j < is.length → ∃ ad, A = some ad ∧ ad.block < w.heap.size ∧ w.cell? (ad.add j) = some (.int .u8 (is.getD j 0))) ∧ ∀ i ∈ is, 0 ≤ i ∧ i ≤ 255
theorem octs_trod {W : World} {fuel : Nat} {cs : List Value} {x : DataW H × List MemPlace} (hf : DataW.trod enc Try.prog W 0 (fun _ => true) true fuel 34 cs = some x) :
    ∃ (A : Option Addr) (c : Nat) (is : List Int), cs = [.slice A is.length c] ∧ is.length ≤ c ∧ c ≤ maxLen ∧ Octs W A is := by
  rcases open_ints Try.underlying34 Try.underlying5 cellsU8 hf with ⟨rfl, hx⟩ | ⟨a, len', cap', zs, rfl, _, hl, hm, hz, hx, hcell, hwz⟩
  · exact ⟨none, 0, [], rfl, by simp, by simp, fun j hj => absurd hj (Nat.not_lt_zero j), fun _ h => (List.not_mem_nil h).elim⟩
  · simp only [if_true] at hz
    have hlen : (zs.take len').length = len' := by simp; omega
    refine ⟨some a, cap', zs.take len', by rw [hlen], by omega, hm, fun j hj => ?_, fun i hi => ?_⟩
    · rw [hlen] at hj
      have hc := hcell j (by omega)
      refine ⟨a, rfl, by have := World.block_lt_of_cell? W _ hc; rwa [block_add] at this, ?_⟩
      rw [hc]
      simp [List.getD, hj]
    · exact u8_of_wf (hwz i (List.mem_of_mem_take hi))
theorem Octs.on {w w' : World} {A : Option Addr} {is : List Int} (h : Octs w A is) (hb : Below w.heap.size w w') : Octs w' A is := ⟨fun j hj => by
  obtain ⟨ad, e, h1, h2⟩ := h.1 j hj
  have hs := hb.size
  exact ⟨ad, e, by omega, (hb.cell (by rw [block_add]; exact h1)).trans h2⟩, h.2⟩

set_option maxRecDepth 100000 in
/-- A small number that came in. -/
theorem open_u8 {W : World} {b0 : Nat} {v : Value} {d : DataW H} {p : List MemPlace} (hval : Value.okWide Try.prog W .any b0 5 v) (h : DataW.Trod enc Try.prog W 0 (fun _ => true) true 5 v d p) :
    ∃ a : Nat, v = .int .u8 (a : Int) ∧ a ≤ 255 := by
  obtain ⟨n, rfl⟩ := okWide_int Try.underlying5 hval
  obtain ⟨fuel, hf⟩ := h
  obtain ⟨a, e, _, hw⟩ := DataW.trod_int Try.underlying5 hf
  simp only [Value.cells, List.cons.injEq, and_true, Value.int.injEq, true_and] at e
  subst e
  have := u8_of_wf hw
  obtain ⟨m, rfl⟩ := Int.eq_ofNat_of_zero_le this.1
  exact ⟨m, rfl, by omega⟩

set_option maxRecDepth 100000 in
/-- Octets that came in. -/
theorem open_octs {W : World} {b0 : Nat} {v : Value} {d : DataW H} {p : List MemPlace} (hval : Value.okWide Try.prog W .any b0 34 v) (h : DataW.Trod enc Try.prog W 0 (fun _ => true) true 34 v d p) :
    ∃ (A : Option Addr) (c : Nat) (is : List Int), v = .slice A is.length c ∧ is.length ≤ c ∧ c ≤ maxLen ∧ Octs W A is := by
  obtain ⟨a0, len, cap, rfl⟩ := okWide_slice Try.underlying34 hval
  obtain ⟨fuel, hf⟩ := h
  obtain ⟨A, c, xs, e, h1, h2, h3⟩ := octs_trod hf
  simp only [Value.cells, List.cons.injEq, and_true] at e
  exact ⟨A, c, xs, e, h1, h2, h3⟩
set_option maxRecDepth 100000 in
/-- A great number that came in. -/
theorem open_u64 {W : World} {b0 : Nat} {v : Value} {d : DataW H} {p : List MemPlace} (hval : Value.okWide Try.prog W .any b0 23 v) (h : DataW.Trod enc Try.prog W 0 (fun _ => true) true 23 v d p) :
    ∃ x : BitVec 64, v = .int .u64 (x.toNat : Int) := by
  obtain ⟨n, rfl⟩ := okWide_int Try.underlying23 hval
  obtain ⟨fuel, hf⟩ := h
  obtain ⟨a, e, _, hw⟩ := DataW.trod_int Try.underlying23 hf
  simp only [Value.cells, List.cons.injEq, and_true, Value.int.injEq, true_and] at e
  subst e
  obtain ⟨x, rfl⟩ := is_bv (u64_of_wf hw)
  exact ⟨x, rfl⟩
set_option maxRecDepth 100000 in
/-- A text that came in. -/
theorem open_text {W : World} {b0 : Nat} {v : Value} {d : DataW H} {p : List MemPlace} (hval : Value.okWide Try.prog W .any b0 9 v) (h : DataW.Trod enc Try.prog W 0 (fun _ => true) true 9 v d p) :
    ∃ s : ByteArray, v = .string s ∧ s.size ≤ maxLen := by
  obtain ⟨s, rfl, _, _, hs⟩ := Go.ChangeMaps.open_string Try.underlying9 hval h
  exact ⟨s, rfl, hs⟩
set_option maxRecDepth 100000 in
/-- A slice of texts that came in. -/
theorem open_texts {W : World} {b0 : Nat} {v : Value} {d : DataW H} {p : List MemPlace} (hval : Value.okWide Try.prog W .any b0 22 v) (h : DataW.Trod enc Try.prog W 0 (fun _ => true) true 22 v d p) :
    ∃ (A : Option Addr) (c : Nat) (xs : List ByteArray), v = .slice A xs.length c ∧ xs.length ≤ c ∧ c ≤ maxLen ∧ Has W 0 W.heap.size A xs ∧ ∀ s ∈ xs, s.size ≤ maxLen := by
  obtain ⟨a0, len, cap, rfl⟩ := okWide_slice Try.underlying22 hval
  obtain ⟨fuel, hf⟩ := h
  rcases open_strings Try.underlying22 Try.underlying9 cellsStr hf with ⟨hcs, hx⟩ | ⟨a, len', cap', zs, hcs, _, hl, hm, hz, hx, hcell, hsz⟩
  · simp [Value.cells] at hcs
    obtain ⟨rfl, rfl, rfl⟩ := hcs
    exact ⟨none, 0, [], rfl, by simp, by simp, Has.nil _ _ _ _, by simp⟩
  · simp [Value.cells] at hcs
    obtain ⟨rfl, rfl, rfl⟩ := hcs
    simp only [if_true] at hz
    have hlen : (zs.take len).length = len := by simp; omega
    refine ⟨some a, cap, zs.take len, by rw [hlen], by omega, hm, fun j hj => ?_, fun s hs => hsz s (List.mem_of_mem_take hs)⟩
    rw [hlen] at hj
    have hc := hcell j (by omega)
    refine ⟨a, rfl, Nat.zero_le _, by have := World.block_lt_of_cell? W _ hc; rwa [block_add] at this, ?_⟩
    rw [hc]
    simp [List.getD, hj]

set_option maxRecDepth 100000 in
/-- FnvDiffers' argument that came in. -/
theorem open_differ {W : World} {b0 : Nat} {v : Value} {d : DataW H} {p : List MemPlace} (hval : Value.okWide Try.prog W .any b0 33 v) (h : DataW.Trod enc Try.prog W 0 (fun _ => true) true 33 v d p) :
    ∃ (s : ByteArray) (t : Nat) (c : UInt8) (x y : BitVec 64), v = .agg #[.string s, .int .u16 (t : Int), .int .u8 (c.toNat : Int), .int .u64 (x.toNat : Int), .int .u64 (y.toNat : Int)] ∧ s.size ≤ maxLen ∧ t ≤ 65535 := by
  obtain ⟨cs, rfl, hsz⟩ := okWide_struct Try.underlying33 hval
  obtain ⟨l⟩ := cs
  match l, hsz.trans cellsDiffer with
  | [c0, c1, c2, c3, c4], _ =>
    obtain ⟨fuel, hf⟩ := h
    obtain ⟨xs, n, _, hx, _, hlen, hg⟩ := DataW.trod_struct Try.underlying33 hf
    match xs, hlen with
    | [y0, y1, y2, y3, y4], _ =>
      have g0 : DataW.trod enc Try.prog W 0 (fun _ => true) true n 9 ((([c0, c1, c2, c3, c4] : List Value).drop 0).take (Try.prog.cellsOf 9)) = some y0 := hg 0 _ rfl
      have g1 : DataW.trod enc Try.prog W 0 (fun _ => true) true n 31 ((([c0, c1, c2, c3, c4] : List Value).drop 1).take (Try.prog.cellsOf 31)) = some y1 := hg 1 _ rfl
      have g2 : DataW.trod enc Try.prog W 0 (fun _ => true) true n 5 ((([c0, c1, c2, c3, c4] : List Value).drop 2).take (Try.prog.cellsOf 5)) = some y2 := hg 2 _ rfl
      have g3 : DataW.trod enc Try.prog W 0 (fun _ => true) true n 23 ((([c0, c1, c2, c3, c4] : List Value).drop 3).take (Try.prog.cellsOf 23)) = some y3 := hg 3 _ rfl
      have g4 : DataW.trod enc Try.prog W 0 (fun _ => true) true n 23 ((([c0, c1, c2, c3, c4] : List Value).drop 4).take (Try.prog.cellsOf 23)) = some y4 := hg 4 _ rfl
      rw [cellsStr] at g0
      rw [cellsU16] at g1
      rw [cellsU8] at g2
      rw [cellsU64] at g3 g4
      simp only [List.drop_zero, List.drop_succ_cons, List.take_succ_cons, List.take_zero] at g0 g1 g2 g3 g4
      obtain ⟨s, e0, _, w0⟩ := DataW.trod_string Try.underlying9 g0
      obtain ⟨b1, e1, _, w1⟩ := DataW.trod_int Try.underlying31 g1
      obtain ⟨b2, e2, _, w2⟩ := DataW.trod_int Try.underlying5 g2
      obtain ⟨b3, e3, _, w3⟩ := DataW.trod_int Try.underlying23 g3
      obtain ⟨b4, e4, _, w4⟩ := DataW.trod_int Try.underlying23 g4
      simp only [List.cons.injEq, and_true] at e0 e1 e2 e3 e4
      subst e0 e1 e2 e3 e4
      have h1 := u16_of_wf w1
      obtain ⟨t, rfl⟩ := Int.eq_ofNat_of_zero_le h1.1
      obtain ⟨c, rfl⟩ := is_octet (u8_of_wf w2)
      obtain ⟨x, rfl⟩ := is_bv (u64_of_wf w3)
      obtain ⟨y, rfl⟩ := is_bv (u64_of_wf w4)
      exact ⟨s, t, c, x, y, rfl, w0, by omega⟩
set_option maxRecDepth 100000 in
/-- FnvTurns' argument that came in. -/
theorem open_turn {W : World} {b0 : Nat} {v : Value} {d : DataW H} {p : List MemPlace} (hval : Value.okWide Try.prog W .any b0 38 v) (h : DataW.Trod enc Try.prog W 0 (fun _ => true) true 38 v d p) :
    ∃ (x : BitVec 64) (a b : UInt8) (s : ByteArray), v = .agg #[.int .u64 (x.toNat : Int), .int .u8 (a.toNat : Int), .int .u8 (b.toNat : Int), .string s] ∧ s.size ≤ maxLen := by
  obtain ⟨cs, rfl, hsz⟩ := okWide_struct Try.underlying38 hval
  obtain ⟨l⟩ := cs
  match l, hsz.trans cellsTurn with
  | [c0, c1, c2, c3], _ =>
    obtain ⟨fuel, hf⟩ := h
    obtain ⟨xs, n, _, hx, _, hlen, hg⟩ := DataW.trod_struct Try.underlying38 hf
    match xs, hlen with
    | [y0, y1, y2, y3], _ =>
      have g0 : DataW.trod enc Try.prog W 0 (fun _ => true) true n 23 ((([c0, c1, c2, c3] : List Value).drop 0).take (Try.prog.cellsOf 23)) = some y0 := hg 0 _ rfl
      have g1 : DataW.trod enc Try.prog W 0 (fun _ => true) true n 5 ((([c0, c1, c2, c3] : List Value).drop 1).take (Try.prog.cellsOf 5)) = some y1 := hg 1 _ rfl
      have g2 : DataW.trod enc Try.prog W 0 (fun _ => true) true n 5 ((([c0, c1, c2, c3] : List Value).drop 2).take (Try.prog.cellsOf 5)) = some y2 := hg 2 _ rfl
      have g3 : DataW.trod enc Try.prog W 0 (fun _ => true) true n 9 ((([c0, c1, c2, c3] : List Value).drop 3).take (Try.prog.cellsOf 9)) = some y3 := hg 3 _ rfl
      rw [cellsU64] at g0
      rw [cellsU8] at g1 g2
      rw [cellsStr] at g3
      simp only [List.drop_zero, List.drop_succ_cons, List.take_succ_cons, List.take_zero] at g0 g1 g2 g3
      obtain ⟨b0, e0, _, w0⟩ := DataW.trod_int Try.underlying23 g0
      obtain ⟨b1, e1, _, w1⟩ := DataW.trod_int Try.underlying5 g1
      obtain ⟨b2, e2, _, w2⟩ := DataW.trod_int Try.underlying5 g2
      obtain ⟨s, e3, _, w3⟩ := DataW.trod_string Try.underlying9 g3
      simp only [List.cons.injEq, and_true] at e0 e1 e2 e3
      subst e0 e1 e2 e3
      obtain ⟨x, rfl⟩ := is_bv (u64_of_wf w0)
      obtain ⟨a, rfl⟩ := is_octet (u8_of_wf w1)
      obtain ⟨b, rfl⟩ := is_octet (u8_of_wf w2)
      exact ⟨x, a, b, s, rfl, w3⟩
end
end Go.Proofs.Ytjdfkflpgimloaa
