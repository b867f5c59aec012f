/-
  DiceBehind's argument, opened to its cells.
-/
import Derived.Test.YtincniaekhiceaaBoth
import Derived.SizedLaws
namespace Go.Proofs.Ytincniaekhiceaa
open Go.ChangeShapes Go.WideShapes Go.ChangeAt Go.RowKit Go.Joins

section
variable {H : Type} {enc : TypeId × Value → H}
theorem cellsBehind : Try.prog.cellsOf 49 = 5 := by kernel_rfl
theorem cellsStr : Try.prog.cellsOf 9 = 1 := by kernel_rfl
theorem cellsNums : Try.prog.cellsOf 24 = 1 := by kernel_rfl

/-- What came in: dice, two texts, numbers. -/
theorem open_behind {W : World} {b0 : Nat} {v : Value} {d : DataW H} {p : List MemPlace} (hval : Value.okWide Try.prog W .any b0 49 v) (h : DataW.Trod enc Try.prog W 0 (fun _ => true) true 49 v d p) :
    ∃ (s ah bh : ByteArray) (a : Int) (A : Option Addr) (c : Nat) (xs : List Int) (dd dl : DataW H), v = .agg #[.string s, .int .i64 a, .string ah, .string bh, .slice A xs.length c] ∧ d = .agg [dd, .lit (.string ah.data.toList), .lit (.string bh.data.toList), dl] ∧
      s.size ≤ maxLen ∧ ah.size ≤ maxLen ∧ bh.size ≤ maxLen ∧ xs.length ≤ c ∧ c ≤ maxLen ∧ Has W 0 W.heap.size A xs := by
  obtain ⟨cs, rfl, hsz⟩ := okWide_struct Try.underlying49 hval
  obtain ⟨l⟩ := cs
  match l, hsz.trans cellsBehind with
  | [c0, c1, c2, c3, c4], _ =>
    obtain ⟨fuel, hf⟩ := h
    obtain ⟨xs, n, _, hx, _, hlen, hg⟩ := DataW.trod_struct Try.underlying49 hf
    match xs, hlen with
    | [y0, y1, y2, y3], _ =>
      have g0 : DataW.trod enc Try.prog W 0 (fun _ => true) true n 23 ((([c0, c1, c2, c3, c4] : List Value).drop 0).take (Try.prog.cellsOf 23)) = some y0 := hg 0 _ rfl
      have g1 : DataW.trod enc Try.prog W 0 (fun _ => true) true n 9 ((([c0, c1, c2, c3, c4] : List Value).drop 2).take (Try.prog.cellsOf 9)) = some y1 := hg 1 _ rfl
      have g2 : DataW.trod enc Try.prog W 0 (fun _ => true) true n 9 ((([c0, c1, c2, c3, c4] : List Value).drop 3).take (Try.prog.cellsOf 9)) = some y2 := hg 2 _ rfl
      have g3 : DataW.trod enc Try.prog W 0 (fun _ => true) true n 24 ((([c0, c1, c2, c3, c4] : List Value).drop 4).take (Try.prog.cellsOf 24)) = some y3 := hg 3 _ rfl
      rw [cellsDice] at g0
      rw [cellsStr] at g1 g2
      rw [cellsNums] at g3
      simp only [List.drop_zero, List.drop_succ_cons, List.take_succ_cons, List.take_zero] at g0 g1 g2 g3
      obtain ⟨z0, z1, n', _, _, k0, k1⟩ := trod_struct2 Try.underlying23 g0
      have k0' : DataW.trod enc Try.prog W 0 (fun _ => true) true n' 9 ((([c0, c1] : List Value).drop 0).take (Try.prog.cellsOf 9)) = some z0 := k0
      have k1' : DataW.trod enc Try.prog W 0 (fun _ => true) true n' 3 ((([c0, c1] : List Value).drop 1).take (Try.prog.cellsOf 3)) = some z1 := k1
      rw [cellsStr] at k0'
      rw [cellsInt] at k1'
      simp only [List.drop_zero, List.drop_succ_cons, List.take_succ_cons, List.take_zero] at k0' k1'
      obtain ⟨s, e0, _, w0⟩ := DataW.trod_string Try.underlying9 k0'
      obtain ⟨a, e1, _, w1⟩ := DataW.trod_int Try.underlying3 k1'
      obtain ⟨ah, e2, q2, w2⟩ := DataW.trod_string Try.underlying9 g1
      obtain ⟨bh, e3, q3, w3⟩ := DataW.trod_string Try.underlying9 g2
      simp only [List.cons.injEq, and_true] at e0 e1 e2 e3
      subst e0 e1 e2 e3
      simp only [Prod.mk.injEq] at hx
      have hd : d = .agg [y0.1, .lit (.string ah.data.toList), .lit (.string bh.data.toList), y3.1] := by rw [hx.1, q2, q3]; rfl
      rcases open_ints Try.underlying24 Try.underlying3 cellsInt g3 with ⟨hcs, _⟩ | ⟨ad, len, cap, zs, hcs, _, hl, hm, hz, _, hcell, hwz⟩
      · simp only [List.cons.injEq, and_true] at hcs
        subst hcs
        exact ⟨s, ah, bh, a, none, 0, [], y0.1, y3.1, rfl, hd, w0, w2, w3, by simp, by simp, Has.nil _ _ _ _⟩
      · simp only [List.cons.injEq, and_true] at hcs
        subst hcs
        simp only [if_true] at hz
        have hlen' : (zs.take len).length = len := by simp; omega
        refine ⟨s, ah, bh, a, some ad, cap, zs.take len, y0.1, y3.1, by rw [hlen'], hd, w0, w2, w3, by omega, hm, fun j hj => ?_⟩
        rw [hlen'] at hj
        have hc := hcell j (by omega)
        refine ⟨ad, rfl, Nat.zero_le _, by have := World.block_lt_of_cell? W _ hc; rwa [block_add] at this, ?_⟩
        rw [hc]
        simp [List.getD, hj]

/-- Both texts are within the form's reach. -/
theorem reach_behind {dd dl : DataW H} {ah bh : List UInt8} (h : (DataW.weightsEach Try.prog [49] [(.agg [dd, .lit (.string ah), .lit (.string bh), dl] : DataW H)]).all (· ≤ reachBytes) = true) : ah.length ≤ reachBytes ∧ bh.length ≤ reachBytes := by
  have hu := Try.underlying49
  constructor
  · have := List.all_eq_true.1 h ah.length (by simp [DataW.weightsEach, DataW.weights, hu])
    simpa using this
  · have := List.all_eq_true.1 h bh.length (by simp [DataW.weightsEach, DataW.weights, hu])
    simpa using this
end
end Go.Proofs.Ytincniaekhiceaa
