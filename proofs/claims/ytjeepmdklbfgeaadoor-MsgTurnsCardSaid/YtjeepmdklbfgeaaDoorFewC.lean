/-
  The law's own cut, case by case (C).
-/
import Derived.Test.YtjeepmdklbfgeaaDoorFewM
namespace Go.Proofs.YtjeepmdklbfgeaaDoor
open Go.Sort Go.RowKit Go.Proofs.YtjeepmdklbfgeaaDoor.Pure Go.Proofs.YtjeepmdklbfgeaaDoor.W Go.Proofs.YtjeepmdklbfgeaaDoor.W.Pure

set_option maxRecDepth 100000 in
set_option maxHeartbeats 4000000 in
theorem few_011 (m : Mg) (A : Option Addr) (cA : Nat) (T : Option Addr) (cT : Nat) (w : World) (h : Lists w m A cA T cT) (h1 : ¬ 9 < m.ns.length) (h2 : 65 < m.tb.length) (h3 : 21 < m.ts.size) : Calls Tryd.prog 9 #[mvv m (.slice A m.ns.length cA) (.slice T m.tb.length cT)] w fun e w' => e = .returned (fewV m A cA T cT) ∧ Below w.heap.size w w' := by
  obtain ⟨hA, hT, ⟨l1, l1'⟩, ⟨l2, l2'⟩, l3⟩ := h
  unfold maxLen at l1' l2' l3
  unfold mvv
  obtain ⟨nA, hnA⟩ : ∃ n, m.ns.length = n := ⟨_, rfl⟩
  obtain ⟨tA, htA⟩ : ∃ n, m.tb.length = n := ⟨_, rfl⟩
  rw [hnA] at l1 h1 ⊢
  rw [htA] at l2 h2 ⊢
  obtain ⟨ad2, rfl, _⟩ := hT 0 (by omega)
  have x1 : (m.ns.take 9).length = nA := by rw [List.length_take]; omega
  have x2 : (m.tb.take 65).length = 65 := by rw [List.length_take]; omega
  have x3 : fewT m.ts = (m.ts.extract 0 21) := by unfold fewT; rw [if_pos h3]
  have HV : Hid (fewV m A cA (some ad2) cT = .agg #[.int .i64 m.kd, .int .i64 m.fr, .int .i64 m.to, .int .u64 (m.sq : Int), .int .i64 m.wh, .int .u64 m.k.i, .int .i64 m.k.s, .slice A nA cA, .slice (some ad2) 65 cT, .int .u64 (m.ep : Int), .int .u64 (m.bo : Int), .int .i64 m.ak, .string (m.ts.extract 0 21), .int .u64 (m.tn : Int), .bool m.gd]) := Lib.hid (by unfold fewV mvv fewM; simp only [x1, x2, x3])
  have dnA : decide ((9 : Int) < (nA : Int)) = false := by simp; omega
  have dnA' : decide (9 < nA) = false := by simp; omega
  have dtA : decide ((65 : Int) < (tA : Int)) = true := by simp; omega
  have dtA' : decide (65 < tA) = true := by simp; omega
  clear x1 x2 x3 hA hT hnA htA
  go_enter Tryd.func9, Tryd.ntmps9
  go_wp2_with fail
  refine bodyPost_ret (v := .agg #[.int .i64 m.kd, .int .i64 m.fr, .int .i64 m.to, .int .u64 (m.sq : Int), .int .i64 m.wh, .int .u64 m.k.i, .int .i64 m.k.s, .slice A nA cA, .slice (some ad2) 65 cT, .int .u64 (m.ep : Int), .int .u64 (m.bo : Int), .int .i64 m.ak, .string (m.ts.extract 0 21), .int .u64 (m.tn : Int), .bool m.gd]) (by simp [results, Tryd.results9, go_sem]) rfl ⟨by rw [HV.out], ?_⟩
  · exact ((Below.refl _ _).alloc (Nat.le_refl _) _).alloc (by simp) _
set_option maxRecDepth 100000 in
set_option maxHeartbeats 4000000 in
theorem few_010 (m : Mg) (A : Option Addr) (cA : Nat) (T : Option Addr) (cT : Nat) (w : World) (h : Lists w m A cA T cT) (h1 : ¬ 9 < m.ns.length) (h2 : 65 < m.tb.length) (h3 : ¬ 21 < m.ts.size) : Calls Tryd.prog 9 #[mvv m (.slice A m.ns.length cA) (.slice T m.tb.length cT)] w fun e w' => e = .returned (fewV m A cA T cT) ∧ Below w.heap.size w w' := by
  obtain ⟨hA, hT, ⟨l1, l1'⟩, ⟨l2, l2'⟩, l3⟩ := h
  unfold maxLen at l1' l2' l3
  unfold mvv
  obtain ⟨nA, hnA⟩ : ∃ n, m.ns.length = n := ⟨_, rfl⟩
  obtain ⟨tA, htA⟩ : ∃ n, m.tb.length = n := ⟨_, rfl⟩
  rw [hnA] at l1 h1 ⊢
  rw [htA] at l2 h2 ⊢
  obtain ⟨ad2, rfl, _⟩ := hT 0 (by omega)
  have x1 : (m.ns.take 9).length = nA := by rw [List.length_take]; omega
  have x2 : (m.tb.take 65).length = 65 := by rw [List.length_take]; omega
  have x3 : fewT m.ts = m.ts := by unfold fewT; rw [if_neg h3]
  have HV : Hid (fewV m A cA (some ad2) cT = .agg #[.int .i64 m.kd, .int .i64 m.fr, .int .i64 m.to, .int .u64 (m.sq : Int), .int .i64 m.wh, .int .u64 m.k.i, .int .i64 m.k.s, .slice A nA cA, .slice (some ad2) 65 cT, .int .u64 (m.ep : Int), .int .u64 (m.bo : Int), .int .i64 m.ak, .string m.ts, .int .u64 (m.tn : Int), .bool m.gd]) := Lib.hid (by unfold fewV mvv fewM; simp only [x1, x2, x3])
  have dnA : decide ((9 : Int) < (nA : Int)) = false := by simp; omega
  have dnA' : decide (9 < nA) = false := by simp; omega
  have dtA : decide ((65 : Int) < (tA : Int)) = true := by simp; omega
  have dtA' : decide (65 < tA) = true := by simp; omega
  clear x1 x2 x3 hA hT hnA htA
  go_enter Tryd.func9, Tryd.ntmps9
  go_wp2_with fail
  refine bodyPost_ret (v := .agg #[.int .i64 m.kd, .int .i64 m.fr, .int .i64 m.to, .int .u64 (m.sq : Int), .int .i64 m.wh, .int .u64 m.k.i, .int .i64 m.k.s, .slice A nA cA, .slice (some ad2) 65 cT, .int .u64 (m.ep : Int), .int .u64 (m.bo : Int), .int .i64 m.ak, .string m.ts, .int .u64 (m.tn : Int), .bool m.gd]) (by simp [results, Tryd.results9, go_sem]) rfl ⟨by rw [HV.out], ?_⟩
  · exact ((Below.refl _ _).alloc (Nat.le_refl _) _).alloc (by simp) _
end Go.Proofs.YtjeepmdklbfgeaaDoor
