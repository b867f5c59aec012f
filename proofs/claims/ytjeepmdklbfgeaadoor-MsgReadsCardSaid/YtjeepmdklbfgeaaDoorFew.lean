/-
  The law's own cut, case by case (all).
-/
import Derived.Test.YtjeepmdklbfgeaaDoorMLaw
namespace Go.Proofs.YtjeepmdklbfgeaaDoor
open Go.Sort Go.RowKit Go.Proofs.YtjeepmdklbfgeaaDoor.Pure Go.Proofs.YtjeepmdklbfgeaaDoor.W Go.Proofs.YtjeepmdklbfgeaaDoor.W.Pure

def fewT (s : ByteArray) : ByteArray := if 21 < s.size then s.extract 0 21 else s
def fewM (m : Mg) : Mg := { m with ns := m.ns.take 9, tb := m.tb.take 65, ts := fewT m.ts }
/-- The lists of a message that came in. -/
def Lists (w : World) (m : Mg) (A : Option Addr) (cA : Nat) (T : Option Addr) (cT : Nat) : Prop := Ns w A m.ns ∧ Lst w T m.tb ∧ (m.ns.length ≤ cA ∧ cA ≤ maxLen) ∧ (m.tb.length ≤ cT ∧ cT ≤ maxLen) ∧ m.ts.size ≤ maxLen
def fewV (m : Mg) (A : Option Addr) (cA : Nat) (T : Option Addr) (cT : Nat) : Value := mvv (fewM m) (.slice A (m.ns.take 9).length cA) (.slice T (m.tb.take 65).length cT)
theorem fewT_size (s : ByteArray) : (fewT s).size ≤ 21 := by
  unfold fewT
  split
  · rw [ByteArray.size_extract]; omega
  · omega
theorem few_wf {m : Mg} (h : Wf m) : Wf (fewM m) :=
  ⟨h.sq, h.ep, h.bo, h.tn, h.k, fun y hy => h.ns y (List.mem_of_mem_take hy), fun y hy => h.tb y (List.mem_of_mem_take hy)⟩
end Go.Proofs.YtjeepmdklbfgeaaDoor

namespace Go.Proofs.YtjeepmdklbfgeaaDoor
open Go.Sort Go.RowKit Go.Proofs.YtjeepmdklbfgeaaDoor.Pure Go.Proofs.YtjeepmdklbfgeaaDoor.W Go.Proofs.YtjeepmdklbfgeaaDoor.W.Pure

set_option maxRecDepth 100000 in
set_option maxHeartbeats 4000000 in
theorem few_111 (m : Mg) (A : Option Addr) (cA : Nat) (T : Option Addr) (cT : Nat) (w : World) (h : Lists w m A cA T cT) (h1 : 9 < m.ns.length) (h2 : 65 < m.tb.length) (h3 : 21 < m.ts.size) : Calls Tryd.prog 9 #[mvv m (.slice A m.ns.length cA) (.slice T m.tb.length cT)] w fun e w' => e = .returned (fewV m A cA T cT) ∧ Below w.heap.size w w' := by
  obtain ⟨hA, hT, ⟨l1, l1'⟩, ⟨l2, l2'⟩, l3⟩ := h
  unfold maxLen at l1' l2' l3
  unfold mvv
  obtain ⟨nA, hnA⟩ : ∃ n, m.ns.length = n := ⟨_, rfl⟩
  obtain ⟨tA, htA⟩ : ∃ n, m.tb.length = n := ⟨_, rfl⟩
  rw [hnA] at l1 h1 ⊢
  rw [htA] at l2 h2 ⊢
  obtain ⟨ad, rfl, _⟩ := hA 0 (by omega)
  obtain ⟨ad2, rfl, _⟩ := hT 0 (by omega)
  have x1 : (m.ns.take 9).length = 9 := by rw [List.length_take]; omega
  have x2 : (m.tb.take 65).length = 65 := by rw [List.length_take]; omega
  have x3 : fewT m.ts = (m.ts.extract 0 21) := by unfold fewT; rw [if_pos h3]
  have HV : Hid (fewV m (some ad) cA (some ad2) cT = .agg #[.int .i64 m.kd, .int .i64 m.fr, .int .i64 m.to, .int .u64 (m.sq : Int), .int .i64 m.wh, .int .u64 m.k.i, .int .i64 m.k.s, .slice (some ad) 9 cA, .slice (some ad2) 65 cT, .int .u64 (m.ep : Int), .int .u64 (m.bo : Int), .int .i64 m.ak, .string (m.ts.extract 0 21), .int .u64 (m.tn : Int), .bool m.gd]) := Lib.hid (by unfold fewV mvv fewM; simp only [x1, x2, x3])
  have dnA : decide ((9 : Int) < (nA : Int)) = true := by simp; omega
  have dnA' : decide (9 < nA) = true := by simp; omega
  have dtA : decide ((65 : Int) < (tA : Int)) = true := by simp; omega
  have dtA' : decide (65 < tA) = true := by simp; omega
  clear x1 x2 x3 hA hT hnA htA
  go_enter Tryd.func9, Tryd.ntmps9
  go_wp2_with fail
  refine bodyPost_ret (v := .agg #[.int .i64 m.kd, .int .i64 m.fr, .int .i64 m.to, .int .u64 (m.sq : Int), .int .i64 m.wh, .int .u64 m.k.i, .int .i64 m.k.s, .slice (some ad) 9 cA, .slice (some ad2) 65 cT, .int .u64 (m.ep : Int), .int .u64 (m.bo : Int), .int .i64 m.ak, .string (m.ts.extract 0 21), .int .u64 (m.tn : Int), .bool m.gd]) (by simp [results, Tryd.results9, go_sem]) rfl ⟨by rw [HV.out], ?_⟩
  · exact ((Below.refl _ _).alloc (Nat.le_refl _) _).alloc (by simp) _
set_option maxRecDepth 100000 in
set_option maxHeartbeats 4000000 in
theorem few_110 (m : Mg) (A : Option Addr) (cA : Nat) (T : Option Addr) (cT : Nat) (w : World) (h : Lists w m A cA T cT) (h1 : 9 < m.ns.length) (h2 : 65 < m.tb.length) (h3 : ¬ 21 < m.ts.size) : Calls Tryd.prog 9 #[mvv m (.slice A m.ns.length cA) (.slice T m.tb.length cT)] w fun e w' => e = .returned (fewV m A cA T cT) ∧ Below w.heap.size w w' := by
  obtain ⟨hA, hT, ⟨l1, l1'⟩, ⟨l2, l2'⟩, l3⟩ := h
  unfold maxLen at l1' l2' l3
  unfold mvv
  obtain ⟨nA, hnA⟩ : ∃ n, m.ns.length = n := ⟨_, rfl⟩
  obtain ⟨tA, htA⟩ : ∃ n, m.tb.length = n := ⟨_, rfl⟩
  rw [hnA] at l1 h1 ⊢
  rw [htA] at l2 h2 ⊢
  obtain ⟨ad, rfl, _⟩ := hA 0 (by omega)
  obtain ⟨ad2, rfl, _⟩ := hT 0 (by omega)
  have x1 : (m.ns.take 9).length = 9 := by rw [List.length_take]; omega
  have x2 : (m.tb.take 65).length = 65 := by rw [List.length_take]; omega
  have x3 : fewT m.ts = m.ts := by unfold fewT; rw [if_neg h3]
  have HV : Hid (fewV m (some ad) cA (some ad2) cT = .agg #[.int .i64 m.kd, .int .i64 m.fr, .int .i64 m.to, .int .u64 (m.sq : Int), .int .i64 m.wh, .int .u64 m.k.i, .int .i64 m.k.s, .slice (some ad) 9 cA, .slice (some ad2) 65 cT, .int .u64 (m.ep : Int), .int .u64 (m.bo : Int), .int .i64 m.ak, .string m.ts, .int .u64 (m.tn : Int), .bool m.gd]) := Lib.hid (by unfold fewV mvv fewM; simp only [x1, x2, x3])
  have dnA : decide ((9 : Int) < (nA : Int)) = true := by simp; omega
  have dnA' : decide (9 < nA) = true := by simp; omega
  have dtA : decide ((65 : Int) < (tA : Int)) = true := by simp; omega
  have dtA' : decide (65 < tA) = true := by simp; omega
  clear x1 x2 x3 hA hT hnA htA
  go_enter Tryd.func9, Tryd.ntmps9
  go_wp2_with fail
  refine bodyPost_ret (v := .agg #[.int .i64 m.kd, .int .i64 m.fr, .int .i64 m.to, .int .u64 (m.sq : Int), .int .i64 m.wh, .int .u64 m.k.i, .int .i64 m.k.s, .slice (some ad) 9 cA, .slice (some ad2) 65 cT, .int .u64 (m.ep : Int), .int .u64 (m.bo : Int), .int .i64 m.ak, .string m.ts, .int .u64 (m.tn : Int), .bool m.gd]) (by simp [results, Tryd.results9, go_sem]) rfl ⟨by rw [HV.out], ?_⟩
  · exact ((Below.refl _ _).alloc (Nat.le_refl _) _).alloc (by simp) _
end Go.Proofs.YtjeepmdklbfgeaaDoor

namespace Go.Proofs.YtjeepmdklbfgeaaDoor
open Go.Sort Go.RowKit Go.Proofs.YtjeepmdklbfgeaaDoor.Pure Go.Proofs.YtjeepmdklbfgeaaDoor.W Go.Proofs.YtjeepmdklbfgeaaDoor.W.Pure

set_option maxRecDepth 100000 in
set_option maxHeartbeats 4000000 in
theorem few_101 (m : Mg) (A : Option Addr) (cA : Nat) (T : Option Addr) (cT : Nat) (w : World) (h : Lists w m A cA T cT) (h1 : 9 < m.ns.length) (h2 : ¬ 65 < m.tb.length) (h3 : 21 < m.ts.size) : Calls Tryd.prog 9 #[mvv m (.slice A m.ns.length cA) (.slice T m.tb.length cT)] w fun e w' => e = .returned (fewV m A cA T cT) ∧ Below w.heap.size w w' := by
  obtain ⟨hA, hT, ⟨l1, l1'⟩, ⟨l2, l2'⟩, l3⟩ := h
  unfold maxLen at l1' l2' l3
  unfold mvv
  obtain ⟨nA, hnA⟩ : ∃ n, m.ns.length = n := ⟨_, rfl⟩
  obtain ⟨tA, htA⟩ : ∃ n, m.tb.length = n := ⟨_, rfl⟩
  rw [hnA] at l1 h1 ⊢
  rw [htA] at l2 h2 ⊢
  obtain ⟨ad, rfl, _⟩ := hA 0 (by omega)
  have x1 : (m.ns.take 9).length = 9 := by rw [List.length_take]; omega
  have x2 : (m.tb.take 65).length = tA := by rw [List.length_take]; omega
  have x3 : fewT m.ts = (m.ts.extract 0 21) := by unfold fewT; rw [if_pos h3]
  have HV : Hid (fewV m (some ad) cA T cT = .agg #[.int .i64 m.kd, .int .i64 m.fr, .int .i64 m.to, .int .u64 (m.sq : Int), .int .i64 m.wh, .int .u64 m.k.i, .int .i64 m.k.s, .slice (some ad) 9 cA, .slice T tA cT, .int .u64 (m.ep : Int), .int .u64 (m.bo : Int), .int .i64 m.ak, .string (m.ts.extract 0 21), .int .u64 (m.tn : Int), .bool m.gd]) := Lib.hid (by unfold fewV mvv fewM; simp only [x1, x2, x3])
  have dnA : decide ((9 : Int) < (nA : Int)) = true := by simp; omega
  have dnA' : decide (9 < nA) = true := by simp; omega
  have dtA : decide ((65 : Int) < (tA : Int)) = false := by simp; omega
  have dtA' : decide (65 < tA) = false := by simp; omega
  clear x1 x2 x3 hA hT hnA htA
  go_enter Tryd.func9, Tryd.ntmps9
  go_wp2_with fail
  refine bodyPost_ret (v := .agg #[.int .i64 m.kd, .int .i64 m.fr, .int .i64 m.to, .int .u64 (m.sq : Int), .int .i64 m.wh, .int .u64 m.k.i, .int .i64 m.k.s, .slice (some ad) 9 cA, .slice T tA cT, .int .u64 (m.ep : Int), .int .u64 (m.bo : Int), .int .i64 m.ak, .string (m.ts.extract 0 21), .int .u64 (m.tn : Int), .bool m.gd]) (by simp [results, Tryd.results9, go_sem]) rfl ⟨by rw [HV.out], ?_⟩
  · exact ((Below.refl _ _).alloc (Nat.le_refl _) _).alloc (by simp) _
set_option maxRecDepth 100000 in
set_option maxHeartbeats 4000000 in
theorem few_100 (m : Mg) (A : Option Addr) (cA : Nat) (T : Option Addr) (cT : Nat) (w : World) (h : Lists w m A cA T cT) (h1 : 9 < m.ns.length) (h2 : ¬ 65 < m.tb.length) (h3 : ¬ 21 < m.ts.size) : Calls Tryd.prog 9 #[mvv m (.slice A m.ns.length cA) (.slice T m.tb.length cT)] w fun e w' => e = .returned (fewV m A cA T cT) ∧ Below w.heap.size w w' := by
  obtain ⟨hA, hT, ⟨l1, l1'⟩, ⟨l2, l2'⟩, l3⟩ := h
  unfold maxLen at l1' l2' l3
  unfold mvv
  obtain ⟨nA, hnA⟩ : ∃ n, m.ns.length = n := ⟨_, rfl⟩
  obtain ⟨tA, htA⟩ : ∃ n, m.tb.length = n := ⟨_, rfl⟩
  rw [hnA] at l1 h1 ⊢
  rw [htA] at l2 h2 ⊢
  obtain ⟨ad, rfl, _⟩ := hA 0 (by omega)
  have x1 : (m.ns.take 9).length = 9 := by rw [List.length_take]; omega
  have x2 : (m.tb.take 65).length = tA := by rw [List.length_take]; omega
  have x3 : fewT m.ts = m.ts := by unfold fewT; rw [if_neg h3]
  have HV : Hid (fewV m (some ad) cA T cT = .agg #[.int .i64 m.kd, .int .i64 m.fr, .int .i64 m.to, .int .u64 (m.sq : Int), .int .i64 m.wh, .int .u64 m.k.i, .int .i64 m.k.s, .slice (some ad) 9 cA, .slice T tA cT, .int .u64 (m.ep : Int), .int .u64 (m.bo : Int), .int .i64 m.ak, .string m.ts, .int .u64 (m.tn : Int), .bool m.gd]) := Lib.hid (by unfold fewV mvv fewM; simp only [x1, x2, x3])
  have dnA : decide ((9 : Int) < (nA : Int)) = true := by simp; omega
  have dnA' : decide (9 < nA) = true := by simp; omega
  have dtA : decide ((65 : Int) < (tA : Int)) = false := by simp; omega
  have dtA' : decide (65 < tA) = false := by simp; omega
  clear x1 x2 x3 hA hT hnA htA
  go_enter Tryd.func9, Tryd.ntmps9
  go_wp2_with fail
  refine bodyPost_ret (v := .agg #[.int .i64 m.kd, .int .i64 m.fr, .int .i64 m.to, .int .u64 (m.sq : Int), .int .i64 m.wh, .int .u64 m.k.i, .int .i64 m.k.s, .slice (some ad) 9 cA, .slice T tA cT, .int .u64 (m.ep : Int), .int .u64 (m.bo : Int), .int .i64 m.ak, .string m.ts, .int .u64 (m.tn : Int), .bool m.gd]) (by simp [results, Tryd.results9, go_sem]) rfl ⟨by rw [HV.out], ?_⟩
  · exact ((Below.refl _ _).alloc (Nat.le_refl _) _).alloc (by simp) _
end Go.Proofs.YtjeepmdklbfgeaaDoor

namespace Go.Proofs.YtjeepmdklbfgeaaDoor
open Go.Sort Go.RowKit Go.Proofs.YtjeepmdklbfgeaaDoor.Pure Go.Proofs.YtjeepmdklbfgeaaDoor.W Go.Proofs.YtjeepmdklbfgeaaDoor.W.Pure

set_option maxRecDepth 100000 in
set_option maxHeartbeats 4000000 in
theorem few_011 (m : Mg) (A : Option Addr) (cA : Nat) (T : Option Addr) (cT : Nat) (w : World) (h : Lists w m A cA T cT) (h1 : ¬ 9 < m.ns.length) (h2 : 65 < m.tb.length) (h3 : 21 < m.ts.size) : Calls Tryd.prog 9 #[mvv m (.slice A m.ns.length cA) (.slice T m.tb.length cT)] w fun e w' => e = .returned (fewV m A cA T cT) ∧ Below w.heap.size w w' := by
  obtain ⟨hA, hT, ⟨l1, l1'⟩, ⟨l2, l2'⟩, l3⟩ := h
  unfold maxLen at l1' l2' l3
  unfold mvv
  obtain ⟨nA, hnA⟩ : ∃ n, m.ns.length = n := ⟨_, rfl⟩
  obtain ⟨tA, htA⟩ : ∃ n, m.tb.length = n := ⟨_, rfl⟩
  rw [hnA] at l1 h1 ⊢
  rw [htA] at l2 h2 ⊢
  obtain ⟨ad2, rfl, _⟩ := hT 0 (by omega)
  have x1 : (m.ns.take 9).length = nA := by rw [List.length_take]; omega
  have x2 : (m.tb.take 65).length = 65 := by rw [List.length_take]; omega
  have x3 : fewT m.ts = (m.ts.extract 0 21) := by unfold fewT; rw [if_pos h3]
  have HV : Hid (fewV m A cA (some ad2) cT = .agg #[.int .i64 m.kd, .int .i64 m.fr, .int .i64 m.to, .int .u64 (m.sq : Int), .int .i64 m.wh, .int .u64 m.k.i, .int .i64 m.k.s, .slice A nA cA, .slice (some ad2) 65 cT, .int .u64 (m.ep : Int), .int .u64 (m.bo : Int), .int .i64 m.ak, .string (m.ts.extract 0 21), .int .u64 (m.tn : Int), .bool m.gd]) := Lib.hid (by unfold fewV mvv fewM; simp only [x1, x2, x3])
  have dnA : decide ((9 : Int) < (nA : Int)) = false := by simp; omega
  have dnA' : decide (9 < nA) = false := by simp; omega
  have dtA : decide ((65 : Int) < (tA : Int)) = true := by simp; omega
  have dtA' : decide (65 < tA) = true := by simp; omega
  clear x1 x2 x3 hA hT hnA htA
  go_enter Tryd.func9, Tryd.ntmps9
  go_wp2_with fail
  refine bodyPost_ret (v := .agg #[.int .i64 m.kd, .int .i64 m.fr, .int .i64 m.to, .int .u64 (m.sq : Int), .int .i64 m.wh, .int .u64 m.k.i, .int .i64 m.k.s, .slice A nA cA, .slice (some ad2) 65 cT, .int .u64 (m.ep : Int), .int .u64 (m.bo : Int), .int .i64 m.ak, .string (m.ts.extract 0 21), .int .u64 (m.tn : Int), .bool m.gd]) (by simp [results, Tryd.results9, go_sem]) rfl ⟨by rw [HV.out], ?_⟩
  · exact ((Below.refl _ _).alloc (Nat.le_refl _) _).alloc (by simp) _
set_option maxRecDepth 100000 in
set_option maxHeartbeats 4000000 in
theorem few_010 (m : Mg) (A : Option Addr) (cA : Nat) (T : Option Addr) (cT : Nat) (w : World) (h : Lists w m A cA T cT) (h1 : ¬ 9 < m.ns.length) (h2 : 65 < m.tb.length) (h3 : ¬ 21 < m.ts.size) : Calls Tryd.prog 9 #[mvv m (.slice A m.ns.length cA) (.slice T m.tb.length cT)] w fun e w' => e = .returned (fewV m A cA T cT) ∧ Below w.heap.size w w' := by
  obtain ⟨hA, hT, ⟨l1, l1'⟩, ⟨l2, l2'⟩, l3⟩ := h
  unfold maxLen at l1' l2' l3
  unfold mvv
  obtain ⟨nA, hnA⟩ : ∃ n, m.ns.length = n := ⟨_, rfl⟩
  obtain ⟨tA, htA⟩ : ∃ n, m.tb.length = n := ⟨_, rfl⟩
  rw [hnA] at l1 h1 ⊢
  rw [htA] at l2 h2 ⊢
  obtain ⟨ad2, rfl, _⟩ := hT 0 (by omega)
  have x1 : (m.ns.take 9).length = nA := by rw [List.length_take]; omega
  have x2 : (m.tb.take 65).length = 65 := by rw [List.length_take]; omega
  have x3 : fewT m.ts = m.ts := by unfold fewT; rw [if_neg h3]
  have HV : Hid (fewV m A cA (some ad2) cT = .agg #[.int .i64 m.kd, .int .i64 m.fr, .int .i64 m.to, .int .u64 (m.sq : Int), .int .i64 m.wh, .int .u64 m.k.i, .int .i64 m.k.s, .slice A nA cA, .slice (some ad2) 65 cT, .int .u64 (m.ep : Int), .int .u64 (m.bo : Int), .int .i64 m.ak, .string m.ts, .int .u64 (m.tn : Int), .bool m.gd]) := Lib.hid (by unfold fewV mvv fewM; simp only [x1, x2, x3])
  have dnA : decide ((9 : Int) < (nA : Int)) = false := by simp; omega
  have dnA' : decide (9 < nA) = false := by simp; omega
  have dtA : decide ((65 : Int) < (tA : Int)) = true := by simp; omega
  have dtA' : decide (65 < tA) = true := by simp; omega
  clear x1 x2 x3 hA hT hnA htA
  go_enter Tryd.func9, Tryd.ntmps9
  go_wp2_with fail
  refine bodyPost_ret (v := .agg #[.int .i64 m.kd, .int .i64 m.fr, .int .i64 m.to, .int .u64 (m.sq : Int), .int .i64 m.wh, .int .u64 m.k.i, .int .i64 m.k.s, .slice A nA cA, .slice (some ad2) 65 cT, .int .u64 (m.ep : Int), .int .u64 (m.bo : Int), .int .i64 m.ak, .string m.ts, .int .u64 (m.tn : Int), .bool m.gd]) (by simp [results, Tryd.results9, go_sem]) rfl ⟨by rw [HV.out], ?_⟩
  · exact ((Below.refl _ _).alloc (Nat.le_refl _) _).alloc (by simp) _
end Go.Proofs.YtjeepmdklbfgeaaDoor

namespace Go.Proofs.YtjeepmdklbfgeaaDoor
open Go.Sort Go.RowKit Go.Proofs.YtjeepmdklbfgeaaDoor.Pure Go.Proofs.YtjeepmdklbfgeaaDoor.W Go.Proofs.YtjeepmdklbfgeaaDoor.W.Pure

set_option maxRecDepth 100000 in
set_option maxHeartbeats 4000000 in
theorem few_001 (m : Mg) (A : Option Addr) (cA : Nat) (T : Option Addr) (cT : Nat) (w : World) (h : Lists w m A cA T cT) (h1 : ¬ 9 < m.ns.length) (h2 : ¬ 65 < m.tb.length) (h3 : 21 < m.ts.size) : Calls Tryd.prog 9 #[mvv m (.slice A m.ns.length cA) (.slice T m.tb.length cT)] w fun e w' => e = .returned (fewV m A cA T cT) ∧ Below w.heap.size w w' := by
  obtain ⟨hA, hT, ⟨l1, l1'⟩, ⟨l2, l2'⟩, l3⟩ := h
  unfold maxLen at l1' l2' l3
  unfold mvv
  obtain ⟨nA, hnA⟩ : ∃ n, m.ns.length = n := ⟨_, rfl⟩
  obtain ⟨tA, htA⟩ : ∃ n, m.tb.length = n := ⟨_, rfl⟩
  rw [hnA] at l1 h1 ⊢
  rw [htA] at l2 h2 ⊢
  have x1 : (m.ns.take 9).length = nA := by rw [List.length_take]; omega
  have x2 : (m.tb.take 65).length = tA := by rw [List.length_take]; omega
  have x3 : fewT m.ts = (m.ts.extract 0 21) := by unfold fewT; rw [if_pos h3]
  have HV : Hid (fewV m A cA T cT = .agg #[.int .i64 m.kd, .int .i64 m.fr, .int .i64 m.to, .int .u64 (m.sq : Int), .int .i64 m.wh, .int .u64 m.k.i, .int .i64 m.k.s, .slice A nA cA, .slice T tA cT, .int .u64 (m.ep : Int), .int .u64 (m.bo : Int), .int .i64 m.ak, .string (m.ts.extract 0 21), .int .u64 (m.tn : Int), .bool m.gd]) := Lib.hid (by unfold fewV mvv fewM; simp only [x1, x2, x3])
  have dnA : decide ((9 : Int) < (nA : Int)) = false := by simp; omega
  have dnA' : decide (9 < nA) = false := by simp; omega
  have dtA : decide ((65 : Int) < (tA : Int)) = false := by simp; omega
  have dtA' : decide (65 < tA) = false := by simp; omega
  clear x1 x2 x3 hA hT hnA htA
  go_enter Tryd.func9, Tryd.ntmps9
  go_wp2_with fail
  refine bodyPost_ret (v := .agg #[.int .i64 m.kd, .int .i64 m.fr, .int .i64 m.to, .int .u64 (m.sq : Int), .int .i64 m.wh, .int .u64 m.k.i, .int .i64 m.k.s, .slice A nA cA, .slice T tA cT, .int .u64 (m.ep : Int), .int .u64 (m.bo : Int), .int .i64 m.ak, .string (m.ts.extract 0 21), .int .u64 (m.tn : Int), .bool m.gd]) (by simp [results, Tryd.results9, go_sem]) rfl ⟨by rw [HV.out], ?_⟩
  · exact ((Below.refl _ _).alloc (Nat.le_refl _) _).alloc (by simp) _
set_option maxRecDepth 100000 in
set_option maxHeartbeats 4000000 in
theorem few_000 (m : Mg) (A : Option Addr) (cA : Nat) (T : Option Addr) (cT : Nat) (w : World) (h : Lists w m A cA T cT) (h1 : ¬ 9 < m.ns.length) (h2 : ¬ 65 < m.tb.length) (h3 : ¬ 21 < m.ts.size) : Calls Tryd.prog 9 #[mvv m (.slice A m.ns.length cA) (.slice T m.tb.length cT)] w fun e w' => e = .returned (fewV m A cA T cT) ∧ Below w.heap.size w w' := by
  obtain ⟨hA, hT, ⟨l1, l1'⟩, ⟨l2, l2'⟩, l3⟩ := h
  unfold maxLen at l1' l2' l3
  unfold mvv
  obtain ⟨nA, hnA⟩ : ∃ n, m.ns.length = n := ⟨_, rfl⟩
  obtain ⟨tA, htA⟩ : ∃ n, m.tb.length = n := ⟨_, rfl⟩
  rw [hnA] at l1 h1 ⊢
  rw [htA] at l2 h2 ⊢
  have x1 : (m.ns.take 9).length = nA := by rw [List.length_take]; omega
  have x2 : (m.tb.take 65).length = tA := by rw [List.length_take]; omega
  have x3 : fewT m.ts = m.ts := by unfold fewT; rw [if_neg h3]
  have HV : Hid (fewV m A cA T cT = .agg #[.int .i64 m.kd, .int .i64 m.fr, .int .i64 m.to, .int .u64 (m.sq : Int), .int .i64 m.wh, .int .u64 m.k.i, .int .i64 m.k.s, .slice A nA cA, .slice T tA cT, .int .u64 (m.ep : Int), .int .u64 (m.bo : Int), .int .i64 m.ak, .string m.ts, .int .u64 (m.tn : Int), .bool m.gd]) := Lib.hid (by unfold fewV mvv fewM; simp only [x1, x2, x3])
  have dnA : decide ((9 : Int) < (nA : Int)) = false := by simp; omega
  have dnA' : decide (9 < nA) = false := by simp; omega
  have dtA : decide ((65 : Int) < (tA : Int)) = false := by simp; omega
  have dtA' : decide (65 < tA) = false := by simp; omega
  clear x1 x2 x3 hA hT hnA htA
  go_enter Tryd.func9, Tryd.ntmps9
  go_wp2_with fail
  refine bodyPost_ret (v := .agg #[.int .i64 m.kd, .int .i64 m.fr, .int .i64 m.to, .int .u64 (m.sq : Int), .int .i64 m.wh, .int .u64 m.k.i, .int .i64 m.k.s, .slice A nA cA, .slice T tA cT, .int .u64 (m.ep : Int), .int .u64 (m.bo : Int), .int .i64 m.ak, .string m.ts, .int .u64 (m.tn : Int), .bool m.gd]) (by simp [results, Tryd.results9, go_sem]) rfl ⟨by rw [HV.out], ?_⟩
  · exact ((Below.refl _ _).alloc (Nat.le_refl _) _).alloc (by simp) _
end Go.Proofs.YtjeepmdklbfgeaaDoor

namespace Go.Proofs.YtjeepmdklbfgeaaDoor
open Go.Sort Go.RowKit Go.Proofs.YtjeepmdklbfgeaaDoor.Pure Go.Proofs.YtjeepmdklbfgeaaDoor.W Go.Proofs.YtjeepmdklbfgeaaDoor.W.Pure

theorem few_val (m : Mg) (A : Option Addr) (cA : Nat) (T : Option Addr) (cT : Nat) (w : World) (h : Lists w m A cA T cT) : Calls Tryd.prog 9 #[mvv m (.slice A m.ns.length cA) (.slice T m.tb.length cT)] w fun e w' => e = .returned (fewV m A cA T cT) ∧ Below w.heap.size w w' := by
  by_cases h1 : 9 < m.ns.length <;> by_cases h2 : 65 < m.tb.length <;> by_cases h3 : 21 < m.ts.size
  · exact few_111 m A cA T cT w h h1 h2 h3
  · exact few_110 m A cA T cT w h h1 h2 h3
  · exact few_101 m A cA T cT w h h1 h2 h3
  · exact few_100 m A cA T cT w h h1 h2 h3
  · exact few_011 m A cA T cT w h h1 h2 h3
  · exact few_010 m A cA T cT w h h1 h2 h3
  · exact few_001 m A cA T cT w h h1 h2 h3
  · exact few_000 m A cA T cT w h h1 h2 h3
theorem Lists.on {w w' : World} {m : Mg} {A T : Option Addr} {cA cT : Nat} (h : Lists w m A cA T cT) (hb : Below w.heap.size w w') : Lists w' m A cA T cT := ⟨h.1.on hb, h.2.1.on hb, h.2.2⟩
/-- What is left of a message that came in, as a value, in whatever world behind. -/
theorem Lists.few {w w' : World} {m : Mg} {A T : Option Addr} {cA cT : Nat} (h : Lists w m A cA T cT) (hb : Below w.heap.size w w') : MsgV w' (fewV m A cA T cT) (fewM m) :=
  ⟨A, cA, T, cT, rfl, (h.1.take 9).on hb, (h.2.1.take 65).on hb, by show (m.ns.take 9).length ≤ _; rw [List.length_take]; omega, by show (m.tb.take 65).length ≤ _; rw [List.length_take]; omega, by show (fewT m.ts).size ≤ _; have := fewT_size m.ts; omega⟩
end Go.Proofs.YtjeepmdklbfgeaaDoor
