/-
  The walk of the document's Same.
-/
import Derived.Test.YtjeepmdklbfgeaaDoorRsameMA
import Derived.Test.YtjeepmdklbfgeaaDoorRsameMB
import Derived.Test.YtjeepmdklbfgeaaDoorRsameMC
import Derived.Test.YtjeepmdklbfgeaaDoorRsameMD
import Derived.Test.YtjeepmdklbfgeaaDoorRsameME
namespace Go.Proofs.YtjeepmdklbfgeaaDoor
open Go.Sort Go.RowKit Go.Proofs.YtjeepmdklbfgeaaDoor.Pure Go.Proofs.YtjeepmdklbfgeaaDoor.W Go.Proofs.YtjeepmdklbfgeaaDoor.W.Pure

theorem rsame_msg (a b : Mg) (u v : Value) (w : World) (h : MsgV w u a) (h' : MsgV w v b) : Calls Tryd.prog 14 #[u, v] w fun e w' => e = .returned (.bool (decide (a = b))) ∧ Below w.heap.size w w' := by
  by_cases h0 : a.kd = b.kd
  rotate_left
  · rw [show decide (a = b) = false from decide_eq_false (fun e => h0 (by rw [e]))]
    exact rsame_msg_0 a b u v w h h'  h0
  by_cases h1 : a.fr = b.fr
  rotate_left
  · rw [show decide (a = b) = false from decide_eq_false (fun e => h1 (by rw [e]))]
    exact rsame_msg_1 a b u v w h h' h0 h1
  by_cases h2 : a.to = b.to
  rotate_left
  · rw [show decide (a = b) = false from decide_eq_false (fun e => h2 (by rw [e]))]
    exact rsame_msg_2 a b u v w h h' h0 h1 h2
  by_cases h3 : a.sq = b.sq
  rotate_left
  · rw [show decide (a = b) = false from decide_eq_false (fun e => h3 (by rw [e]))]
    exact rsame_msg_3 a b u v w h h' h0 h1 h2 h3
  by_cases h4 : a.wh = b.wh
  rotate_left
  · rw [show decide (a = b) = false from decide_eq_false (fun e => h4 (by rw [e]))]
    exact rsame_msg_4 a b u v w h h' h0 h1 h2 h3 h4
  by_cases h5 : a.k = b.k
  rotate_left
  · rw [show decide (a = b) = false from decide_eq_false (fun e => h5 (by rw [e]))]
    exact rsame_msg_5 a b u v w h h' h0 h1 h2 h3 h4 h5
  by_cases h6 : a.ns = b.ns
  rotate_left
  · rw [show decide (a = b) = false from decide_eq_false (fun e => h6 (by rw [e]))]
    exact rsame_msg_6 a b u v w h h' h0 h1 h2 h3 h4 h5 h6
  by_cases h7 : a.tb = b.tb
  rotate_left
  · rw [show decide (a = b) = false from decide_eq_false (fun e => h7 (by rw [e]))]
    exact rsame_msg_7 a b u v w h h' h0 h1 h2 h3 h4 h5 h6 h7
  by_cases h8 : a.ep = b.ep
  rotate_left
  · rw [show decide (a = b) = false from decide_eq_false (fun e => h8 (by rw [e]))]
    exact rsame_msg_8 a b u v w h h' h0 h1 h2 h3 h4 h5 h6 h7 h8
  by_cases h9 : a.bo = b.bo
  rotate_left
  · rw [show decide (a = b) = false from decide_eq_false (fun e => h9 (by rw [e]))]
    exact rsame_msg_9 a b u v w h h' h0 h1 h2 h3 h4 h5 h6 h7 h8 h9
  by_cases h10 : a.ak = b.ak
  rotate_left
  · rw [show decide (a = b) = false from decide_eq_false (fun e => h10 (by rw [e]))]
    exact rsame_msg_10 a b u v w h h' h0 h1 h2 h3 h4 h5 h6 h7 h8 h9 h10
  by_cases h11 : a.ts = b.ts
  rotate_left
  · rw [show decide (a = b) = false from decide_eq_false (fun e => h11 (by rw [e]))]
    exact rsame_msg_11 a b u v w h h' h0 h1 h2 h3 h4 h5 h6 h7 h8 h9 h10 h11
  by_cases h12 : a.tn = b.tn
  rotate_left
  · rw [show decide (a = b) = false from decide_eq_false (fun e => h12 (by rw [e]))]
    exact rsame_msg_12 a b u v w h h' h0 h1 h2 h3 h4 h5 h6 h7 h8 h9 h10 h11 h12
  by_cases h13 : a.gd = b.gd
  rotate_left
  · rw [show decide (a = b) = false from decide_eq_false (fun e => h13 (by rw [e]))]
    exact rsame_msg_13 a b u v w h h' h0 h1 h2 h3 h4 h5 h6 h7 h8 h9 h10 h11 h12 h13
  rw [show decide (a = b) = true from decide_eq_true (by cases a; cases b; simp only at *; subst h0 h1 h2 h3 h4 h5 h6 h7 h8 h9 h10 h11 h12 h13; rfl)]
  exact rsame_msg_14 a b u v w h h' h0 h1 h2 h3 h4 h5 h6 h7 h8 h9 h10 h11 h12 h13
end Go.Proofs.YtjeepmdklbfgeaaDoor
