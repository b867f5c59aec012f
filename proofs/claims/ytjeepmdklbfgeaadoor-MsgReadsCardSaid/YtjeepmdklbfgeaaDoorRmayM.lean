/-
  The document's May is the program's.
-/
import Derived.Test.YtjeepmdklbfgeaaDoorRmayA
import Derived.Test.YtjeepmdklbfgeaaDoorRmayB
import Derived.Test.YtjeepmdklbfgeaaDoorRmayC
import Derived.Test.YtjeepmdklbfgeaaDoorRmayD
import Derived.Test.YtjeepmdklbfgeaaDoorRmayE
namespace Go.Proofs.YtjeepmdklbfgeaaDoor.Pure

theorem may_head {m : Mg} (h : mayM m = true) : isN m.fr = true ∧ isN m.to = true ∧ ¬ m.fr = m.to := by
  unfold mayM headB at h
  simp only [Bool.and_eq_true, Bool.not_eq_true', decide_eq_false_iff_not] at h
  exact ⟨h.1.2.1, h.1.2.2.1, h.1.2.2.2⟩
theorem may_part {m : Mg} (h : mayM m = true) (i : Nat) (hi : i < 11) : mayP i m = true ∨ zeroP i m = true := by
  have := may_fits h i hi
  unfold fitsP at this
  split at this
  · exact .inl this
  · exact .inr this
theorem may_who {m : Mg} (h : mayM m = true) : isN m.wh = true := by
  rcases may_part h 1 (by decide) with e | e
  · exact e
  · have : m.wh = 0 := of_decide_eq_true e
    rw [this]; rfl
theorem may_k {m : Mg} (h : mayM m = true) : mayK m.k = true := by
  rcases may_part h 2 (by decide) with e | e
  · exact e
  · have : m.k = z0 := of_decide_eq_true e
    rw [this]; rfl
theorem may_ns {m : Mg} (h : mayM m = true) : m.ns.length ≤ 8 := by
  rcases may_part h 3 (by decide) with e | e
  · have e' : mayNs m.ns = true := e
    unfold mayNs at e'
    simp only [Bool.and_eq_true, decide_eq_true_eq] at e'
    exact e'.1
  · have : m.ns = [] := of_decide_eq_true e
    rw [this]; simp
theorem may_ak {m : Mg} (h : mayM m = true) : 0 ≤ m.ak ∧ m.ak ≤ 1099511627776 := by
  rcases may_part h 7 (by decide) with e | e
  · have e' : (decide (0 ≤ m.ak) && decide (m.ak ≤ 1099511627776)) = true := e
    simpa using e'
  · have : m.ak = 0 := of_decide_eq_true e
    omega
theorem no_may {m : Mg} (h : mayM m = true → False) : mayM m = false := by
  rcases e : mayM m with _ | _
  · rfl
  · exact (h e).elim
end Go.Proofs.YtjeepmdklbfgeaaDoor.Pure
namespace Go.Proofs.YtjeepmdklbfgeaaDoor
open Go.Sort Go.RowKit Go.Proofs.YtjeepmdklbfgeaaDoor.Pure Go.Proofs.YtjeepmdklbfgeaaDoor.W Go.Proofs.YtjeepmdklbfgeaaDoor.W.Pure

theorem rmay_msg (m : Mg) (u : Value) (w : World) (h : MsgV w u m) : Calls Tryd.prog 12 #[u] w fun e w' => e = .returned (.bool (mayM m)) ∧ Below w.heap.size w w' := by
  by_cases t0 : m.kd < 1
  · rw [no_may fun e => by have := may_kind e; omega]
    exact rmay_0 m u w h t0
  by_cases t1 : 12 < m.kd
  · rw [no_may fun e => by have := may_kind e; omega]
    exact rmay_1 m u w h (by omega) t1
  have s0 : 1 ≤ m.kd := by omega
  have s1 : m.kd ≤ 12 := by omega
  rcases s2 : isN m.fr with _ | _
  · rw [no_may fun e => by rw [(may_head e).1] at s2; cases s2]
    exact rmay_2 m u w h s0 s1 s2
  rcases s3 : isN m.to with _ | _
  · rw [no_may fun e => by rw [(may_head e).2.1] at s3; cases s3]
    exact rmay_3 m u w h s0 s1 s2 s3
  by_cases s4 : m.fr = m.to
  · rw [no_may fun e => (may_head e).2.2 s4]
    exact rmay_4 m u w h s0 s1 s2 s3 s4
  by_cases s5 : m = bareM m
  rotate_left
  · rw [no_may fun e => s5 (may_bare e)]
    exact rmay_5 m u w h s0 s1 s2 s3 s4 s5
  rcases s6 : isN m.wh with _ | _
  · rw [no_may fun e => by rw [may_who e] at s6; cases s6]
    exact rmay_6 m u w h s0 s1 s2 s3 s4 s5 s6
  rcases s7 : mayK m.k with _ | _
  · rw [no_may fun e => by rw [may_k e] at s7; cases s7]
    exact rmay_7 m u w h s0 s1 s2 s3 s4 s5 s6 s7
  by_cases s8 : 8 < m.ns.length
  · rw [no_may fun e => by have := may_ns e; omega]
    exact rmay_8 m u w h s0 s1 s2 s3 s4 s5 s6 s7 s8
  by_cases s9 : m.ak < 0
  · rw [no_may fun e => by have := may_ak e; omega]
    exact rmay_9 m u w h s0 s1 s2 s3 s4 s5 s6 s7 (by omega) s9
  by_cases s10 : 1099511627776 < m.ak
  · rw [no_may fun e => by have := may_ak e; omega]
    exact rmay_10 m u w h s0 s1 s2 s3 s4 s5 s6 s7 (by omega) (by omega) s10
  rw [may_is s0 s1 s2 s3 s4 s5 s6 s7 (by omega) (by omega) (by omega)]
  exact rmay_11 m u w h s0 s1 s2 s3 s4 s5 s6 s7 (by omega) (by omega) (by omega)
end Go.Proofs.YtjeepmdklbfgeaaDoor
