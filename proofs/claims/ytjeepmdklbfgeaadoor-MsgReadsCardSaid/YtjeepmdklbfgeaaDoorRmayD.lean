/-
  The document's May, where its first line says no.
-/
import Derived.Test.YtjeepmdklbfgeaaDoorBare
import Derived.Test.YtjeepmdklbfgeaaDoorRsameM
import Derived.Test.YtjeepmdklbfgeaaDoorKeeps
import Derived.Test.YtjeepmdklbfgeaaDoorBase
namespace Go.Proofs.YtjeepmdklbfgeaaDoor
open Go.Sort Go.RowKit Go.Proofs.YtjeepmdklbfgeaaDoor.Pure Go.Proofs.YtjeepmdklbfgeaaDoor.W Go.Proofs.YtjeepmdklbfgeaaDoor.W.Pure

set_option maxRecDepth 100000 in
set_option maxHeartbeats 4000000 in
theorem rmay_9 (m : Mg) (u : Value) (w : World) (h : MsgV w u m) (t_lo : 1 ≤ m.kd) (t_hi : m.kd ≤ 12) (t_fr : isN m.fr = true) (t_to : isN m.to = true) (t_eq : ¬ m.fr = m.to) (t_same : m = bareM m) (t_who : isN m.wh = true) (t_k : mayK m.k = true) (t_n8 : m.ns.length ≤ 8) (t_a0 : m.ak < 0) : Calls Tryd.prog 12 #[u] w fun e w' => e = .returned (.bool false) ∧ Below w.heap.size w w' := by
  have hMV := h
  obtain ⟨A, cA, T, cT, rfl, hA, hT, l1, l2, l3⟩ := h
  have HB1 : Hid (Below w.heap.size w (w.alloc (.cells #[.int .i64 m.kd, .int .i64 m.fr, .int .i64 m.to, .int .u64 (m.sq : Int), .int .i64 m.wh, .int .u64 m.k.i, .int .i64 m.k.s, (.slice A m.ns.length cA), (.slice T m.tb.length cT), .int .u64 (m.ep : Int), .int .u64 (m.bo : Int), .int .i64 m.ak, .string m.ts, .int .u64 (m.tn : Int), .bool m.gd] 28))) := Lib.hid ((Below.refl _ _).alloc (Nat.le_refl _) _)
  have HR1 : Hid (Row (w.alloc (.cells #[.int .i64 m.kd, .int .i64 m.fr, .int .i64 m.to, .int .u64 (m.sq : Int), .int .i64 m.wh, .int .u64 m.k.i, .int .i64 m.k.s, (.slice A m.ns.length cA), (.slice T m.tb.length cT), .int .u64 (m.ep : Int), .int .u64 (m.bo : Int), .int .i64 m.ak, .string m.ts, .int .u64 (m.tn : Int), .bool m.gd] 28)) w.heap.size [.int .i64 m.kd, .int .i64 m.fr, .int .i64 m.to, .int .u64 (m.sq : Int), .int .i64 m.wh, .int .u64 m.k.i, .int .i64 m.k.s, (.slice A m.ns.length cA), (.slice T m.tb.length cT), .int .u64 (m.ep : Int), .int .u64 (m.bo : Int), .int .i64 m.ak, .string m.ts, .int .u64 (m.tn : Int), .bool m.gd]) := Lib.hid (Row.new w _ _)
  have HV1 : Hid (MsgV (w.alloc (.cells #[.int .i64 m.kd, .int .i64 m.fr, .int .i64 m.to, .int .u64 (m.sq : Int), .int .i64 m.wh, .int .u64 m.k.i, .int .i64 m.k.s, (.slice A m.ns.length cA), (.slice T m.tb.length cT), .int .u64 (m.ep : Int), .int .u64 (m.bo : Int), .int .i64 m.ak, .string m.ts, .int .u64 (m.tn : Int), .bool m.gd] 28)) (mvv m (.slice A m.ns.length cA) (.slice T m.tb.length cT)) m) := Lib.hid (hMV.on HB1.out)
  have hlt1 : w.heap.size < (w.alloc (.cells #[.int .i64 m.kd, .int .i64 m.fr, .int .i64 m.to, .int .u64 (m.sq : Int), .int .i64 m.wh, .int .u64 m.k.i, .int .i64 m.k.s, (.slice A m.ns.length cA), (.slice T m.tb.length cT), .int .u64 (m.ep : Int), .int .u64 (m.bo : Int), .int .i64 m.ak, .string m.ts, .int .u64 (m.tn : Int), .bool m.gd] 28)).heap.size := by simp
  obtain ⟨vb, hvb, hcb⟩ := bare_any m _ w hMV ⟨t_lo, t_hi⟩
  have HVb := Lib.hid (fun (W : World) (hj : Below w.heap.size w W) => hvb W (hMV.on hj))
  have HCb := Lib.hid hcb
  clear hvb hcb
  clear hMV hA hT
  have Hl := Lib.hid (And.intro l1 (And.intro l2 l3))
  clear l1 l2 l3
  unfold mvv at HCb ⊢
  have Ht_eq := Lib.hid t_eq
  clear t_eq
  have Ht_same := Lib.hid t_same
  clear t_same
  go_enter Tryd.func12, Tryd.ntmps12
  go_upto_region 1 with (fail)
  generalize w.alloc (.cells #[.int .i64 m.kd, .int .i64 m.fr, .int .i64 m.to, .int .u64 (m.sq : Int), .int .i64 m.wh, .int .u64 m.k.i, .int .i64 m.k.s, (.slice A m.ns.length cA), (.slice T m.tb.length cT), .int .u64 (m.ep : Int), .int .u64 (m.bo : Int), .int .i64 m.ak, .string m.ts, .int .u64 (m.tn : Int), .bool m.gd] 28) = w1 at *
  have t_eq := Ht_eq.out
  have t_same := Ht_same.out
  have d1 : decide (m.kd < 1) = false := by simp; omega
  have d2 : decide (12 < m.kd) = false := by simp; omega
  have R1 := Lib.hid (fun q : Regrown => (rnode_any m.fr (grow (redrawn w1 q.d) q.os)).mono (fun e w' hh => (⟨hh.1, hh.2 ▸ Below.refl _ _⟩ : e = .returned (.bool (isN m.fr)) ∧ Below (grow (redrawn w1 q.d) q.os).heap.size (grow (redrawn w1 q.d) q.os) w')))
  rw [t_fr] at R1
  have R2 := Lib.hid (fun q : Regrown => (rnode_any m.to (grow (redrawn w1 q.d) q.os)).mono (fun e w' hh => (⟨hh.1, hh.2 ▸ Below.refl _ _⟩ : e = .returned (.bool (isN m.to)) ∧ Below (grow (redrawn w1 q.d) q.os).heap.size (grow (redrawn w1 q.d) q.os) w')))
  rw [t_to] at R2
  have d3 : (m.fr == m.to) = false := by simpa using t_eq
  have R3 := Lib.hid (fun q : Regrown => HCb.out (grow (redrawn w1 q.d) q.os))
  have R4 := Lib.hid (fun q : Regrown => rsame_msg m (bareM m) _ vb (grow (redrawn w1 q.d) q.os) (HV1.out.on (below_regrown w1 q.d q.os)) (HVb.out _ (HB1.out.trans ((below_regrown w1 q.d q.os).mono HB1.out.size))))
  rw [decide_eq_true t_same] at R4
  unfold mvv at R4
  have R5 := Lib.hid (fun q : Regrown => (rnode_any m.wh (grow (redrawn w1 q.d) q.os)).mono (fun e w' hh => (⟨hh.1, hh.2 ▸ Below.refl _ _⟩ : e = .returned (.bool (isN m.wh)) ∧ Below (grow (redrawn w1 q.d) q.os).heap.size (grow (redrawn w1 q.d) q.os) w')))
  rw [t_who] at R5
  have R6 := Lib.hid (fun q : Regrown => rmay_any m.k (grow (redrawn w1 q.d) q.os))
  rw [t_k] at R6
  have d4 : decide ((8 : Int) < (m.ns.length : Int)) = false := by simp; omega
  have d5 : decide (m.ak < 0) = true := by simp; omega
  have hR1 := HR1.out
  have k0 := hR1.at_ 0 _ rfl
  have k1 := hR1.at_ 1 _ rfl
  have k2 := hR1.at_ 2 _ rfl
  have k3 := hR1.at_ 3 _ rfl
  have k4 := hR1.at_ 4 _ rfl
  have k5 := hR1.at_ 5 _ rfl
  have k6 := hR1.at_ 6 _ rfl
  have k7 := hR1.at_ 7 _ rfl
  have k8 := hR1.at_ 8 _ rfl
  have k9 := hR1.at_ 9 _ rfl
  have k10 := hR1.at_ 10 _ rfl
  have k11 := hR1.at_ 11 _ rfl
  have k12 := hR1.at_ 12 _ rfl
  have k13 := hR1.at_ 13 _ rfl
  have k14 := hR1.at_ 14 _ rfl
  have K0 := fun d os => cell_regrown k0 d os
  have K1 := fun d os => cell_regrown k1 d os
  have K2 := fun d os => cell_regrown k2 d os
  have K3 := fun d os => cell_regrown k3 d os
  have K4 := fun d os => cell_regrown k4 d os
  have K5 := fun d os => cell_regrown k5 d os
  have K6 := fun d os => cell_regrown k6 d os
  have K7 := fun d os => cell_regrown k7 d os
  have K8 := fun d os => cell_regrown k8 d os
  have K9 := fun d os => cell_regrown k9 d os
  have K10 := fun d os => cell_regrown k10 d os
  have K11 := fun d os => cell_regrown k11 d os
  have K12 := fun d os => cell_regrown k12 d os
  have K13 := fun d os => cell_regrown k13 d os
  have K14 := fun d os => cell_regrown k14 d os
  clear hR1 t_lo t_hi t_fr t_to t_eq t_same t_who t_k t_n8 t_a0
  refine q_enter (by kernel_rfl) (by kernel_rfl) ?_
  iterate 62 (refine q_step ?_; intro K hK; go_simp; first | (refine hK _ ?_; clear hK K) | (refine ⟨_, fun q => Calls.regrown_of (by with_reducible exact R1.out q), hK _ ?_⟩; clear hK K) | (refine ⟨_, fun q => Calls.regrown_of (by with_reducible exact R2.out q), hK _ ?_⟩; clear hK K) | (refine ⟨_, fun q => Calls.regrown_of (by with_reducible exact R3.out q), hK _ ?_⟩; clear hK K) | (refine ⟨_, fun q => Calls.regrown_of (by with_reducible exact R4.out q), hK _ ?_⟩; clear hK K) | (refine ⟨_, fun q => Calls.regrown_of (by with_reducible exact R5.out q), hK _ ?_⟩; clear hK K) | (refine ⟨_, fun q => Calls.regrown_of (by with_reducible exact R6.out q), hK _ ?_⟩; clear hK K))
  refine q_nil ?_
  intro wz hbz
  go_wp2_with fail
  go_ret
  exact ⟨rfl, HB1.out.trans (hbz.mono HB1.out.size)⟩
set_option maxRecDepth 100000 in
set_option maxHeartbeats 4000000 in
theorem rmay_10 (m : Mg) (u : Value) (w : World) (h : MsgV w u m) (t_lo : 1 ≤ m.kd) (t_hi : m.kd ≤ 12) (t_fr : isN m.fr = true) (t_to : isN m.to = true) (t_eq : ¬ m.fr = m.to) (t_same : m = bareM m) (t_who : isN m.wh = true) (t_k : mayK m.k = true) (t_n8 : m.ns.length ≤ 8) (t_a0 : 0 ≤ m.ak) (t_a1 : 1099511627776 < m.ak) : Calls Tryd.prog 12 #[u] w fun e w' => e = .returned (.bool false) ∧ Below w.heap.size w w' := by
  have hMV := h
  obtain ⟨A, cA, T, cT, rfl, hA, hT, l1, l2, l3⟩ := h
  have HB1 : Hid (Below w.heap.size w (w.alloc (.cells #[.int .i64 m.kd, .int .i64 m.fr, .int .i64 m.to, .int .u64 (m.sq : Int), .int .i64 m.wh, .int .u64 m.k.i, .int .i64 m.k.s, (.slice A m.ns.length cA), (.slice T m.tb.length cT), .int .u64 (m.ep : Int), .int .u64 (m.bo : Int), .int .i64 m.ak, .string m.ts, .int .u64 (m.tn : Int), .bool m.gd] 28))) := Lib.hid ((Below.refl _ _).alloc (Nat.le_refl _) _)
  have HR1 : Hid (Row (w.alloc (.cells #[.int .i64 m.kd, .int .i64 m.fr, .int .i64 m.to, .int .u64 (m.sq : Int), .int .i64 m.wh, .int .u64 m.k.i, .int .i64 m.k.s, (.slice A m.ns.length cA), (.slice T m.tb.length cT), .int .u64 (m.ep : Int), .int .u64 (m.bo : Int), .int .i64 m.ak, .string m.ts, .int .u64 (m.tn : Int), .bool m.gd] 28)) w.heap.size [.int .i64 m.kd, .int .i64 m.fr, .int .i64 m.to, .int .u64 (m.sq : Int), .int .i64 m.wh, .int .u64 m.k.i, .int .i64 m.k.s, (.slice A m.ns.length cA), (.slice T m.tb.length cT), .int .u64 (m.ep : Int), .int .u64 (m.bo : Int), .int .i64 m.ak, .string m.ts, .int .u64 (m.tn : Int), .bool m.gd]) := Lib.hid (Row.new w _ _)
  have HV1 : Hid (MsgV (w.alloc (.cells #[.int .i64 m.kd, .int .i64 m.fr, .int .i64 m.to, .int .u64 (m.sq : Int), .int .i64 m.wh, .int .u64 m.k.i, .int .i64 m.k.s, (.slice A m.ns.length cA), (.slice T m.tb.length cT), .int .u64 (m.ep : Int), .int .u64 (m.bo : Int), .int .i64 m.ak, .string m.ts, .int .u64 (m.tn : Int), .bool m.gd] 28)) (mvv m (.slice A m.ns.length cA) (.slice T m.tb.length cT)) m) := Lib.hid (hMV.on HB1.out)
  have hlt1 : w.heap.size < (w.alloc (.cells #[.int .i64 m.kd, .int .i64 m.fr, .int .i64 m.to, .int .u64 (m.sq : Int), .int .i64 m.wh, .int .u64 m.k.i, .int .i64 m.k.s, (.slice A m.ns.length cA), (.slice T m.tb.length cT), .int .u64 (m.ep : Int), .int .u64 (m.bo : Int), .int .i64 m.ak, .string m.ts, .int .u64 (m.tn : Int), .bool m.gd] 28)).heap.size := by simp
  obtain ⟨vb, hvb, hcb⟩ := bare_any m _ w hMV ⟨t_lo, t_hi⟩
  have HVb := Lib.hid (fun (W : World) (hj : Below w.heap.size w W) => hvb W (hMV.on hj))
  have HCb := Lib.hid hcb
  clear hvb hcb
  clear hMV hA hT
  have Hl := Lib.hid (And.intro l1 (And.intro l2 l3))
  clear l1 l2 l3
  unfold mvv at HCb ⊢
  have Ht_eq := Lib.hid t_eq
  clear t_eq
  have Ht_same := Lib.hid t_same
  clear t_same
  go_enter Tryd.func12, Tryd.ntmps12
  go_upto_region 1 with (fail)
  generalize w.alloc (.cells #[.int .i64 m.kd, .int .i64 m.fr, .int .i64 m.to, .int .u64 (m.sq : Int), .int .i64 m.wh, .int .u64 m.k.i, .int .i64 m.k.s, (.slice A m.ns.length cA), (.slice T m.tb.length cT), .int .u64 (m.ep : Int), .int .u64 (m.bo : Int), .int .i64 m.ak, .string m.ts, .int .u64 (m.tn : Int), .bool m.gd] 28) = w1 at *
  have t_eq := Ht_eq.out
  have t_same := Ht_same.out
  have d1 : decide (m.kd < 1) = false := by simp; omega
  have d2 : decide (12 < m.kd) = false := by simp; omega
  have R1 := Lib.hid (fun q : Regrown => (rnode_any m.fr (grow (redrawn w1 q.d) q.os)).mono (fun e w' hh => (⟨hh.1, hh.2 ▸ Below.refl _ _⟩ : e = .returned (.bool (isN m.fr)) ∧ Below (grow (redrawn w1 q.d) q.os).heap.size (grow (redrawn w1 q.d) q.os) w')))
  rw [t_fr] at R1
  have R2 := Lib.hid (fun q : Regrown => (rnode_any m.to (grow (redrawn w1 q.d) q.os)).mono (fun e w' hh => (⟨hh.1, hh.2 ▸ Below.refl _ _⟩ : e = .returned (.bool (isN m.to)) ∧ Below (grow (redrawn w1 q.d) q.os).heap.size (grow (redrawn w1 q.d) q.os) w')))
  rw [t_to] at R2
  have d3 : (m.fr == m.to) = false := by simpa using t_eq
  have R3 := Lib.hid (fun q : Regrown => HCb.out (grow (redrawn w1 q.d) q.os))
  have R4 := Lib.hid (fun q : Regrown => rsame_msg m (bareM m) _ vb (grow (redrawn w1 q.d) q.os) (HV1.out.on (below_regrown w1 q.d q.os)) (HVb.out _ (HB1.out.trans ((below_regrown w1 q.d q.os).mono HB1.out.size))))
  rw [decide_eq_true t_same] at R4
  unfold mvv at R4
  have R5 := Lib.hid (fun q : Regrown => (rnode_any m.wh (grow (redrawn w1 q.d) q.os)).mono (fun e w' hh => (⟨hh.1, hh.2 ▸ Below.refl _ _⟩ : e = .returned (.bool (isN m.wh)) ∧ Below (grow (redrawn w1 q.d) q.os).heap.size (grow (redrawn w1 q.d) q.os) w')))
  rw [t_who] at R5
  have R6 := Lib.hid (fun q : Regrown => rmay_any m.k (grow (redrawn w1 q.d) q.os))
  rw [t_k] at R6
  have d4 : decide ((8 : Int) < (m.ns.length : Int)) = false := by simp; omega
  have d5 : decide (m.ak < 0) = false := by simp; omega
  have d6 : decide (1099511627776 < m.ak) = true := by simp; omega
  have hR1 := HR1.out
  have k0 := hR1.at_ 0 _ rfl
  have k1 := hR1.at_ 1 _ rfl
  have k2 := hR1.at_ 2 _ rfl
  have k3 := hR1.at_ 3 _ rfl
  have k4 := hR1.at_ 4 _ rfl
  have k5 := hR1.at_ 5 _ rfl
  have k6 := hR1.at_ 6 _ rfl
  have k7 := hR1.at_ 7 _ rfl
  have k8 := hR1.at_ 8 _ rfl
  have k9 := hR1.at_ 9 _ rfl
  have k10 := hR1.at_ 10 _ rfl
  have k11 := hR1.at_ 11 _ rfl
  have k12 := hR1.at_ 12 _ rfl
  have k13 := hR1.at_ 13 _ rfl
  have k14 := hR1.at_ 14 _ rfl
  have K0 := fun d os => cell_regrown k0 d os
  have K1 := fun d os => cell_regrown k1 d os
  have K2 := fun d os => cell_regrown k2 d os
  have K3 := fun d os => cell_regrown k3 d os
  have K4 := fun d os => cell_regrown k4 d os
  have K5 := fun d os => cell_regrown k5 d os
  have K6 := fun d os => cell_regrown k6 d os
  have K7 := fun d os => cell_regrown k7 d os
  have K8 := fun d os => cell_regrown k8 d os
  have K9 := fun d os => cell_regrown k9 d os
  have K10 := fun d os => cell_regrown k10 d os
  have K11 := fun d os => cell_regrown k11 d os
  have K12 := fun d os => cell_regrown k12 d os
  have K13 := fun d os => cell_regrown k13 d os
  have K14 := fun d os => cell_regrown k14 d os
  clear hR1 t_lo t_hi t_fr t_to t_eq t_same t_who t_k t_n8 t_a0 t_a1
  refine q_enter (by kernel_rfl) (by kernel_rfl) ?_
  iterate 62 (refine q_step ?_; intro K hK; go_simp; first | (refine hK _ ?_; clear hK K) | (refine ⟨_, fun q => Calls.regrown_of (by with_reducible exact R1.out q), hK _ ?_⟩; clear hK K) | (refine ⟨_, fun q => Calls.regrown_of (by with_reducible exact R2.out q), hK _ ?_⟩; clear hK K) | (refine ⟨_, fun q => Calls.regrown_of (by with_reducible exact R3.out q), hK _ ?_⟩; clear hK K) | (refine ⟨_, fun q => Calls.regrown_of (by with_reducible exact R4.out q), hK _ ?_⟩; clear hK K) | (refine ⟨_, fun q => Calls.regrown_of (by with_reducible exact R5.out q), hK _ ?_⟩; clear hK K) | (refine ⟨_, fun q => Calls.regrown_of (by with_reducible exact R6.out q), hK _ ?_⟩; clear hK K))
  refine q_nil ?_
  intro wz hbz
  go_wp2_with fail
  go_ret
  exact ⟨rfl, HB1.out.trans (hbz.mono HB1.out.size)⟩
end Go.Proofs.YtjeepmdklbfgeaaDoor
