/-
  The document's May, where its first line says yes.
-/
import Derived.Test.YtjeepmdklbfgeaaDoorBare
import Derived.Test.YtjeepmdklbfgeaaDoorRsameM
import Derived.Test.YtjeepmdklbfgeaaDoorKeeps
import Derived.Test.YtjeepmdklbfgeaaDoorBase
import Derived.Test.YtjeepmdklbfgeaaDoorRmayT
import Derived.Test.YtjeepmdklbfgeaaDoorMayIs
namespace Go.Proofs.YtjeepmdklbfgeaaDoor
open Go.Sort Go.RowKit Go.Proofs.YtjeepmdklbfgeaaDoor.Pure Go.Proofs.YtjeepmdklbfgeaaDoor.W Go.Proofs.YtjeepmdklbfgeaaDoor.W.Pure

set_option maxRecDepth 100000 in
set_option maxHeartbeats 4000000 in
theorem rmay_11 (m : Mg) (u : Value) (w : World) (h : MsgV w u m) (t_lo : 1 ≤ m.kd) (t_hi : m.kd ≤ 12) (t_fr : isN m.fr = true) (t_to : isN m.to = true) (t_eq : ¬ m.fr = m.to) (t_same : m = bareM m) (t_who : isN m.wh = true) (t_k : mayK m.k = true) (t_n8 : m.ns.length ≤ 8) (t_a0 : 0 ≤ m.ak) (t_a1 : m.ak ≤ 1099511627776) : Calls Tryd.prog 12 #[u] w fun e w' => e = .returned (.bool (restM m)) ∧ Below w.heap.size w w' := by
  have hMV := h
  obtain ⟨A, cA, T, cT, rfl, hA, hT, l1, l2, l3⟩ := h
  have HB1 : Hid (Below w.heap.size w (w.alloc (.cells #[.int .i64 m.kd, .int .i64 m.fr, .int .i64 m.to, .int .u64 (m.sq : Int), .int .i64 m.wh, .int .u64 m.k.i, .int .i64 m.k.s, (.slice A m.ns.length cA), (.slice T m.tb.length cT), .int .u64 (m.ep : Int), .int .u64 (m.bo : Int), .int .i64 m.ak, .string m.ts, .int .u64 (m.tn : Int), .bool m.gd] 28))) := Lib.hid ((Below.refl _ _).alloc (Nat.le_refl _) _)
  have HR1 : Hid (Row (w.alloc (.cells #[.int .i64 m.kd, .int .i64 m.fr, .int .i64 m.to, .int .u64 (m.sq : Int), .int .i64 m.wh, .int .u64 m.k.i, .int .i64 m.k.s, (.slice A m.ns.length cA), (.slice T m.tb.length cT), .int .u64 (m.ep : Int), .int .u64 (m.bo : Int), .int .i64 m.ak, .string m.ts, .int .u64 (m.tn : Int), .bool m.gd] 28)) w.heap.size [.int .i64 m.kd, .int .i64 m.fr, .int .i64 m.to, .int .u64 (m.sq : Int), .int .i64 m.wh, .int .u64 m.k.i, .int .i64 m.k.s, (.slice A m.ns.length cA), (.slice T m.tb.length cT), .int .u64 (m.ep : Int), .int .u64 (m.bo : Int), .int .i64 m.ak, .string m.ts, .int .u64 (m.tn : Int), .bool m.gd]) := Lib.hid (Row.new w _ _)
  have HV1 : Hid (MsgV (w.alloc (.cells #[.int .i64 m.kd, .int .i64 m.fr, .int .i64 m.to, .int .u64 (m.sq : Int), .int .i64 m.wh, .int .u64 m.k.i, .int .i64 m.k.s, (.slice A m.ns.length cA), (.slice T m.tb.length cT), .int .u64 (m.ep : Int), .int .u64 (m.bo : Int), .int .i64 m.ak, .string m.ts, .int .u64 (m.tn : Int), .bool m.gd] 28)) (mvv m (.slice A m.ns.length cA) (.slice T m.tb.length cT)) m) := Lib.hid (hMV.on HB1.out)
  have hlt1 : w.heap.size < (w.alloc (.cells #[.int .i64 m.kd, .int .i64 m.fr, .int .i64 m.to, .int .u64 (m.sq : Int), .int .i64 m.wh, .int .u64 m.k.i, .int .i64 m.k.s, (.slice A m.ns.length cA), (.slice T m.tb.length cT), .int .u64 (m.ep : Int), .int .u64 (m.bo : Int), .int .i64 m.ak, .string m.ts, .int .u64 (m.tn : Int), .bool m.gd] 28)).heap.size := by simp
  obtain ⟨vb, hvb, hcb⟩ := bare_any m _ w hMV ⟨t_lo, t_hi⟩
  have HVb := Lib.hid (fun (W : World) (hj : Below w.heap.size w W) => hvb W (hMV.on hj))
  have HCb := Lib.hid hcb
  clear hvb hcb
  have HNs : Hid (∀ W : World, Below w.heap.size w W → Ns W A m.ns) := Lib.hid (fun W hj => hA.on hj)
  have HTs : Hid (∀ W : World, Below w.heap.size w W → Lst W T m.tb) := Lib.hid (fun W hj => hT.on hj)
  clear hMV hA hT
  have Hl := Lib.hid (And.intro l1 (And.intro l2 l3))
  clear l1 l2 l3
  unfold mvv at HCb ⊢
  have Ht_eq := Lib.hid t_eq
  clear t_eq
  have Ht_same := Lib.hid t_same
  clear t_same
  go_enter Tryd.func12, Tryd.ntmps12
  go_upto_region 1 with (fail)
  generalize w.alloc (.cells #[.int .i64 m.kd, .int .i64 m.fr, .int .i64 m.to, .int .u64 (m.sq : Int), .int .i64 m.wh, .int .u64 m.k.i, .int .i64 m.k.s, (.slice A m.ns.length cA), (.slice T m.tb.length cT), .int .u64 (m.ep : Int), .int .u64 (m.bo : Int), .int .i64 m.ak, .string m.ts, .int .u64 (m.tn : Int), .bool m.gd] 28) = w1 at *
  have t_eq := Ht_eq.out
  have t_same := Ht_same.out
  have d1 : decide (m.kd < 1) = false := by simp; omega
  have d2 : decide (12 < m.kd) = false := by simp; omega
  have R1 := Lib.hid (fun q : Regrown => (rnode_any m.fr (grow (redrawn w1 q.d) q.os)).mono (fun e w' hh => (⟨hh.1, hh.2 ▸ Below.refl _ _⟩ : e = .returned (.bool (isN m.fr)) ∧ Below (grow (redrawn w1 q.d) q.os).heap.size (grow (redrawn w1 q.d) q.os) w')))
  rw [t_fr] at R1
  have R2 := Lib.hid (fun q : Regrown => (rnode_any m.to (grow (redrawn w1 q.d) q.os)).mono (fun e w' hh => (⟨hh.1, hh.2 ▸ Below.refl _ _⟩ : e = .returned (.bool (isN m.to)) ∧ Below (grow (redrawn w1 q.d) q.os).heap.size (grow (redrawn w1 q.d) q.os) w')))
  rw [t_to] at R2
  have d3 : (m.fr == m.to) = false := by simpa using t_eq
  have R3 := Lib.hid (fun q : Regrown => HCb.out (grow (redrawn w1 q.d) q.os))
  have R4 := Lib.hid (fun q : Regrown => rsame_msg m (bareM m) _ vb (grow (redrawn w1 q.d) q.os) (HV1.out.on (below_regrown w1 q.d q.os)) (HVb.out _ (HB1.out.trans ((below_regrown w1 q.d q.os).mono HB1.out.size))))
  rw [decide_eq_true t_same] at R4
  unfold mvv at R4
  have R5 := Lib.hid (fun q : Regrown => (rnode_any m.wh (grow (redrawn w1 q.d) q.os)).mono (fun e w' hh => (⟨hh.1, hh.2 ▸ Below.refl _ _⟩ : e = .returned (.bool (isN m.wh)) ∧ Below (grow (redrawn w1 q.d) q.os).heap.size (grow (redrawn w1 q.d) q.os) w')))
  rw [t_who] at R5
  have R6 := Lib.hid (fun q : Regrown => rmay_any m.k (grow (redrawn w1 q.d) q.os))
  rw [t_k] at R6
  have d4 : decide ((8 : Int) < (m.ns.length : Int)) = false := by simp; omega
  have d5 : decide (m.ak < 0) = false := by simp; omega
  have d6 : decide (1099511627776 < m.ak) = false := by simp; omega
  have hR1 := HR1.out
  have k0 := hR1.at_ 0 _ rfl
  have k1 := hR1.at_ 1 _ rfl
  have k2 := hR1.at_ 2 _ rfl
  have k3 := hR1.at_ 3 _ rfl
  have k4 := hR1.at_ 4 _ rfl
  have k5 := hR1.at_ 5 _ rfl
  have k6 := hR1.at_ 6 _ rfl
  have k7 := hR1.at_ 7 _ rfl
  have k8 := hR1.at_ 8 _ rfl
  have k9 := hR1.at_ 9 _ rfl
  have k10 := hR1.at_ 10 _ rfl
  have k11 := hR1.at_ 11 _ rfl
  have k12 := hR1.at_ 12 _ rfl
  have k13 := hR1.at_ 13 _ rfl
  have k14 := hR1.at_ 14 _ rfl
  have K0 := fun d os => cell_regrown k0 d os
  have K1 := fun d os => cell_regrown k1 d os
  have K2 := fun d os => cell_regrown k2 d os
  have K3 := fun d os => cell_regrown k3 d os
  have K4 := fun d os => cell_regrown k4 d os
  have K5 := fun d os => cell_regrown k5 d os
  have K6 := fun d os => cell_regrown k6 d os
  have K7 := fun d os => cell_regrown k7 d os
  have K8 := fun d os => cell_regrown k8 d os
  have K9 := fun d os => cell_regrown k9 d os
  have K10 := fun d os => cell_regrown k10 d os
  have K11 := fun d os => cell_regrown k11 d os
  have K12 := fun d os => cell_regrown k12 d os
  have K13 := fun d os => cell_regrown k13 d os
  have K14 := fun d os => cell_regrown k14 d os
  clear hR1 t_lo t_hi t_fr t_to t_eq t_same t_who t_k t_n8 t_a0 t_a1
  refine q_enter (by kernel_rfl) (by kernel_rfl) ?_
  iterate 62 (refine q_step ?_; intro K hK; go_simp; first | (refine hK _ ?_; clear hK K) | (refine ⟨_, fun q => Calls.regrown_of (by with_reducible exact R1.out q), hK _ ?_⟩; clear hK K) | (refine ⟨_, fun q => Calls.regrown_of (by with_reducible exact R2.out q), hK _ ?_⟩; clear hK K) | (refine ⟨_, fun q => Calls.regrown_of (by with_reducible exact R3.out q), hK _ ?_⟩; clear hK K) | (refine ⟨_, fun q => Calls.regrown_of (by with_reducible exact R4.out q), hK _ ?_⟩; clear hK K) | (refine ⟨_, fun q => Calls.regrown_of (by with_reducible exact R5.out q), hK _ ?_⟩; clear hK K) | (refine ⟨_, fun q => Calls.regrown_of (by with_reducible exact R6.out q), hK _ ?_⟩; clear hK K))
  refine q_nil ?_
  intro wz hbz
  have HRz := Lib.hid (HR1.out.on hbz (show 0 < 15 by decide))
  have HBz := Lib.hid (HB1.out.trans (hbz.mono HB1.out.size))
  clear k0 K0 k1 K1 k2 K2 k3 K3 k4 K4 k5 K5 k6 K6 k7 K7 k8 K8 k9 K9 k10 K10 k11 K11 k12 K12 k13 K13 k14 K14 R1 R2 R3 R4 R5 R6 HR1 HB1 HV1 HVb HCb hbz d1 d2 d3 d4 d5 d6
  obtain ⟨l1, l2, l3⟩ := Hl.out
  have hqz := HRz.out.lt (show 0 < 15 by decide)
  go_wp2_with fail
  go_loopw [3] (fun i wr => ∃ k : Nat, i = .int .i64 k ∧ k ≤ m.ns.length ∧ Hid (∀ j, j < k → oneB (nw m.ns j) = true) ∧ Hid (Below wz.heap.size wz wr)) (fun i _ => m.ns.length - (intOf i).toNat)
  case atStart => exact ⟨0, rfl, Nat.zero_le _, Lib.hid (fun j hj => absurd hj (Nat.not_lt_zero j)), Lib.hid (Below.refl _ _)⟩
  case round =>
    obtain ⟨k, rfl, hk, hok, hb⟩ := hrel
    have HBr := Lib.hid (HBz.out.trans (hb.out.mono HBz.out.size))
    have hRr := HRz.out.on hb.out (show 0 < 15 by decide)
    have c0 := hRr.at_ 0 _ rfl
    have c7 := hRr.at_ 7 _ rfl
    have c8 := hRr.at_ 8 _ rfl
    have c12 := hRr.at_ 12 _ rfl
    have hsz := hb.out.size
    clear hRr
    by_cases hlt : k < m.ns.length
    · obtain ⟨ad, rfl, hlo, h1⟩ := (HNs.out _ HBr.out) k hlt
      have HX : Hid (oneB (nw m.ns k) = (isN (nw m.ns k).w && mayK ⟨(nw m.ns k).i, (nw m.ns k).s⟩)) := Lib.hid rfl
      have HF : Hid (oneB (nw m.ns k) = false → restM m = false) := Lib.hid (fun h => by
        unfold restM
        rcases e : m.ns.all oneB with _ | _
        · rfl
        · rw [List.all_eq_true.1 e _ (nw_mem m.ns hlt)] at h; cases h)
      have HS : Hid (oneB (nw m.ns k) = true → ∀ j, j < k + 1 → oneB (nw m.ns j) = true) := Lib.hid (fun h j hj => by
        rcases Nat.lt_or_ge j k with hjk | hjk
        · exact hok.out j hjk
        · obtain rfl : j = k := by omega
          exact h)
      generalize hO : oneB (nw m.ns k) = O at *
      generalize nw m.ns k = x at *
      obtain ⟨a0, a1, a2⟩ := h1.flat
      obtain ⟨xw, xi, xs⟩ := x
      simp only [] at a0 a1 a2 HX
      have k0 : (0 : Int) ≤ (k : Int) := by omega
      have k1 : (k : Int) < (m.ns.length : Int) := by omega
      have e0 : decide ((k : Int) < (m.ns.length : Int)) = true := by simpa using k1
      have HIx := Lib.hid (fun W => rnode_any xw W)
      have HKx := Lib.hid (fun W => rmay_any ⟨xi, xs⟩ W)
      rcases hN : isN xw with _ | _
      · have hOF : O = false := by rw [HX.out, hN]; rfl
        have hR := HF.out hOF
        rw [hN] at HIx
        clear h1 hO hOF HX HF HS hN
        go_wp2_with (go_at_call 28; refine (HIx.out _).mono ?_; rintro e w2 ⟨rfl, rfl⟩)
        go_ret
        exact ⟨ret_bool' hR.symm, HBr.out⟩
      rw [hN] at HIx
      rcases hM : mayK ⟨xi, xs⟩ with _ | _
      · have hOF : O = false := by rw [HX.out, hN, hM]; rfl
        have hR := HF.out hOF
        rw [hM] at HKx
        clear h1 hO hOF HX HF HS hN hM
        go_wp2_with (first
          | (go_at_call 28; refine (HIx.out _).mono ?_; rintro e w2 ⟨rfl, rfl⟩)
          | (go_at_call 30; refine (HKx.out _).mono ?_; rintro e w3 ⟨rfl, hb3⟩; have HB3 := Lib.hid (HBr.out.trans (hb3.mono HBr.out.size)); clear hb3))
        go_ret
        exact ⟨ret_bool' hR.symm, HB3.out⟩
      have hOT : O = true := by rw [HX.out, hN, hM]; rfl
      have HS' := Lib.hid (HS.out hOT)
      rw [hM] at HKx
      clear h1 hO hOT HX HF HS hN hM
      go_wp2_with (first
        | (go_at_call 28; refine (HIx.out _).mono ?_; rintro e w2 ⟨rfl, rfl⟩)
        | (go_at_call 30; refine (HKx.out _).mono ?_; rintro e w3 ⟨rfl, hb3⟩; have HB3 := Lib.hid (hb.out.trans (hb3.mono hb.out.size)); clear hb3))
      go_roundw
      case rel => exact ⟨k + 1, by go_num, by omega, HS', HB3⟩
      case measure => simp [intOf]; omega
    · obtain rfl : k = m.ns.length := by omega
      have e0 : decide ((m.ns.length : Int) < (m.ns.length : Int)) = false := by simp
      have hall : m.ns.all oneB = true := by
        rw [List.all_eq_true]
        intro y hy
        obtain ⟨j, hj, rfl⟩ := List.getElem_of_mem hy
        have := hok.out j hj
        simpa [nw, List.getD, List.getElem?_eq_getElem hj] using this
      have HA := Lib.hid hall
      clear hall hok hlt hk
      have HMT := Lib.hid (fun (L : Bool) (hL : mayT m.tb = L) => rmayT_any T cT m.tb wr l2 (HTs.out _ HBr.out) L hL)
      have HNm := Lib.hid (fun (W : World) => rname_any m.ts W (by omega))
      by_cases h56 : m.kd = 5 ∨ m.kd = 6
      · have hr : restM m = mayT m.tb := by unfold restM; rw [HA.out, if_pos h56, if_pos (by omega)]; simp
        have HR := Lib.hid hr
        have g5 : (m.kd == 5) = true ∨ (m.kd == 5) = false ∧ (m.kd == 6) = true := by rcases h56 with e | e <;> rw [e] <;> decide
        have g11 : decide (m.kd < 11) = true := by simp; omega
        clear h56 hr
        rcases hL : mayT m.tb with _ | _
        · have HM2 := Lib.hid (HMT.out false hL)
          have hR := HR.out.trans hL
          clear hL HMT
          rcases g5 with g | ⟨g, g'⟩
          all_goals
            go_wp2_with (go_at_call 31; refine HM2.out.mono ?_; rintro e w3 ⟨rfl, hb3⟩; have HB3 := Lib.hid (HBr.out.trans (hb3.mono HBr.out.size)); clear hb3)
            go_ret
            exact ⟨ret_bool' hR.symm, HB3.out⟩
        · have HM2 := Lib.hid (HMT.out true hL)
          have hR := HR.out.trans hL
          clear hL HMT
          rcases g5 with g | ⟨g, g'⟩
          all_goals
            go_wp2_with (go_at_call 31; refine HM2.out.mono ?_; rintro e w3 ⟨rfl, hb3⟩; have HB3 := Lib.hid (HBr.out.trans (hb3.mono HBr.out.size)); replace c0 := (hb3.cell (World.block_lt_of_cell? _ _ c0)).trans c0; clear hb3)
            go_ret
            exact ⟨ret_bool' hR.symm, HB3.out⟩
      · have g5 : (m.kd == 5) = false := by rw [beq_eq_false_iff_ne]; omega
        have g6 : (m.kd == 6) = false := by rw [beq_eq_false_iff_ne]; omega
        by_cases h11 : m.kd < 11
        · have hr : restM m = true := by unfold restM; rw [HA.out, if_neg h56, if_pos h11]; rfl
          have g11 : decide (m.kd < 11) = true := by simpa using h11
          clear h56
          go_wp2_with fail
          go_ret
          exact ⟨ret_bool' hr.symm, HBr.out⟩
        · have hr : restM m = nameB m.ts := by unfold restM; rw [HA.out, if_neg h56, if_neg h11]; rfl
          have HR := Lib.hid hr
          have g11 : decide (m.kd < 11) = false := by simpa using h11
          clear h56 hr
          go_wp2_with (go_at_call 16; refine (HNm.out _).mono ?_; rintro e w3 ⟨rfl, rfl⟩)
          go_ret
          exact ⟨ret_bool' HR.out.symm, HBr.out⟩
end Go.Proofs.YtjeepmdklbfgeaaDoor
