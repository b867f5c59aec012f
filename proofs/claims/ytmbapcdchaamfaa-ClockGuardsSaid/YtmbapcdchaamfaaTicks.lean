/-
  The walk of Ticks.
-/
import Derived.Test.YtmbapcdchaamfaaCounted
namespace Go.Proofs.Ytmbapcdchaamfaa
open Go.Sort Go.RowKit Go.Proofs.Ytmbapcdchaamfaa.Pure

/-- A node's ticks, told by counts. -/
theorem since_tk (l : List Bt) (v : Int) (p q : Nat) (w : World) (hp : p ≤ 400) (hq : q ≤ 400) :
    Calls Try.prog 22 #[.agg #[.int .i64 (cntAt l q v).t, .int .i64 (cntAt l q v).f, .bool (cntAt l q v).d], .agg #[.int .i64 (cntAt l p v).t, .int .i64 (cntAt l p v).f, .bool (cntAt l p v).d]] w fun e w' =>
      e = .returned (.tuple #[.int .i64 (if tkB l v p q then tkV l v p q else 0), .bool (tkB l v p q)]) ∧ Below w.heap.size w w' := by
  have h1 := cnt_small l v p
  have h2 := cnt_small l v q
  exact since_any _ _ _ _ _ _ w (by omega) (by omega) (tkB l v p q) rfl

set_option maxRecDepth 100000 in
set_option maxHeartbeats 1000000 in
theorem ticks_may (A : Option Addr) (c : Nat) (n node p q : Int) (l : List Bt) (w : World) (hn : l.length ≤ 1000) (h : Lst w A l) (hm : mayB n l = false) :
    Calls Try.prog 10 #[.int .i64 n, .slice A l.length c, .int .i64 node, .int .i64 p, .int .i64 q] w fun e w' => e = .returned (.tuple #[.int .i64 0, .int .i64 1]) ∧ Below w.heap.size w w' := by
  have HC := Lib.hid (check_any A c n l w hn h false hm)
  have hz : okE false = 1 := rfl
  rw [hz] at HC
  clear h hm hz
  go_enter Try.func10, Try.ntmps10
  go_wp2_with fail
  refine HC.out.mono ?_
  rintro e w1 ⟨rfl, hb1⟩
  have HB1 := Lib.hid hb1
  clear hb1 HC
  go_wp2_with fail
  go_ret2
  exact ⟨rfl, HB1.out⟩

/-- Is there such a node, and are there such places? -/
def askB (n node p q : Int) (m : Nat) : Bool := decide (0 ≤ node) && decide (node < n) && decide (0 ≤ p) && decide (p ≤ q) && decide (q ≤ (m : Int))

set_option maxRecDepth 100000 in
set_option maxHeartbeats 1000000 in
theorem ticks_ask (A : Option Addr) (c : Nat) (n node p q : Int) (l : List Bt) (w : World) (hn : l.length ≤ 1000) (h : Lst w A l) (hm : mayB n l = true) (ha : askB n node p q l.length = false) :
    Calls Try.prog 10 #[.int .i64 n, .slice A l.length c, .int .i64 node, .int .i64 p, .int .i64 q] w fun e w' => e = .returned (.tuple #[.int .i64 0, .int .i64 1]) ∧ Below w.heap.size w w' := by
  have HC := Lib.hid (check_any A c n l w hn h true hm)
  have hz : okE true = 0 := rfl
  rw [hz] at HC
  clear h hm hz
  unfold askB at ha
  by_cases b0 : node < 0
  · have e1 : decide (node < 0) = true := by simpa using b0
    clear ha
    go_enter Try.func10, Try.ntmps10
    go_wp2_with fail
    refine HC.out.mono ?_
    rintro e w1 ⟨rfl, hb1⟩
    have HB1 := Lib.hid hb1
    clear hb1 HC
    go_wp2_with fail
    go_ret2
    exact ⟨rfl, HB1.out⟩
  have e1 : decide (node < 0) = false := by simpa using b0
  by_cases b1 : n ≤ node
  · have e2 : decide (n ≤ node) = true := by simpa using b1
    clear ha
    go_enter Try.func10, Try.ntmps10
    go_wp2_with fail
    refine HC.out.mono ?_
    rintro e w1 ⟨rfl, hb1⟩
    have HB1 := Lib.hid hb1
    clear hb1 HC
    go_wp2_with fail
    go_ret2
    exact ⟨rfl, HB1.out⟩
  have e2 : decide (n ≤ node) = false := by simpa using b1
  by_cases b2 : p < 0
  · have e3 : decide (p < 0) = true := by simpa using b2
    clear ha
    go_enter Try.func10, Try.ntmps10
    go_wp2_with fail
    refine HC.out.mono ?_
    rintro e w1 ⟨rfl, hb1⟩
    have HB1 := Lib.hid hb1
    clear hb1 HC
    go_wp2_with fail
    go_ret2
    exact ⟨rfl, HB1.out⟩
  have e3 : decide (p < 0) = false := by simpa using b2
  by_cases b3 : q < p
  · have e4 : decide (q < p) = true := by simpa using b3
    clear ha
    go_enter Try.func10, Try.ntmps10
    go_wp2_with fail
    refine HC.out.mono ?_
    rintro e w1 ⟨rfl, hb1⟩
    have HB1 := Lib.hid hb1
    clear hb1 HC
    go_wp2_with fail
    go_ret2
    exact ⟨rfl, HB1.out⟩
  have e4 : decide (q < p) = false := by simpa using b3
  by_cases b4 : (l.length : Int) < q
  · have e5 : decide ((l.length : Int) < q) = true := by simpa using b4
    clear ha
    go_enter Try.func10, Try.ntmps10
    go_wp2_with fail
    refine HC.out.mono ?_
    rintro e w1 ⟨rfl, hb1⟩
    have HB1 := Lib.hid hb1
    clear hb1 HC
    go_wp2_with fail
    go_ret2
    exact ⟨rfl, HB1.out⟩
  have e5 : decide ((l.length : Int) < q) = false := by simpa using b4
  exfalso
  have g0 : decide (0 ≤ node) = true := by simp; omega
  have g1 : decide (node < n) = true := by simp; omega
  have g2 : decide (0 ≤ p) = true := by simp; omega
  have g3 : decide (p ≤ q) = true := by simp; omega
  have g4 : decide (q ≤ (l.length : Int)) = true := by simp; omega
  rw [g0, g1, g2, g3, g4] at ha
  cases ha

/-- A node's ticks, or ErrState. -/
def ticksV (l : List Bt) (v p q : Nat) : Value := .tuple #[.int .i64 (if tkB l v p q then tkV l v p q else 0), .int .i64 (if tkB l v p q then 0 else 7)]

set_option maxRecDepth 100000 in
set_option maxHeartbeats 2000000 in
theorem ticks_yes (A : Option Addr) (c n v p q : Nat) (l : List Bt) (w : World) (h : Lst w A l) (hm : mayB n l = true) (hv : v < n) (hp : p ≤ q) (hq : q ≤ l.length) :
    Calls Try.prog 10 #[.int .i64 n, .slice A l.length c, .int .i64 v, .int .i64 p, .int .i64 q] w fun e w' => e = .returned (ticksV l v p q) ∧ Below w.heap.size w w' := by
  obtain ⟨hn1, hn2, hl, hk⟩ := (mayB_iff n l).1 hm
  have HC := Lib.hid (check_any A c n l w (by omega) h true hm)
  have hz : okE true = 0 := rfl
  rw [hz] at HC
  have HCO := Lib.hid (fun (W : World) (hW : Below w.heap.size w W) => counted_any A c n l W hl (by omega) (by omega) hk (h.on hW))
  have HV : Hid (ticksV l v p q = .tuple #[.int .i64 (if tkB l v p q then tkV l v p q else 0), .int .i64 (if tkB l v p q then 0 else 7)]) := Lib.hid rfl
  have e1 : decide ((v : Int) < 0) = false := by simp
  have e2 : decide ((n : Int) ≤ (v : Int)) = false := by simp; omega
  have e3 : decide ((p : Int) < 0) = false := by simp
  have e4 : decide ((q : Int) < (p : Int)) = false := by simp; omega
  have e5 : decide ((l.length : Int) < (q : Int)) = false := by simp; omega
  clear h hm hz hk
  go_enter Try.func10, Try.ntmps10
  go_wp2_with fail
  refine HC.out.mono ?_
  rintro e w1 ⟨rfl, hb1⟩
  have HB1 := Lib.hid hb1
  have HC1 := Lib.hid (HCO.out w1 hb1)
  clear hb1 HC HCO
  go_wp2_with fail
  refine HC1.out.mono ?_
  rintro e w2 ⟨g, cap, rfl, hg, hb2⟩
  clear e1 e2 e3 e4 e5 HC1
  have HB2 : Hid (Below w.heap.size w w2) := Lib.hid (HB1.out.trans (hb2.mono HB1.out.size))
  obtain ⟨bq, cq, hrq, _, hbq⟩ := hg.row q (by omega)
  obtain ⟨bp, cp, hrp, _, hbp⟩ := hg.row p (by omega)
  have hcap := hg.cap.1
  obtain ⟨x0, x1, x2⟩ := hbq.2.2 v hv
  obtain ⟨y0, y1, y2⟩ := hbp.2.2 v hv
  have eq1 : nth (rowL n l q) v = cntAt l q v := rowL_at n l q v hv
  have eq2 : nth (rowL n l p) v = cntAt l p v := rowL_at n l p v hv
  rw [eq1] at x0 x1 x2
  rw [eq2] at y0 y1 y2
  have HS := Lib.hid (fun W => since_tk l v p q W (by omega) (by omega))
  have RQ := fun d os => cell_regrown hrq d os
  have RP := fun d os => cell_regrown hrp d os
  have X0 := fun d os => cell_regrown x0 d os
  have X1 := fun d os => cell_regrown x1 d os
  have X2 := fun d os => cell_regrown x2 d os
  have Y0 := fun d os => cell_regrown y0 d os
  have Y1 := fun d os => cell_regrown y1 d os
  have Y2 := fun d os => cell_regrown y2 d os
  generalize cntAt l q v = cq' at *
  generalize cntAt l p v = cp' at *
  have i0 : (0 : Int) ≤ (q : Int) := by omega
  have i1 : (q : Int) < ((l.length : Int) + 1) := by omega
  have i2 : (0 : Int) ≤ (p : Int) := by omega
  have i3 : (p : Int) < ((l.length : Int) + 1) := by omega
  have i4 : (0 : Int) ≤ (v : Int) := by omega
  have i5 : (v : Int) < (n : Int) := by omega
  clear hrq hrp x0 x1 x2 y0 y1 y2 eq1 eq2 hbq hbp hg hb2
  rcases hB : tkB l v p q with _ | _
  · rw [hB] at HV HS
    simp only [Bool.false_eq_true, if_false] at HS
    go_upto_region 7 with (fail)
    refine q_enter (by kernel_rfl) (by kernel_rfl) ?_
    iterate 20 (refine q_step ?_; intro K hK; go_simp; first | (refine hK _ ?_; clear hK K) | (refine ⟨_, fun p => Calls.regrown_of (by with_reducible exact HS.out _), hK _ ?_⟩; clear hK K))
    refine q_nil ?_
    intro wz hbz
    have HZ : Hid (Below w.heap.size w wz) := Lib.hid (HB2.out.trans (hbz.mono HB2.out.size))
    clear hbz
    go_wp2_with fail
    go_ret2
    exact ⟨by rw [HV.out]; rfl, HZ.out⟩
  · rw [hB] at HV HS
    simp only [if_true] at HS
    go_upto_region 7 with (fail)
    refine q_enter (by kernel_rfl) (by kernel_rfl) ?_
    iterate 20 (refine q_step ?_; intro K hK; go_simp; first | (refine hK _ ?_; clear hK K) | (refine ⟨_, fun p => Calls.regrown_of (by with_reducible exact HS.out _), hK _ ?_⟩; clear hK K))
    refine q_nil ?_
    intro wz hbz
    have HZ : Hid (Below w.heap.size w wz) := Lib.hid (HB2.out.trans (hbz.mono HB2.out.size))
    clear hbz
    go_wp2_with fail
    go_ret2
    exact ⟨by rw [HV.out]; rfl, HZ.out⟩
end Go.Proofs.Ytmbapcdchaamfaa
