/-
  The walk of the document's May.
-/
import Derived.Test.YtmbapcdchaamfaaTwo
namespace Go.Proofs.Ytmbapcdchaamfaa
open Go.Sort Go.RowKit Go.Proofs.Ytmbapcdchaamfaa.Pure

/-- A beat that may be, as the document tells it. -/
theorem okAt_doc {n : Int} {l : List Bt} {i : Nat} (h : ∀ j, j < i → okAt n l j = true) :
    okAt n l i = (decide (0 ≤ (bt l i).n) && decide ((bt l i).n < n) && decide (0 ≤ (bt l i).k) && decide ((bt l i).k ≤ 2) && (upAt l (bt l i).n i != ((bt l i).k == 2))) := by
  rw [up_down h]
  unfold okAt mayAt
  generalize (cntAt l i (bt l i).n).d = d
  generalize (bt l i).k = k
  rcases decide (0 ≤ (bt l i).n) with _ | _
  · rfl
  rcases decide ((bt l i).n < n) with _ | _
  · rfl
  by_cases k0 : k = 0
  · subst k0; cases d <;> rfl
  · by_cases k1 : k = 1
    · subst k1; cases d <;> rfl
    · by_cases k2 : k = 2
      · subst k2; cases d <;> rfl
      · have : decide (0 ≤ k) = false ∨ decide (k ≤ 2) = false := by simp; omega
        simp only [k0, k1, k2, or_self, if_false, Bool.and_false]
        rcases this with h | h <;> rw [h] <;> simp

set_option maxRecDepth 100000 in
set_option maxHeartbeats 2000000 in
theorem rmay_any (A : Option Addr) (c : Nat) (n : Int) (l : List Bt) (w : World) (hn : l.length ≤ 1000) (h : Lst w A l) (L : Bool) (hL : mayB n l = L) :
    Calls Try.prog 14 #[.int .i64 n, .slice A l.length c] w fun e w' => e = .returned (.bool L) ∧ Below w.heap.size w w' := by
  have H := Lib.hid h
  have HL : Hid (L = true ↔ May n l) := Lib.hid (by rw [← hL]; exact mayB_iff n l)
  have HF : Hid (¬ May n l → L = false) := Lib.hid (fun hm => by
    rcases L with _ | _
    · rfl
    · exact absurd (HL.out.1 rfl) hm)
  clear h hL
  by_cases g1 : n < 1
  · have hb : L = false := HF.out fun h => by have := h.1; omega
    subst hb
    have d1 : decide (n < 1) = true := by simpa using g1
    go_enter Try.func14, Try.ntmps14
    go_wp2_with fail
    go_ret
    exact ⟨rfl, Below.refl _ _⟩
  have d1 : decide (n < 1) = false := by simpa using g1
  by_cases g2 : 64 < n
  · have hb : L = false := HF.out fun h => by have := h.2.1; omega
    subst hb
    have d2 : decide (64 < n) = true := by simpa using g2
    go_enter Try.func14, Try.ntmps14
    go_wp2_with fail
    go_ret
    exact ⟨rfl, Below.refl _ _⟩
  have d2 : decide (64 < n) = false := by simpa using g2
  by_cases g3 : 400 < l.length
  · have hb : L = false := HF.out fun h => by have := h.2.2.1; omega
    subst hb
    have d3 : decide ((400 : Int) < (l.length : Int)) = true := by simp; omega
    go_enter Try.func14, Try.ntmps14
    go_wp2_with fail
    go_ret
    exact ⟨rfl, Below.refl _ _⟩
  have d3 : decide ((400 : Int) < (l.length : Int)) = false := by simp; omega
  have HM : Hid ((∀ i, i < l.length → okAt n l i = true) → May n l) := Lib.hid (fun h => ⟨by omega, by omega, by omega, h⟩)
  clear g1 g2 g3
  go_enter Try.func14, Try.ntmps14
  go_wp2_with fail
  clear d1 d2 d3
  go_loopw [5] (fun i wr => ∃ k : Nat, i = .int .i64 k ∧ k ≤ l.length ∧ Hid (∀ j, j < k → okAt n l j = true) ∧ Hid (Below w.heap.size w wr)) (fun i _ => l.length - (intOf i).toNat)
  case atStart => exact ⟨0, rfl, Nat.zero_le _, Lib.hid (fun j hj => absurd hj (Nat.not_lt_zero j)), Lib.hid (Below.refl _ _)⟩
  case round =>
    obtain ⟨k, rfl, hk, hok, hb⟩ := hrel
    by_cases hlt : k < l.length
    · have HK := Lib.hid (H.out.on hb.out)
      obtain ⟨ad, rfl, hlo, h1⟩ := HK.out k hlt
      obtain ⟨a0, a1⟩ := h1.flat
      have HC : Hid (∀ p : Regrown, Calls Try.prog 27 #[.slice (some ad) l.length c, .int .i64 (bt l k).n, .int .i64 k] (grow (redrawn wr p.d) p.os) fun e w' => e = .returned (.bool (upAt l (bt l k).n k)) ∧ Below (grow (redrawn wr p.d) p.os).heap.size (grow (redrawn wr p.d) p.os) w') :=
        Lib.hid fun p => (up_any (some ad) c l (bt l k).n k _ hn (HK.out.on (below_regrown wr p.d p.os)) (by omega)).mono fun e w' ⟨h1, h2⟩ => ⟨h1, by rw [← h2]; exact Below.refl _ _⟩
      have HD := Lib.hid (okAt_doc (n := n) (l := l) (i := k) hok.out)
      have HB : Hid (okAt n l k = false → L = false) := Lib.hid (fun h => HF.out fun hm => by rw [hm.2.2.2 k hlt] at h; cases h)
      have HS : Hid (okAt n l k = true → ∀ j, j < k + 1 → okAt n l j = true) := Lib.hid (fun h j hj => by
        rcases Nat.lt_or_ge j k with hjk | hjk
        · exact hok.out j hjk
        · obtain rfl : j = k := by omega
          exact h)
      generalize okAt n l k = ok at *
      generalize upAt l (bt l k).n k = u at *
      generalize (bt l k).n = xn at *
      generalize (bt l k).k = xk at *
      have A0 := fun d os => cell_regrown a0 d os
      have A1 := fun d os => cell_regrown a1 d os
      have k0 : (0 : Int) ≤ (k : Int) := by omega
      have k1 : (k : Int) < (l.length : Int) := by omega
      clear h1 a0 a1
      by_cases b1 : xn < 0
      · have e1 : decide (xn < 0) = true := by simpa using b1
        have hL : L = false := HB.out (by
          rw [HD.out]
          have : decide (0 ≤ xn) = false := by simp; omega
          rw [this]
          rfl)
        subst hL
        go_wp2_with fail
        refine q_enter (by kernel_rfl) (by kernel_rfl) ?_
        iterate 48 (refine q_step ?_; intro K hK; go_simp; first | (refine hK _ ?_; clear hK K) | (refine ⟨_, fun p => Calls.regrown_of (by with_reducible exact HC.out p), hK _ ?_⟩; clear hK K))
        refine q_nil ?_
        intro wz hbz
        have HZ : Hid (Below w.heap.size w wz) := Lib.hid (hb.out.trans (hbz.mono hb.out.size))
        clear hbz
        go_wp2_with fail
        go_ret
        exact ⟨rfl, HZ.out⟩
      have e1 : decide (xn < 0) = false := by simpa using b1
      by_cases b2 : n ≤ xn
      · have e2 : decide (n ≤ xn) = true := by simpa using b2
        have hL : L = false := HB.out (by
          rw [HD.out]
          have : decide (xn < n) = false := by simp; omega
          simp [this])
        subst hL
        go_wp2_with fail
        refine q_enter (by kernel_rfl) (by kernel_rfl) ?_
        iterate 48 (refine q_step ?_; intro K hK; go_simp; first | (refine hK _ ?_; clear hK K) | (refine ⟨_, fun p => Calls.regrown_of (by with_reducible exact HC.out p), hK _ ?_⟩; clear hK K))
        refine q_nil ?_
        intro wz hbz
        have HZ : Hid (Below w.heap.size w wz) := Lib.hid (hb.out.trans (hbz.mono hb.out.size))
        clear hbz
        go_wp2_with fail
        go_ret
        exact ⟨rfl, HZ.out⟩
      have e2 : decide (n ≤ xn) = false := by simpa using b2
      by_cases b3 : xk < 0
      · have e3 : decide (xk < 0) = true := by simpa using b3
        have hL : L = false := HB.out (by
          rw [HD.out]
          have : decide (0 ≤ xk) = false := by simp; omega
          simp [this])
        subst hL
        go_wp2_with fail
        refine q_enter (by kernel_rfl) (by kernel_rfl) ?_
        iterate 48 (refine q_step ?_; intro K hK; go_simp; first | (refine hK _ ?_; clear hK K) | (refine ⟨_, fun p => Calls.regrown_of (by with_reducible exact HC.out p), hK _ ?_⟩; clear hK K))
        refine q_nil ?_
        intro wz hbz
        have HZ : Hid (Below w.heap.size w wz) := Lib.hid (hb.out.trans (hbz.mono hb.out.size))
        clear hbz
        go_wp2_with fail
        go_ret
        exact ⟨rfl, HZ.out⟩
      have e3 : decide (xk < 0) = false := by simpa using b3
      by_cases b4 : 2 < xk
      · have e4 : decide (2 < xk) = true := by simpa using b4
        have hL : L = false := HB.out (by
          rw [HD.out]
          have : decide (xk ≤ 2) = false := by simp; omega
          simp [this])
        subst hL
        go_wp2_with fail
        refine q_enter (by kernel_rfl) (by kernel_rfl) ?_
        iterate 48 (refine q_step ?_; intro K hK; go_simp; first | (refine hK _ ?_; clear hK K) | (refine ⟨_, fun p => Calls.regrown_of (by with_reducible exact HC.out p), hK _ ?_⟩; clear hK K))
        refine q_nil ?_
        intro wz hbz
        have HZ : Hid (Below w.heap.size w wz) := Lib.hid (hb.out.trans (hbz.mono hb.out.size))
        clear hbz
        go_wp2_with fail
        go_ret
        exact ⟨rfl, HZ.out⟩
      have e4 : decide (2 < xk) = false := by simpa using b4
      have HO : Hid (ok = (u != (xk == 2))) := Lib.hid (by
        rw [HD.out]
        have q1 : decide (0 ≤ xn) = true := by simp; omega
        have q2 : decide (xn < n) = true := by simp; omega
        have q3 : decide (0 ≤ xk) = true := by simp; omega
        have q4 : decide (xk ≤ 2) = true := by simp; omega
        rw [q1, q2, q3, q4]
        rfl)
      clear b1 b2 b3 b4 HD
      generalize hK2 : (xk == 2) = e2' at *
      rcases hu : (u == e2') with _ | _
      · have hok' : ok = true := by rw [HO.out]; cases u <;> cases e2' <;> first | rfl | cases hu
        go_wp2_with fail
        refine q_enter (by kernel_rfl) (by kernel_rfl) ?_
        iterate 48 (refine q_step ?_; intro K hK; go_simp; first | (refine hK _ ?_; clear hK K) | (refine ⟨_, fun p => Calls.regrown_of (by with_reducible exact HC.out p), hK _ ?_⟩; clear hK K))
        refine q_nil ?_
        intro wz hbz
        have HZ : Hid (Below w.heap.size w wz) := Lib.hid (hb.out.trans (hbz.mono hb.out.size))
        have HS' := Lib.hid (HS.out hok')
        clear hbz
        go_wp2_with fail
        go_roundw
        case rel => exact ⟨k + 1, by go_num, by omega, HS', HZ⟩
        case measure => simp [intOf]; omega
      · have hL : L = false := HB.out (by rw [HO.out]; cases u <;> cases e2' <;> first | rfl | cases hu)
        subst hL
        go_wp2_with fail
        refine q_enter (by kernel_rfl) (by kernel_rfl) ?_
        iterate 48 (refine q_step ?_; intro K hK; go_simp; first | (refine hK _ ?_; clear hK K) | (refine ⟨_, fun p => Calls.regrown_of (by with_reducible exact HC.out p), hK _ ?_⟩; clear hK K))
        refine q_nil ?_
        intro wz hbz
        have HZ : Hid (Below w.heap.size w wz) := Lib.hid (hb.out.trans (hbz.mono hb.out.size))
        clear hbz
        go_wp2_with fail
        go_ret
        exact ⟨rfl, HZ.out⟩
    · have hk' : k = l.length := by omega
      have hL : L = true := HL.out.2 (HM.out fun i hi => hok.out i (by omega))
      subst hL
      have e0 : decide ((k : Int) < (l.length : Int)) = false := by simp; omega
      clear hk'
      go_wp2_with fail
      go_ret
      exact ⟨rfl, hb.out⟩
end Go.Proofs.Ytmbapcdchaamfaa
