/-
  The walks of ends, strays, Far, Near.
-/
import Derived.Test.YtmbapcdchaamfaaTicks
namespace Go.Proofs.Ytmbapcdchaamfaa
open Go.Sort Go.RowKit Go.Proofs.Ytmbapcdchaamfaa.Pure

theorem if_min (x lo : Int) : (if x < lo then x else lo) = min lo x := by omega
theorem if_max (x hi : Int) : (if hi < x then x else hi) = max hi x := by omega

set_option maxRecDepth 100000 in
set_option maxHeartbeats 2000000 in
theorem ends_any {N : Int} (b1 b2 c1 c2 n p q : Nat) (l : List Bt) (w : World) (hn : n ≤ 64) (hp : p ≤ q) (hq : q ≤ 400) (hk : ∀ j, j < q → okAt N l j = true) (h1 : RowAt w b1 n (rowL n l p)) (h2 : RowAt w b2 n (rowL n l q)) :
    Calls Try.prog 34 #[.slice (some ⟨b1, 0, none⟩) n c1, .slice (some ⟨b2, 0, none⟩) n c2] w fun e w' => e = .returned (.tuple #[.int .i64 (lowHigh l p q n).1, .int .i64 (lowHigh l p q n).2]) ∧ Below w.heap.size w w' := by
  have H1 := Lib.hid h1
  have H2 := Lib.hid h2
  have HSM := Lib.hid (fun m => lowHigh_small hp hq hk m)
  have HTK := Lib.hid (fun v (hb : tkB l v p q = true) => tkV_le hp hk hb)
  have HS := Lib.hid (fun (v : Int) W => since_tk l v p q W (by omega) hq)
  have HN1 : Hid (∀ v : Nat, v < n → nth (rowL n l p) v = cntAt l p v) := Lib.hid (fun v hv => rowL_at n l p v hv)
  have HN2 : Hid (∀ v : Nat, v < n → nth (rowL n l q) v = cntAt l q v) := Lib.hid (fun v hv => rowL_at n l q v hv)
  clear h1 h2 hk
  go_enter Try.func34, Try.ntmps34
  go_wp2_with fail
  go_loopw [6, 7, 14] (fun a b i wr => ∃ v : Nat, i = .int .i64 v ∧ v ≤ n ∧ a = .int .i64 (lowHigh l p q v).1 ∧ b = .int .i64 (lowHigh l p q v).2 ∧ Hid (Below w.heap.size w wr)) (fun _ _ i _ => n - (intOf i).toNat)
  case atStart => exact ⟨0, by go_num, Nat.zero_le _, rfl, rfl, Lib.hid (Below.refl _ _)⟩
  case round =>
    obtain ⟨v, rfl, hv, rfl, rfl, hb⟩ := hrel
    by_cases hlt : v < n
    · have HSUC : Hid (lowHigh l p q (v + 1) = if tkB l v p q then (min (lowHigh l p q v).1 (tkV l v p q), max (lowHigh l p q v).2 (tkV l v p q)) else lowHigh l p q v) := Lib.hid rfl
      have hs1 := HSM.out v
      generalize lowHigh l p q v = LH at *
      obtain ⟨lo, hi⟩ := LH
      simp only at hs1
      obtain ⟨x0, x1, x2⟩ := (H2.out.on hb.out).2.2 v hlt
      obtain ⟨y0, y1, y2⟩ := (H1.out.on hb.out).2.2 v hlt
      rw [HN2.out v hlt] at x0 x1 x2
      rw [HN1.out v hlt] at y0 y1 y2
      have HSV := Lib.hid (HS.out v)
      have hs2 := HTK.out v
      generalize cntAt l q v = cq at *
      generalize cntAt l p v = cp at *
      generalize tkV l v p q = x at *
      obtain ⟨ct, cf, cd⟩ := cq
      obtain ⟨dt, df, dd⟩ := cp
      simp only at x0 x1 x2 y0 y1 y2
      have i4 : (0 : Int) ≤ (v : Int) := by omega
      have i5 : (v : Int) < (n : Int) := by omega
      have hsz := hb.out.size
      go_upto_region 5 with (fail)
      have HB1 : Hid (Below w.heap.size w (wr.alloc (.cells #[.int .i64 ct, .int .i64 cf, .bool cd] 53))) := Lib.hid (hb.out.alloc hsz _)
      have z0 : (wr.alloc (.cells #[.int .i64 ct, .int .i64 cf, .bool cd] 53)).cell? ⟨wr.heap.size, 0, none⟩ = some (.int .i64 ct) := by go_simp
      have z1 : (wr.alloc (.cells #[.int .i64 ct, .int .i64 cf, .bool cd] 53)).cell? ⟨wr.heap.size, 1, none⟩ = some (.int .i64 cf) := by go_simp
      have z2 : (wr.alloc (.cells #[.int .i64 ct, .int .i64 cf, .bool cd] 53)).cell? ⟨wr.heap.size, 2, none⟩ = some (.bool cd) := by go_simp
      have hcl : b1 < wr.heap.size := World.block_lt_of_cell? wr _ y0
      have y0' := (World.cell?_alloc_lt wr (.cells #[.int .i64 ct, .int .i64 cf, .bool cd] 53) ⟨b1, v * 3, none⟩ hcl).trans y0
      have y1' := (World.cell?_alloc_lt wr (.cells #[.int .i64 ct, .int .i64 cf, .bool cd] 53) ⟨b1, v * 3 + 1, none⟩ hcl).trans y1
      have y2' := (World.cell?_alloc_lt wr (.cells #[.int .i64 ct, .int .i64 cf, .bool cd] 53) ⟨b1, v * 3 + 2, none⟩ hcl).trans y2
      clear x0 x1 x2 y0 y1 y2 hcl hb hsz
      generalize wr.alloc (.cells #[.int .i64 ct, .int .i64 cf, .bool cd] 53) = w1 at *
      generalize wr.heap.size = nb at *
      have Z0 := fun d os => cell_regrown z0 d os
      have Z1 := fun d os => cell_regrown z1 d os
      have Z2 := fun d os => cell_regrown z2 d os
      have Y0 := fun d os => cell_regrown y0' d os
      have Y1 := fun d os => cell_regrown y1' d os
      have Y2 := fun d os => cell_regrown y2' d os
      clear z0 z1 z2 y0' y1' y2'
      rcases hB : tkB l v p q with _ | _
      · rw [hB] at HSV HSUC
        simp only [Bool.false_eq_true, if_false] at HSV HSUC
        clear hs2
        refine q_enter (by kernel_rfl) (by kernel_rfl) ?_
        iterate 11 (refine q_step ?_; intro K hK; go_simp; first | (refine hK _ ?_; clear hK K) | (refine ⟨_, fun p => Calls.regrown_of (by with_reducible exact HSV.out _), hK _ ?_⟩; clear hK K))
        refine q_nil ?_
        intro wz hbz
        have HZ : Hid (Below w.heap.size w wz) := Lib.hid (HB1.out.trans (hbz.mono HB1.out.size))
        clear hbz Z0 Z1 Z2 Y0 Y1 Y2
        go_wp2_with fail
        go_roundw
        case rel => exact ⟨v + 1, by go_num, by omega, by rw [HSUC.out], by rw [HSUC.out], HZ⟩
        case measure => simp [intOf]; omega
      · rw [hB] at HSV HSUC
        simp only [if_true] at HSV HSUC
        have hs3 := hs2 hB
        clear hs2
        refine q_enter (by kernel_rfl) (by kernel_rfl) ?_
        iterate 11 (refine q_step ?_; intro K hK; go_simp; first | (refine hK _ ?_; clear hK K) | (refine ⟨_, fun p => Calls.regrown_of (by with_reducible exact HSV.out _), hK _ ?_⟩; clear hK K))
        refine q_nil ?_
        intro wz hbz
        have HZ : Hid (Below w.heap.size w wz) := Lib.hid (HB1.out.trans (hbz.mono HB1.out.size))
        clear hbz Z0 Z1 Z2 Y0 Y1 Y2
        go_wp2_with fail
        go_roundw
        case rel => exact ⟨v + 1, by go_num, by omega, by rw [HSUC.out, if_min], by rw [HSUC.out, if_max], HZ⟩
        case measure => simp [intOf]; omega
    · obtain rfl : v = n := by omega
      go_wp2_with fail
      go_ret2
      exact ⟨rfl, hb.out⟩

/-- From each place to this one ticks differ by no more than they may. -/
def allFT (n : Nat) (l : List Bt) (d r : Int) (q : Nat) : Bool := (List.range (q + 1)).all fun p => okFT n l d r p q
theorem allFT_iff (n : Nat) (l : List Bt) (d r : Int) (q : Nat) : allFT n l d r q = true ↔ ∀ p, p ≤ q → okFT n l d r p q = true := by
  unfold allFT
  simp only [List.all_eq_true, List.mem_range]
  exact ⟨fun h p hp => h p (by omega), fun h p hp => h p (by omega)⟩
theorem near_allFT (n : Nat) (l : List Bt) (d r : Int) (k : Nat) : nearB n l d r k = true ↔ ∀ q, q ≤ k → allFT n l d r q = true := by
  rw [nearB_iff]
  exact ⟨fun h q hq => (allFT_iff n l d r q).2 fun p hp => h p q hp hq, fun h p q hp hq => (allFT_iff n l d r q).1 (h q hq) p hp⟩

set_option maxRecDepth 100000 in
set_option maxHeartbeats 2000000 in
theorem strays_any {N : Int} (B g cap n q : Nat) (l : List Bt) (d r : Int) (w : World) (hn : n ≤ 64) (hq : q ≤ 400) (hk : ∀ j, j < q → okAt N l j = true) (h : Grid w B n l (q + 1) g cap)
    (hd : 0 ≤ d ∧ d ≤ 1099511627776) (hr : 1 ≤ r ∧ r ≤ 1099511627776) (T : Bool) (hT : allFT n l d r q = T) :
    Calls Try.prog 24 #[.slice (some ⟨g, 0, none⟩) (q + 1) cap, .int .i64 d, .int .i64 r] w fun e w' => e = .returned (.bool (!T)) ∧ Below w.heap.size w w' := by
  have H := Lib.hid h
  have HT1 : Hid (T = true ↔ ∀ p, p ≤ q → okFT n l d r p q = true) := Lib.hid (by rw [← hT]; exact allFT_iff n l d r q)
  have HE := Lib.hid (fun (p b1 b2 c1 c2 : Nat) (W : World) (hp : p ≤ q) (h1 : RowAt W b1 n (rowL n l p)) (h2 : RowAt W b2 n (rowL n l q)) => ends_any b1 b2 c1 c2 n p q l W hn hp hq hk h1 h2)
  have HSM := Lib.hid (fun (p : Nat) (hp : p ≤ q) => lowHigh_small hp hq hk n)
  have HOK := Lib.hid (fun (p : Nat) (hp : p ≤ q) => okFT_lowHigh hp hq hk n hd.1 hr.1)
  have HRE := Lib.hid (fun (x : Int) (W : World) (hx : 0 ≤ x ∧ x ≤ 400) => reach_any x d r W (by omega) hd hr)
  obtain ⟨bq, cq, hrq, _, hbq⟩ := h.row q (Nat.lt_succ_self q)
  have HBQ := Lib.hid hbq
  have hcap := h.cap.1
  clear hT hk h hbq
  have i0 : (0 : Int) ≤ (q : Int) := by omega
  go_enter Try.func24, Try.ntmps24
  go_wp2_with fail
  go_loopw [20] (fun i wr => ∃ p : Nat, i = .int .i64 p ∧ p ≤ q + 1 ∧ Hid (∀ x, x < p → okFT n l d r x q = true) ∧ Hid (Below w.heap.size w wr)) (fun i _ => q + 1 - (intOf i).toNat)
  case atStart => exact ⟨0, by go_num, Nat.zero_le _, Lib.hid (fun x hx => absurd hx (Nat.not_lt_zero x)), Lib.hid (Below.refl _ _)⟩
  case round =>
    clear hrq
    obtain ⟨p, rfl, hp, hok, hb⟩ := hrel
    by_cases hlt : p ≤ q
    · have hg := H.out.on hb.out
      obtain ⟨bp, cp, hrp, _, hbp⟩ := hg.row p (by omega)
      have HC := Lib.hid (HE.out p bp bq cp cq wr hlt hbp (HBQ.out.on hb.out))
      have hs := HSM.out p hlt
      have HO := Lib.hid (HOK.out p hlt)
      generalize lowHigh l p q n = LH at *
      obtain ⟨lo, hi⟩ := LH
      simp only at hs
      have HR1 := Lib.hid (fun W => HRE.out lo W ⟨hs.1, hs.2.1⟩)
      have hq0 : (0 : Int) ≤ lo / r := Int.ediv_nonneg hs.1 (by omega)
      generalize lo / r = lr at *
      have i2 : (0 : Int) ≤ (p : Int) := by omega
      have i3 : (p : Int) < (q : Int) + 1 := by omega
      clear hg hbp
      have HST : Hid (okFT n l d r p q = true → ∀ x, x < p + 1 → okFT n l d r x q = true) := Lib.hid (fun h x hx => by
        rcases Nat.lt_or_ge x p with hxp | hxp
        · exact hok.out x hxp
        · obtain rfl : x = p := by omega
          exact h)
      have HFF : Hid (okFT n l d r p q = false → T = false) := Lib.hid (fun h => by
        rcases T with _ | _
        · rfl
        · rw [HT1.out.1 rfl p hlt] at h; cases h)
      have hlt' : decide ((p : Int) < (q : Int) + 1) = true := by simp; omega
      by_cases hst : lo + d + lr < hi
      · have hTF : T = false := HFF.out (by rw [HO.out]; simp; omega)
        subst hTF
        have d1 : decide (lo + d + lr < hi) = true := by simpa using hst
        go_wp2_with fail
        refine HC.out.mono ?_
        rintro e w1 ⟨rfl, hb1⟩
        have HB1 : Hid (Below w.heap.size w w1) := Lib.hid (hb.out.trans (hb1.mono hb.out.size))
        clear hb1 hrp
        go_wp2_with fail
        refine (HR1.out _).mono ?_
        rintro e w2 ⟨rfl, hb2⟩
        have HB2 : Hid (Below w.heap.size w w2) := Lib.hid (HB1.out.trans (hb2.mono HB1.out.size))
        clear hb2
        go_wp2_with fail
        go_ret
        exact ⟨rfl, HB2.out⟩
      · have hok' := HST.out (by rw [HO.out]; simp; omega)
        have HOK' := Lib.hid hok'
        have d1 : decide (lo + d + lr < hi) = false := by simpa using hst
        clear hok'
        go_wp2_with fail
        refine HC.out.mono ?_
        rintro e w1 ⟨rfl, hb1⟩
        have HB1 : Hid (Below w.heap.size w w1) := Lib.hid (hb.out.trans (hb1.mono hb.out.size))
        clear hb1 hrp
        go_wp2_with fail
        refine (HR1.out _).mono ?_
        rintro e w2 ⟨rfl, hb2⟩
        have HB2 : Hid (Below w.heap.size w w2) := Lib.hid (HB1.out.trans (hb2.mono HB1.out.size))
        clear hb2
        go_wp2_with fail
        go_roundw
        case rel => exact ⟨p + 1, by go_num, by omega, HOK', HB2⟩
        case measure => simp [intOf]; omega
    · have hTT : T = true := HT1.out.2 fun x hx => hok.out x (by omega)
      subst hTT
      have hlt' : decide ((p : Int) < (q : Int) + 1) = false := by simp; omega
      go_wp2_with fail
      go_ret
      exact ⟨rfl, hb.out⟩
end Go.Proofs.Ytmbapcdchaamfaa
