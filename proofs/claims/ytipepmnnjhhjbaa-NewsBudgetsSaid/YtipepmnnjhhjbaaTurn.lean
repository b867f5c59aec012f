/-
  The walk of the order in which it is told; the document's One and May.
-/
import Derived.Test.YtipepmnnjhhjbaaCheck
namespace Go.Proofs.Ytipepmnnjhhjbaa
open Go.Sort Go.RowKit Go.Proofs.Ytipepmnnjhhjbaa.Pure

set_option maxRecDepth 100000 in
set_option maxHeartbeats 2000000 in
theorem turn_grew (x y : Td) (w : World) : Calls Try.prog 33 #[.agg #[.int .i64 x.w, .int .u64 x.i, .int .i64 x.s, .int .i64 x.l], .agg #[.int .i64 y.w, .int .u64 y.i, .int .i64 y.s, .int .i64 y.l]] w fun e w' => e = .returned (.int .i64 (cfT x y)) ∧ Grew w w' := by
  have HC := Lib.hid (fun W => cmpInt y.l x.l W)
  have HW := Lib.hid (fun W => who_grew x y W)
  have HOO : Hid (∀ (c0 c1 : Int) (W : World), Calls Try.prog 44 #[.slice (some ⟨W.heap.size, 0, none⟩) 2 2] (W.alloc (.cells #[.int .i64 c0, .int .i64 c1] 3))
      fun e w' => e = .returned (.int .i64 (firstN [c0, c1])) ∧ (W.alloc (.cells #[.int .i64 c0, .int .i64 c1] 3)) = w') := Lib.hid fun c0 c1 W =>
    or_any ⟨W.heap.size, 0, none⟩ [c0, c1] 2 _ (Nat.le_of_ble_eq_true rfl) (two_new W c0 c1 _)
  have HG : Hid (Grew w ((w.alloc (.cells #[.int .i64 x.w, .int .u64 x.i, .int .i64 x.s, .int .i64 x.l] 59)).alloc (.cells #[.int .i64 y.w, .int .u64 y.i, .int .i64 y.s, .int .i64 y.l] 59))) := Lib.hid (((Grew.refl w).alloc _).alloc _)
  have BX : Hid (Bt ((w.alloc (.cells #[.int .i64 x.w, .int .u64 x.i, .int .i64 x.s, .int .i64 x.l] 59)).alloc (.cells #[.int .i64 y.w, .int .u64 y.i, .int .i64 y.s, .int .i64 y.l] 59)) w.heap.size x) := Lib.hid ((Bt.new w x _).alloc _)
  have BY : Hid (Bt ((w.alloc (.cells #[.int .i64 x.w, .int .u64 x.i, .int .i64 x.s, .int .i64 x.l] 59)).alloc (.cells #[.int .i64 y.w, .int .u64 y.i, .int .i64 y.s, .int .i64 y.l] 59)) (w.heap.size + 1) y) := Lib.hid (by have := Bt.new (w.alloc (.cells #[.int .i64 x.w, .int .u64 x.i, .int .i64 x.s, .int .i64 x.l] 59)) y 59; simpa using this)
  have HR : Hid (cfT x y = firstN [cmpI y.l x.l, cfW x y]) := Lib.hid rfl
  rw [HR.out]
  clear HR
  generalize cmpI y.l x.l = c0 at *
  generalize cfW x y = c1 at *
  have HO := Lib.hid (fun W => HOO.out c0 c1 W)
  clear HOO
  generalize firstN [c0, c1] = F at *
  go_enter Try.func33, Try.ntmps33
  go_upto_region 1 with (fail)
  generalize (w.alloc (.cells #[.int .i64 x.w, .int .u64 x.i, .int .i64 x.s, .int .i64 x.l] 59)).alloc (.cells #[.int .i64 y.w, .int .u64 y.i, .int .i64 y.s, .int .i64 y.l] 59) = w2 at *
  obtain ⟨x0, x1, x2, x3⟩ := BX.out
  obtain ⟨y0, y1, y2, y3⟩ := BY.out
  refine z_enter [(0, true), (1, true), (2, true), (3, true), (5, true), (6, true), (4, false), (7, false), (8, false), (9, false), (10, true)] (fun w' => w'.cell? ⟨w.heap.size, 0, none⟩ = some (.int .i64 x.w) ∧ w'.cell? ⟨w.heap.size, 1, none⟩ = some (.int .u64 x.i) ∧ w'.cell? ⟨w.heap.size, 2, none⟩ = some (.int .i64 x.s) ∧ w'.cell? ⟨w.heap.size, 3, none⟩ = some (.int .i64 x.l) ∧ w'.cell? ⟨w.heap.size + 1, 0, none⟩ = some (.int .i64 y.w) ∧ w'.cell? ⟨w.heap.size + 1, 1, none⟩ = some (.int .u64 y.i) ∧ w'.cell? ⟨w.heap.size + 1, 2, none⟩ = some (.int .i64 y.s) ∧ w'.cell? ⟨w.heap.size + 1, 3, none⟩ = some (.int .i64 y.l)) (by kernel_rfl) (by kernel_rfl) (by kernel_rfl) (fun _ _ d _ _ h => by cases d <;> exact h) ⟨x0, x1, x2, x3, y0, y1, y2, y3⟩ ?_
  simp only [pickL, List.drop_succ_cons, List.drop_zero]
  have HG0 : Hid (Grew w w2.drew) := Lib.hid HG.out.drew
  have BX0 : Hid (Bt w2.drew w.heap.size x) := Lib.hid BX.out
  have BY0 : Hid (Bt w2.drew (w.heap.size + 1) y) := Lib.hid BY.out
  clear HG BX BY x0 x1 x2 x3 y0 y1 y2 y3
  generalize w2.drew = w3 at *
  iterate 6 (first | (refine' z_yes ?_ (by rfl) ?_ ?_; rotate_left; (intro w' hS; (try dsimp only at hS); go_simp; try (with_reducible rfl)); simp only [Act.put, List.setIfInBounds_toArray, List.set_cons_zero, List.set_cons_succ]) | (refine z_no (by rfl) ?_; simp only [Act.put, List.setIfInBounds_toArray, List.set_cons_zero, List.set_cons_succ]))
  refine z_mem ?_
  intro K hK
  go_simp
  refine (HC.out _).mono ?_
  rintro e w4 ⟨rfl, rfl⟩
  refine hK.out _ _ ⟨BX0.out.1, BX0.out.2.1, BX0.out.2.2.1, BX0.out.2.2.2, BY0.out.1, BY0.out.2.1, BY0.out.2.2.1, BY0.out.2.2.2⟩ ?_
  clear hK
  refine z_mem ?_
  intro K hK
  go_simp
  refine (HW.out _).mono ?_
  rintro e w4 ⟨rfl, hg4⟩
  have HG1 : Hid (Grew w w4) := Lib.hid (HG0.out.trans hg4)
  have BX1 := Lib.hid (BX0.out.on hg4.below)
  have BY1 := Lib.hid (BY0.out.on hg4.below)
  clear HG0 BX0 BY0 hg4
  refine hK.out _ _ ⟨BX1.out.1, BX1.out.2.1, BX1.out.2.2.1, BX1.out.2.2.2, BY1.out.1, BY1.out.2.1, BY1.out.2.2.1, BY1.out.2.2.2⟩ ?_
  clear hK
  refine z_mem ?_
  intro K hK
  go_simp
  have BX2 := Lib.hid (BX1.out.alloc (.cells #[.int .i64 c0, .int .i64 c1] 3))
  have BY2 := Lib.hid (BY1.out.alloc (.cells #[.int .i64 c0, .int .i64 c1] 3))
  have HG2 := Lib.hid (HG1.out.alloc (.cells #[.int .i64 c0, .int .i64 c1] 3))
  clear HG1 BX1 BY1
  refine hK.out _ _ ⟨BX2.out.1, BX2.out.2.1, BX2.out.2.2.1, BX2.out.2.2.2, BY2.out.1, BY2.out.2.1, BY2.out.2.2.1, BY2.out.2.2.2⟩ ?_
  clear hK
  refine z_mem ?_
  intro K hK
  go_simp
  refine (HO.out _).mono ?_
  rintro e w5 ⟨rfl, rfl⟩
  refine hK.out _ _ ⟨BX2.out.1, BX2.out.2.1, BX2.out.2.2.1, BX2.out.2.2.2, BY2.out.1, BY2.out.2.1, BY2.out.2.2.1, BY2.out.2.2.2⟩ ?_
  clear hK BX2 BY2
  iterate 1 (first | (refine' z_yes ?_ (by rfl) ?_ ?_; rotate_left; (intro w' hS; (try dsimp only at hS); go_simp; try (with_reducible rfl)); simp only [Act.put, List.setIfInBounds_toArray, List.set_cons_zero, List.set_cons_succ]) | (refine z_no (by rfl) ?_; simp only [Act.put, List.setIfInBounds_toArray, List.set_cons_zero, List.set_cons_succ]))
  refine z_nil ?_
  go_wp2_with fail
  go_ret
  exact ⟨rfl, HG2.out⟩

set_option maxRecDepth 100000 in
set_option maxHeartbeats 1000000 in
theorem one_any (x : Nw) (w : World) : Calls Try.prog 18 #[.agg #[.int .i64 x.w, .int .u64 x.i, .int .i64 x.s]] w fun e w' => e = .returned (.bool (oneB x)) ∧ Below w.heap.size w w' := by
  have HC := Lib.hid (fun W => rmay_any x.k W)
  have HB : Hid (Below w.heap.size w (w.alloc (.cells #[.int .i64 x.w, .int .u64 x.i, .int .i64 x.s] 27))) := Lib.hid ((Below.refl _ w).alloc (Nat.le_refl _) _)
  have HR : Hid (oneB x = (decide (0 ≤ x.w) && decide (x.w < 64) && mayK x.k)) := Lib.hid rfl
  have hki : x.k.i = x.i := rfl
  have hks : x.k.s = x.s := rfl
  rw [hki, hks] at HC
  rw [HR.out]
  clear HR hki hks
  generalize mayK x.k = M at *
  generalize x.w = xw at *
  generalize x.i = xi at *
  generalize x.s = xs at *
  go_enter Try.func18, Try.ntmps18
  go_upto_region 1 with (fail)
  have b0 : (w.alloc (.cells #[.int .i64 xw, .int .u64 xi, .int .i64 xs] 27)).cell? ⟨w.heap.size, 0, none⟩ = some (.int .i64 xw) := by go_simp
  have b1 : (w.alloc (.cells #[.int .i64 xw, .int .u64 xi, .int .i64 xs] 27)).cell? ⟨w.heap.size, 1, none⟩ = some (.int .u64 xi) := by go_simp
  have b2 : (w.alloc (.cells #[.int .i64 xw, .int .u64 xi, .int .i64 xs] 27)).cell? ⟨w.heap.size, 2, none⟩ = some (.int .i64 xs) := by go_simp
  generalize w.alloc (.cells #[.int .i64 xw, .int .u64 xi, .int .i64 xs] 27) = w1 at *
  by_cases c0 : 0 ≤ xw
  · have e0 : decide (0 ≤ xw) = true := by simpa using c0
    by_cases c1 : xw < 64
    · have e1 : decide (xw < 64) = true := by simpa using c1
      clear c0 c1
      go_wp2_with (go_at_call 37; refine (HC.out _).mono ?_; rintro e w2 ⟨rfl, hb2⟩)
      go_ret
      exact ⟨by rw [e0, e1]; cases M <;> rfl, HB.out.trans (hb2.mono HB.out.size)⟩
    · have e1 : decide (xw < 64) = false := by simpa using c1
      clear c0 c1
      go_wp2_with fail
      go_ret
      exact ⟨by rw [e0, e1]; rfl, HB.out⟩
  · have e0 : decide (0 ≤ xw) = false := by simpa using c0
    clear c0
    go_wp2_with fail
    go_ret
    exact ⟨by rw [e0]; rfl, HB.out⟩

set_option maxRecDepth 100000 in
set_option maxHeartbeats 4000000 in
theorem may_any (A : Option Addr) (c : Nat) (q : List Td) (w : World) (hn : q.length ≤ 1000) (h : Ts w A q) (L : Bool) (hL : mayQ q = L) :
    Calls Try.prog 15 #[.slice A q.length c] w fun e w' => e = .returned (.bool L) ∧ Below w.heap.size w w' := by
  have H := Lib.hid h
  have HL : Hid (L = true ↔ (∀ j, j < q.length → mayT (td q j) = true) ∧ ∀ j, j + 1 < q.length → (td q j).w < (td q (j + 1)).w) := Lib.hid (by rw [← hL]; exact mayQ_iff q)
  clear h hL
  go_enter Try.func15, Try.ntmps15
  go_wp2_with fail
  go_loopw [3] (fun i wr => ∃ k : Nat, i = .int .i64 k ∧ k ≤ q.length ∧ Hid ((∀ j, j < k → mayT (td q j) = true) ∧ ∀ j, j + 1 < k → (td q j).w < (td q (j + 1)).w) ∧ Hid (Below w.heap.size w wr)) (fun i _ => q.length - (intOf i).toNat)
  case atStart => exact ⟨0, rfl, Nat.zero_le _, Lib.hid ⟨fun j hj => absurd hj (Nat.not_lt_zero j), fun j hj => absurd hj (Nat.not_lt_zero _)⟩, Lib.hid (Below.refl _ _)⟩
  case round =>
    obtain ⟨k, rfl, hk, hok, hb⟩ := hrel
    by_cases hlt : k < q.length
    · obtain ⟨ad, rfl, hlo, h1⟩ := (H.out.on hb.out) k hlt
      obtain ⟨a0, a1, a2, a3⟩ := h1.flat
      have k0 : (0 : Int) ≤ (k : Int) := by omega
      have k1 : (k : Int) < (q.length : Int) := by omega
      have e0 : decide ((k : Int) < (q.length : Int)) = true := by simpa using k1
      have HF : Hid (mayT (td q k) = false → L = false) := Lib.hid (fun h => by
        rcases L with _ | _
        · rfl
        · have := (HL.out.1 rfl).1 k hlt
          rw [h] at this; cases this)
      have HN : Hid (0 < k → (td q k).w ≤ (td q (k - 1)).w → L = false) := Lib.hid (fun hp h => by
        rcases L with _ | _
        · rfl
        · have := (HL.out.1 rfl).2 (k - 1) (by omega)
          rw [show k - 1 + 1 = k by omega] at this
          omega)
      have HS : Hid (mayT (td q k) = true ∧ (k = 0 ∨ (td q (k - 1)).w < (td q k).w) → (∀ j, j < k + 1 → mayT (td q j) = true) ∧ ∀ j, j + 1 < k + 1 → (td q j).w < (td q (j + 1)).w) := Lib.hid (fun ⟨h, h2⟩ => by
        constructor
        · intro j hj
          rcases Nat.lt_or_ge j k with hjk | hjk
          · exact hok.out.1 j hjk
          · obtain rfl : j = k := by omega
            exact h
        · intro j hj
          rcases Nat.lt_or_ge (j + 1) k with hjk | hjk
          · exact hok.out.2 j hjk
          · obtain rfl : k = j + 1 := by omega
            rcases h2 with h2 | h2
            · omega
            · rw [show j + 1 - 1 = j by omega] at h2
              exact h2)
      have HP : Hid (0 < k → TAt wr (ad.add ((k - 1) * 4)) (td q (k - 1))) := Lib.hid (fun hp => by
        obtain ⟨ad', e, _, h4⟩ := (H.out.on hb.out) (k - 1) (by omega)
        obtain rfl := Option.some.inj e
        exact h4)
      have HO : Hid (∀ p : Regrown, Calls Try.prog 18 #[.agg #[.int .i64 (td q k).w, .int .u64 (td q k).i, .int .i64 (td q k).s]] (grow (redrawn wr p.d) p.os) fun e w' => e = .returned (.bool (oneB (td q k).n)) ∧ Below (grow (redrawn wr p.d) p.os).heap.size (grow (redrawn wr p.d) p.os) w') := Lib.hid (fun p => one_any (td q k).n _)
      have HM : Hid (mayT (td q k) = true ↔ oneB (td q k).n = true ∧ 1 ≤ (td q k).l ∧ (td q k).l ≤ 64) := Lib.hid (by unfold mayT; simp only [Bool.and_eq_true, decide_eq_true_iff, and_assoc])
      have HMF : Hid (¬(oneB (td q k).n = true ∧ 1 ≤ (td q k).l ∧ (td q k).l ≤ 64) → L = false) := Lib.hid (fun h => HF.out (by
        rcases hm : mayT (td q k) with _ | _
        · rfl
        · exact absurd (HM.out.1 hm) h))
      clear HF
      generalize hM : mayT (td q k) = M at *
      generalize hx : td q k = x at *
      generalize hy : td q (k - 1) = y at *
      generalize hO1 : oneB x.n = O1 at *
      clear h1 hM hx hy hok hO1
      have C0 : ∀ p : Regrown, (grow (redrawn wr p.d) p.os).cell? (ad.add (k * 4)) = some (.int .i64 x.w) := fun p => cell_regrown a0 p.d p.os
      have C1 : ∀ p : Regrown, (grow (redrawn wr p.d) p.os).cell? ⟨(ad.add (k * 4)).block, (ad.add (k * 4)).off + 1, none⟩ = some (.int .u64 x.i) := fun p => cell_regrown a1 p.d p.os
      have C2 : ∀ p : Regrown, (grow (redrawn wr p.d) p.os).cell? ⟨(ad.add (k * 4)).block, (ad.add (k * 4)).off + 2, none⟩ = some (.int .i64 x.s) := fun p => cell_regrown a2 p.d p.os
      have C3 : ∀ p : Regrown, (grow (redrawn wr p.d) p.os).cell? ⟨(ad.add (k * 4)).block, (ad.add (k * 4)).off + 3, none⟩ = some (.int .i64 x.l) := fun p => cell_regrown a3 p.d p.os
      clear a0 a1 a2 a3
      generalize x.w = xw at *
      generalize x.i = xi at *
      generalize x.s = xs at *
      generalize x.l = xl at *
      clear x
      rcases O1 with _ | _
      · obtain rfl := HMF.out (by simp)
        clear HS HN HP HM HMF
        go_upto_region 4 with (fail)
        refine q_enter (by kernel_rfl) (by kernel_rfl) ?_
        iterate 43 (refine q_step ?_; intro K hK; go_simp; first | (refine hK _ ?_; clear hK K) | (refine ⟨_, fun p => Calls.regrown_of (by with_reducible exact HO.out p), hK _ ?_⟩; clear hK K))
        refine q_nil ?_
        intro w3 hb3
        have HB3 : Hid (Below w.heap.size w w3) := Lib.hid (hb.out.trans (hb3.mono hb.out.size))
        clear hb3
        go_wp2_with fail
        go_ret
        exact ⟨rfl, HB3.out⟩
      by_cases b1 : xl < 1
      · have e1 : decide (xl < 1) = true := by simpa using b1
        obtain rfl := HMF.out (by omega)
        clear b1 HS HN HP HM HMF
        go_upto_region 4 with (fail)
        refine q_enter (by kernel_rfl) (by kernel_rfl) ?_
        iterate 43 (refine q_step ?_; intro K hK; go_simp; first | (refine hK _ ?_; clear hK K) | (refine ⟨_, fun p => Calls.regrown_of (by with_reducible exact HO.out p), hK _ ?_⟩; clear hK K))
        refine q_nil ?_
        intro w3 hb3
        have HB3 : Hid (Below w.heap.size w w3) := Lib.hid (hb.out.trans (hb3.mono hb.out.size))
        clear hb3
        go_wp2_with fail
        go_ret
        exact ⟨rfl, HB3.out⟩
      have e1 : decide (xl < 1) = false := by simpa using b1
      by_cases b2 : 64 < xl
      · have e2 : decide (64 < xl) = true := by simpa using b2
        obtain rfl := HMF.out (by omega)
        clear b1 b2 HS HN HP HM HMF
        go_upto_region 4 with (fail)
        refine q_enter (by kernel_rfl) (by kernel_rfl) ?_
        iterate 43 (refine q_step ?_; intro K hK; go_simp; first | (refine hK _ ?_; clear hK K) | (refine ⟨_, fun p => Calls.regrown_of (by with_reducible exact HO.out p), hK _ ?_⟩; clear hK K))
        refine q_nil ?_
        intro w3 hb3
        have HB3 : Hid (Below w.heap.size w w3) := Lib.hid (hb.out.trans (hb3.mono hb.out.size))
        clear hb3
        go_wp2_with fail
        go_ret
        exact ⟨rfl, HB3.out⟩
      have e2 : decide (64 < xl) = false := by simpa using b2
      have hMt : M = true := HM.out.2 ⟨rfl, by omega, by omega⟩
      clear b1 b2 HM HMF
      by_cases hk0 : k = 0
      · have eg : decide ((0 : Int) < (k : Int)) = false := by simp; omega
        have en : ¬0 < k := by omega
        have HS' := Lib.hid (HS.out ⟨hMt, .inl hk0⟩)
        clear hk0 HS HN HP hMt
        go_upto_region 4 with (fail)
        refine q_enter (by kernel_rfl) (by kernel_rfl) ?_
        iterate 43 (refine q_step ?_; intro K hK; go_simp; first | (refine hK _ ?_; clear hK K) | (refine ⟨_, fun p => Calls.regrown_of (by with_reducible exact HO.out p), hK _ ?_⟩; clear hK K))
        refine q_nil ?_
        intro w3 hb3
        have HB3 : Hid (Below w.heap.size w w3) := Lib.hid (hb.out.trans (hb3.mono hb.out.size))
        clear hb3
        go_wp2_with fail
        go_roundw
        case rel => exact ⟨k + 1, by go_num, by omega, HS', HB3⟩
        case measure => simp [intOf]; omega
      have eg : decide ((0 : Int) < (k : Int)) = true := by simp; omega
      have en : 0 < k := by omega
      obtain ⟨p0, _, _, _⟩ := (HP.out (by omega)).flat
      have P0 : ∀ p : Regrown, (grow (redrawn wr p.d) p.os).cell? (ad.add ((k - 1) * 4)) = some (.int .i64 y.w) := fun p => cell_regrown p0 p.d p.os
      have hkm : IntKind.i64.wrap ((k : Int) - 1) = ((k - 1 : Nat) : Int) := by rw [IntWalk.i64_in _ (by omega)]; omega
      have g0 : (0 : Int) ≤ ((k - 1 : Nat) : Int) := by omega
      have g1 : ((k - 1 : Nat) : Int) < (q.length : Int) := by omega
      have g1' : k - 1 < q.length := by omega
      have HN' := Lib.hid (HN.out (by omega))
      have HS2 := Lib.hid (fun h => HS.out ⟨hMt, .inr h⟩)
      generalize y.w = yw at *
      generalize k - 1 = km at *
      clear p0 hk0 HS HN HP hMt
      by_cases b3 : xw ≤ yw
      · have e3 : decide (xw ≤ yw) = true := by simpa using b3
        obtain rfl := HN'.out b3
        clear b3 HN' HS2
        go_upto_region 4 with (fail)
        refine q_enter (by kernel_rfl) (by kernel_rfl) ?_
        iterate 43 (refine q_step ?_; intro K hK; go_simp; first | (refine hK _ ?_; clear hK K) | (refine ⟨_, fun p => Calls.regrown_of (by with_reducible exact HO.out p), hK _ ?_⟩; clear hK K))
        refine q_nil ?_
        intro w3 hb3
        have HB3 : Hid (Below w.heap.size w w3) := Lib.hid (hb.out.trans (hb3.mono hb.out.size))
        clear hb3
        go_wp2_with fail
        go_ret
        exact ⟨rfl, HB3.out⟩
      have e3 : decide (xw ≤ yw) = false := by simpa using b3
      have HS' := Lib.hid (HS2.out (by omega))
      clear b3 HN' HS2
      go_upto_region 4 with (fail)
      refine q_enter (by kernel_rfl) (by kernel_rfl) ?_
      iterate 43 (refine q_step ?_; intro K hK; go_simp; first | (refine hK _ ?_; clear hK K) | (refine ⟨_, fun p => Calls.regrown_of (by with_reducible exact HO.out p), hK _ ?_⟩; clear hK K))
      refine q_nil ?_
      intro w3 hb3
      have HB3 : Hid (Below w.heap.size w w3) := Lib.hid (hb.out.trans (hb3.mono hb.out.size))
      clear hb3
      go_wp2_with fail
      go_roundw
      case rel => exact ⟨k + 1, by go_num, by omega, HS', HB3⟩
      case measure => simp [intOf]; omega
    · have hk' : k = q.length := by omega
      have hLt : L = true := HL.out.2 ⟨fun i hi => hok.out.1 i (by omega), fun i hi => hok.out.2 i (by omega)⟩
      subst hLt
      have e0 : decide ((k : Int) < (q.length : Int)) = false := by simp; omega
      clear hk'
      go_wp2_with fail
      go_ret
      exact ⟨rfl, hb.out⟩
end Go.Proofs.Ytipepmnnjhhjbaa
