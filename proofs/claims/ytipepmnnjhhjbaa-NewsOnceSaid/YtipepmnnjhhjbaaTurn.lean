/-
  The walk of the order in which it is told; the document's One.
-/
import Derived.Test.YtipepmnnjhhjbaaCheck
namespace Go.Proofs.Ytipepmnnjhhjbaa
open Go.Sort Go.RowKit Go.Proofs.Ytipepmnnjhhjbaa.Pure

set_option maxRecDepth 100000 in
set_option maxHeartbeats 2000000 in
theorem turn_grew (x y : Td) (w : World) : Calls Try.prog 33 #[.agg #[.int .i64 x.w, .int .u64 x.i, .int .i64 x.s, .int .i64 x.l], .agg #[.int .i64 y.w, .int .u64 y.i, .int .i64 y.s, .int .i64 y.l]] w fun e w' => e = .returned (.int .i64 (cfT x y)) ∧ Grew w w' := by
  have HC := Lib.hid (fun W => cmpInt y.l x.l W)
  have HW := Lib.hid (fun W => who_grew x y W)
  have HOO : Hid (∀ (c0 c1 : Int) (W : World), Calls Try.prog 44 #[.slice (some ⟨W.heap.size, 0, none⟩) 2 2] (W.alloc (.cells #[.int .i64 c0, .int .i64 c1] 3))
      fun e w' => e = .returned (.int .i64 (firstN [c0, c1])) ∧ (W.alloc (.cells #[.int .i64 c0, .int .i64 c1] 3)) = w') := Lib.hid fun c0 c1 W =>
    or_any ⟨W.heap.size, 0, none⟩ [c0, c1] 2 _ (Nat.le_of_ble_eq_true rfl) (two_new W c0 c1 _)
  have HG : Hid (Grew w ((w.alloc (.cells #[.int .i64 x.w, .int .u64 x.i, .int .i64 x.s, .int .i64 x.l] 59)).alloc (.cells #[.int .i64 y.w, .int .u64 y.i, .int .i64 y.s, .int .i64 y.l] 59))) := Lib.hid (((Grew.refl w).alloc _).alloc _)
  have BX : Hid (Bt ((w.alloc (.cells #[.int .i64 x.w, .int .u64 x.i, .int .i64 x.s, .int .i64 x.l] 59)).alloc (.cells #[.int .i64 y.w, .int .u64 y.i, .int .i64 y.s, .int .i64 y.l] 59)) w.heap.size x) := Lib.hid ((Bt.new w x _).alloc _)
  have BY : Hid (Bt ((w.alloc (.cells #[.int .i64 x.w, .int .u64 x.i, .int .i64 x.s, .int .i64 x.l] 59)).alloc (.cells #[.int .i64 y.w, .int .u64 y.i, .int .i64 y.s, .int .i64 y.l] 59)) (w.heap.size + 1) y) := Lib.hid (by have := Bt.new (w.alloc (.cells #[.int .i64 x.w, .int .u64 x.i, .int .i64 x.s, .int .i64 x.l] 59)) y 59; simpa using this)
  have HR : Hid (cfT x y = firstN [cmpI y.l x.l, cfW x y]) := Lib.hid rfl
  rw [HR.out]
  clear HR
  generalize cmpI y.l x.l = c0 at *
  generalize cfW x y = c1 at *
  have HO := Lib.hid (fun W => HOO.out c0 c1 W)
  clear HOO
  generalize firstN [c0, c1] = F at *
  go_enter Try.func33, Try.ntmps33
  go_upto_region 1 with (fail)
  generalize (w.alloc (.cells #[.int .i64 x.w, .int .u64 x.i, .int .i64 x.s, .int .i64 x.l] 59)).alloc (.cells #[.int .i64 y.w, .int .u64 y.i, .int .i64 y.s, .int .i64 y.l] 59) = w2 at *
  obtain ⟨x0, x1, x2, x3⟩ := BX.out
  obtain ⟨y0, y1, y2, y3⟩ := BY.out
  refine z_enter [(0, true), (1, true), (2, true), (3, true), (5, true), (6, true), (4, false), (7, false), (8, false), (9, false), (10, true)] (fun w' => w'.cell? ⟨w.heap.size, 0, none⟩ = some (.int .i64 x.w) ∧ w'.cell? ⟨w.heap.size, 1, none⟩ = some (.int .u64 x.i) ∧ w'.cell? ⟨w.heap.size, 2, none⟩ = some (.int .i64 x.s) ∧ w'.cell? ⟨w.heap.size, 3, none⟩ = some (.int .i64 x.l) ∧ w'.cell? ⟨w.heap.size + 1, 0, none⟩ = some (.int .i64 y.w) ∧ w'.cell? ⟨w.heap.size + 1, 1, none⟩ = some (.int .u64 y.i) ∧ w'.cell? ⟨w.heap.size + 1, 2, none⟩ = some (.int .i64 y.s) ∧ w'.cell? ⟨w.heap.size + 1, 3, none⟩ = some (.int .i64 y.l)) (by kernel_rfl) (by kernel_rfl) (by kernel_rfl) (fun _ _ d _ _ h => by cases d <;> exact h) ⟨x0, x1, x2, x3, y0, y1, y2, y3⟩ ?_
  simp only [pickL, List.drop_succ_cons, List.drop_zero]
  have HG0 : Hid (Grew w w2.drew) := Lib.hid HG.out.drew
  have BX0 : Hid (Bt w2.drew w.heap.size x) := Lib.hid BX.out
  have BY0 : Hid (Bt w2.drew (w.heap.size + 1) y) := Lib.hid BY.out
  clear HG BX BY x0 x1 x2 x3 y0 y1 y2 y3
  generalize w2.drew = w3 at *
  iterate 6 (first | (refine' z_yes ?_ (by rfl) ?_ ?_; rotate_left; (intro w' hS; (try dsimp only at hS); go_simp; try (with_reducible rfl)); simp only [Act.put, List.setIfInBounds_toArray, List.set_cons_zero, List.set_cons_succ]) | (refine z_no (by rfl) ?_; simp only [Act.put, List.setIfInBounds_toArray, List.set_cons_zero, List.set_cons_succ]))
  refine z_mem ?_
  intro K hK
  go_simp
  refine (HC.out _).mono ?_
  rintro e w4 ⟨rfl, rfl⟩
  refine hK.out _ _ ⟨BX0.out.1, BX0.out.2.1, BX0.out.2.2.1, BX0.out.2.2.2, BY0.out.1, BY0.out.2.1, BY0.out.2.2.1, BY0.out.2.2.2⟩ ?_
  clear hK
  refine z_mem ?_
  intro K hK
  go_simp
  refine (HW.out _).mono ?_
  rintro e w4 ⟨rfl, hg4⟩
  have HG1 : Hid (Grew w w4) := Lib.hid (HG0.out.trans hg4)
  have BX1 := Lib.hid (BX0.out.on hg4.below)
  have BY1 := Lib.hid (BY0.out.on hg4.below)
  clear HG0 BX0 BY0 hg4
  refine hK.out _ _ ⟨BX1.out.1, BX1.out.2.1, BX1.out.2.2.1, BX1.out.2.2.2, BY1.out.1, BY1.out.2.1, BY1.out.2.2.1, BY1.out.2.2.2⟩ ?_
  clear hK
  refine z_mem ?_
  intro K hK
  go_simp
  have BX2 := Lib.hid (BX1.out.alloc (.cells #[.int .i64 c0, .int .i64 c1] 3))
  have BY2 := Lib.hid (BY1.out.alloc (.cells #[.int .i64 c0, .int .i64 c1] 3))
  have HG2 := Lib.hid (HG1.out.alloc (.cells #[.int .i64 c0, .int .i64 c1] 3))
  clear HG1 BX1 BY1
  refine hK.out _ _ ⟨BX2.out.1, BX2.out.2.1, BX2.out.2.2.1, BX2.out.2.2.2, BY2.out.1, BY2.out.2.1, BY2.out.2.2.1, BY2.out.2.2.2⟩ ?_
  clear hK
  refine z_mem ?_
  intro K hK
  go_simp
  refine (HO.out _).mono ?_
  rintro e w5 ⟨rfl, rfl⟩
  refine hK.out _ _ ⟨BX2.out.1, BX2.out.2.1, BX2.out.2.2.1, BX2.out.2.2.2, BY2.out.1, BY2.out.2.1, BY2.out.2.2.1, BY2.out.2.2.2⟩ ?_
  clear hK BX2 BY2
  iterate 1 (first | (refine' z_yes ?_ (by rfl) ?_ ?_; rotate_left; (intro w' hS; (try dsimp only at hS); go_simp; try (with_reducible rfl)); simp only [Act.put, List.setIfInBounds_toArray, List.set_cons_zero, List.set_cons_succ]) | (refine z_no (by rfl) ?_; simp only [Act.put, List.setIfInBounds_toArray, List.set_cons_zero, List.set_cons_succ]))
  refine z_nil ?_
  go_wp2_with fail
  go_ret
  exact ⟨rfl, HG2.out⟩

set_option maxRecDepth 100000 in
set_option maxHeartbeats 1000000 in
theorem one_any (x : Nw) (w : World) : Calls Try.prog 18 #[.agg #[.int .i64 x.w, .int .u64 x.i, .int .i64 x.s]] w fun e w' => e = .returned (.bool (oneB x)) ∧ Below w.heap.size w w' := by
  have HC := Lib.hid (fun W => rmay_any x.k W)
  have HB : Hid (Below w.heap.size w (w.alloc (.cells #[.int .i64 x.w, .int .u64 x.i, .int .i64 x.s] 27))) := Lib.hid ((Below.refl _ w).alloc (Nat.le_refl _) _)
  have HR : Hid (oneB x = (decide (0 ≤ x.w) && decide (x.w < 64) && mayK x.k)) := Lib.hid rfl
  have hki : x.k.i = x.i := rfl
  have hks : x.k.s = x.s := rfl
  rw [hki, hks] at HC
  rw [HR.out]
  clear HR hki hks
  generalize mayK x.k = M at *
  generalize x.w = xw at *
  generalize x.i = xi at *
  generalize x.s = xs at *
  go_enter Try.func18, Try.ntmps18
  go_upto_region 1 with (fail)
  have b0 : (w.alloc (.cells #[.int .i64 xw, .int .u64 xi, .int .i64 xs] 27)).cell? ⟨w.heap.size, 0, none⟩ = some (.int .i64 xw) := by go_simp
  have b1 : (w.alloc (.cells #[.int .i64 xw, .int .u64 xi, .int .i64 xs] 27)).cell? ⟨w.heap.size, 1, none⟩ = some (.int .u64 xi) := by go_simp
  have b2 : (w.alloc (.cells #[.int .i64 xw, .int .u64 xi, .int .i64 xs] 27)).cell? ⟨w.heap.size, 2, none⟩ = some (.int .i64 xs) := by go_simp
  generalize w.alloc (.cells #[.int .i64 xw, .int .u64 xi, .int .i64 xs] 27) = w1 at *
  by_cases c0 : 0 ≤ xw
  · have e0 : decide (0 ≤ xw) = true := by simpa using c0
    by_cases c1 : xw < 64
    · have e1 : decide (xw < 64) = true := by simpa using c1
      clear c0 c1
      go_wp2_with (go_at_call 37; refine (HC.out _).mono ?_; rintro e w2 ⟨rfl, hb2⟩)
      go_ret
      exact ⟨by rw [e0, e1]; cases M <;> rfl, HB.out.trans (hb2.mono HB.out.size)⟩
    · have e1 : decide (xw < 64) = false := by simpa using c1
      clear c0 c1
      go_wp2_with fail
      go_ret
      exact ⟨by rw [e0, e1]; rfl, HB.out⟩
  · have e0 : decide (0 ≤ xw) = false := by simpa using c0
    clear c0
    go_wp2_with fail
    go_ret
    exact ⟨by rw [e0]; rfl, HB.out⟩

end Go.Proofs.Ytipepmnnjhhjbaa
