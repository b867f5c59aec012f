/-
  Ways of the law ClockTells, where four nodes are looked at.
-/
import Derived.Test.YtmbapcdchaamfaaBox
namespace Go.Proofs.Ytmbapcdchaamfaa.lawTells
open Go.Sort Go.ChangeShapes Go.WideShapes Go.ChangeAt Go.RowKit Go.Joins Go.Proofs.Ytmbapcdchaamfaa.Pure

set_option maxRecDepth 100000 in
set_option maxHeartbeats 4000000 in
theorem way_cut_none_no (n d r node f t : Int) (A : Option Addr) (c : Nat) (l0 l : List Bt) (w : World)  (HF : Hid (∀ W : World, Calls Try.prog 9 #[.slice A l0.length c] W fun e w' => e = .returned (.slice A l.length c) ∧ W = w')) (HL : Hid (Lst w A l)) (hn : 4 < n ∧ n ≤ 64) (HTK : Hid (∀ W : World, Lst W A l → Calls Try.prog 10 #[.int .i64 4, .slice A l.length c, .int .i64 node, .int .i64 f, .int .i64 t] W fun e w' => e = .returned (.tuple #[.int .i64 0, .int .i64 7]) ∧ Below W.heap.size W w')) (HCK : Hid (∀ W : World, Lst W A l → Calls Try.prog 13 #[.int .i64 4, .slice A l.length c] W fun e w' => e = .returned (.int .i64 0) ∧ Below W.heap.size W w')) (HMY : Hid (∀ W : World, Lst W A l → Calls Try.prog 14 #[.int .i64 4, .slice A l.length c] W fun e w' => e = .returned (.bool true) ∧ Below W.heap.size W w')) (_hlc : l.length ≤ c) (_hl : l.length ≤ 24) (hask : 0 ≤ node ∧ node < 4 ∧ 0 ≤ f ∧ f ≤ t ∧ t ≤ (l.length : Int)) (HRT : Hid (∀ W : World, Lst W A l → Calls Try.prog 16 #[.slice A l.length c, .int .i64 node, .int .i64 f, .int .i64 t] W fun e w' => e = .returned (.tuple #[.int .i64 0, .bool false]) ∧ W = w')) (HBD : Hid (∀ W : World, Calls Try.prog 17 #[.int .i64 d, .int .i64 r] W fun e w' => e = .returned (.bool false) ∧ W = w')) (HNE : Hid (∀ W : World, Lst W A l → Calls Try.prog 11 #[.int .i64 4, .slice A l.length c, .int .i64 d, .int .i64 r] W fun e w' => e = .returned (.tuple #[.bool false, .int .i64 1]) ∧ Below W.heap.size W w')) (HFA : Hid (∀ W : World, Lst W A l → Calls Try.prog 12 #[.int .i64 4, .slice A l.length c, .int .i64 d, .int .i64 r] W fun e w' => e = .returned (.tuple #[.int .i64 0, .int .i64 1]) ∧ Below W.heap.size W w')) :
    Calls Try.prog 3 #[.agg #[.int .i64 n, .slice A l0.length c, .int .i64 d, .int .i64 r, .int .i64 node, .int .i64 f, .int .i64 t]] w fun e w' => e = .returned (.bool true) ∧ Below w.heap.size w w' := by
  have d1 : decide (4 < n) = true := by simp; omega
  have d2 : decide (n ≤ 64) = true := by simp; omega
  have e1 : decide (node < 0) = false := by simp; omega
  have e2 : decide (4 ≤ node) = false := by simp; omega
  have e3 : decide (f < 0) = false := by simp; omega
  have e4 : decide (t < f) = false := by simp; omega
  have e5 : decide ((l.length : Int) < t) = false := by simp; omega
  go_enter Try.func3, Try.ntmps3
  go_upto_region 1 with (fail)
  have BX0 := Lib.hid (Bx.new w n d r node f t A l0.length c 24)
  have HB0 : Hid (Below w.heap.size w (w.alloc (.cells #[.int .i64 n, .slice A l0.length c, .int .i64 d, .int .i64 r, .int .i64 node, .int .i64 f, .int .i64 t] 24))) := Lib.hid ((Below.refl _ _).alloc (Nat.le_refl _) _)
  have HL0 := Lib.hid (HL.out.alloc (.cells #[.int .i64 n, .slice A l0.length c, .int .i64 d, .int .i64 r, .int .i64 node, .int .i64 f, .int .i64 t] 24))
  have HFZ : Hid ((w.alloc (.cells #[.int .i64 n, .slice A l0.length c, .int .i64 d, .int .i64 r, .int .i64 node, .int .i64 f, .int .i64 t] 24)).frozen? ⟨w.heap.size, 0, none⟩ = false) := Lib.hid (by go_simp)
  generalize w.alloc (.cells #[.int .i64 n, .slice A l0.length c, .int .i64 d, .int .i64 r, .int .i64 node, .int .i64 f, .int .i64 t] 24) = w0 at *
  have hnb : w.heap.size < w0.heap.size := BX0.out.lt
  obtain ⟨c0, c1, c2, c3, c4, c5, c6⟩ := BX0.out
  have fz : w0.frozen? ⟨w.heap.size, 0, none⟩ = false := HFZ.out
  go_wp2_with fail
  refine (HF.out _).mono ?_
  rintro e w1 ⟨rfl, rfl⟩
  go_upto_region 4 with (fail)
  have HB9 : Hid (Below w.heap.size w (w0.setCell ⟨w.heap.size, 0, none⟩ (.int .i64 4))) := Lib.hid (HB0.out.setCell (Nat.le_refl _) _)
  have HL9 : Hid (Lst (w0.setCell ⟨w.heap.size, 0, none⟩ (.int .i64 4)) A l) := Lib.hid (HL.out.on HB9.out)
  have BX9 : Hid (Bx (w0.setCell ⟨w.heap.size, 0, none⟩ (.int .i64 4)) w.heap.size 4 d r node f t A l0.length c) := Lib.hid ⟨World.cell?_setCell_same w0 _ _ c0, (World.cell?_setCell_other w0 _ _ _ (by simp)).trans c1, (World.cell?_setCell_other w0 _ _ _ (by simp)).trans c2, (World.cell?_setCell_other w0 _ _ _ (by simp)).trans c3, (World.cell?_setCell_other w0 _ _ _ (by simp)).trans c4, (World.cell?_setCell_other w0 _ _ _ (by simp)).trans c5, (World.cell?_setCell_other w0 _ _ _ (by simp)).trans c6⟩
  generalize w0.setCell ⟨w.heap.size, 0, none⟩ (.int .i64 4) = w9 at *
  clear c0 c1 c2 c3 c4 c5 c6 fz HFZ BX0 HL0 hnb
  obtain ⟨c0, c1, c2, c3, c4, c5, c6⟩ := BX9.out
  go_wp2_with fail
  refine (HTK.out _ HL9.out).mono ?_
  rintro e w10 ⟨rfl, hb10⟩
  have HB10 : Hid (Below w.heap.size w w10) := Lib.hid (HB9.out.trans (hb10.mono HB9.out.size))
  have BX10 := Lib.hid (BX9.out.on hb10)
  have HL10 := Lib.hid (HL9.out.on hb10)
  clear hb10 c0 c1 c2 c3 c4 c5 c6 BX9 HL9
  obtain ⟨c0, c1, c2, c3, c4, c5, c6⟩ := BX10.out
  go_wp2_with fail
  refine (HNE.out _ HL10.out).mono ?_
  rintro e w11 ⟨rfl, hb11⟩
  have HB11 : Hid (Below w.heap.size w w11) := Lib.hid (HB10.out.trans (hb11.mono HB10.out.size))
  have BX11 := Lib.hid (BX10.out.on hb11)
  have HL11 := Lib.hid (HL10.out.on hb11)
  clear hb11 c0 c1 c2 c3 c4 c5 c6 BX10 HL10
  obtain ⟨c0, c1, c2, c3, c4, c5, c6⟩ := BX11.out
  go_wp2_with fail
  refine (HFA.out _ HL11.out).mono ?_
  rintro e w12 ⟨rfl, hb12⟩
  have HB12 : Hid (Below w.heap.size w w12) := Lib.hid (HB11.out.trans (hb12.mono HB11.out.size))
  have BX12 := Lib.hid (BX11.out.on hb12)
  have HL12 := Lib.hid (HL11.out.on hb12)
  clear hb12 c0 c1 c2 c3 c4 c5 c6 BX11 HL11
  obtain ⟨c0, c1, c2, c3, c4, c5, c6⟩ := BX12.out
  go_upto_region 7 with (fail)
  have C0 := fun d os => cell_regrown c0 d os
  have HCK' := Lib.hid (fun p : Regrown => HCK.out _ (HL12.out.on (below_regrown w12 p.d p.os)))
  have HMY' := Lib.hid (fun p : Regrown => HMY.out _ (HL12.out.on (below_regrown w12 p.d p.os)))
  refine q_enter (by kernel_rfl) (by kernel_rfl) ?_
  iterate 10 (refine q_step ?_; intro K hK; go_simp; first | (refine hK _ ?_; clear hK K) | (refine ⟨_, fun p => Calls.regrown_of (by with_reducible exact HCK'.out p), hK _ ?_⟩; clear hK K) | (refine ⟨_, fun p => Calls.regrown_of (by with_reducible exact HMY'.out p), hK _ ?_⟩; clear hK K))
  refine q_nil ?_
  intro w13 hb13
  clear C0 HCK' HMY'
  have HB13 : Hid (Below w.heap.size w w13) := Lib.hid (HB12.out.trans (hb13.mono HB12.out.size))
  have BX13 := Lib.hid (BX12.out.on hb13)
  have HL13 := Lib.hid (HL12.out.on hb13)
  clear hb13 c0 c1 c2 c3 c4 c5 c6 BX12 HL12
  obtain ⟨c0, c1, c2, c3, c4, c5, c6⟩ := BX13.out
  go_wp2_with fail
  refine (HMY.out _ HL13.out).mono ?_
  rintro e w14 ⟨rfl, hb14⟩
  have HB14 : Hid (Below w.heap.size w w14) := Lib.hid (HB13.out.trans (hb14.mono HB13.out.size))
  have BX14 := Lib.hid (BX13.out.on hb14)
  have HL14 := Lib.hid (HL13.out.on hb14)
  clear hb14 c0 c1 c2 c3 c4 c5 c6 BX13 HL13
  obtain ⟨c0, c1, c2, c3, c4, c5, c6⟩ := BX14.out
  go_wp2_with fail
  refine (HRT.out _ HL14.out).mono ?_
  rintro e w1 ⟨rfl, rfl⟩
  go_wp2_with fail
  refine (HBD.out _).mono ?_
  rintro e w1 ⟨rfl, rfl⟩
  go_wp2_with fail
  refine (awake_any _).mono ?_
  rintro e wE ⟨rfl, hbE⟩
  have HE : Hid (Below w.heap.size w wE) := Lib.hid (HB14.out.trans (hbE.mono HB14.out.size))
  clear hbE
  go_wp2_with fail
  go_ret
  exact ⟨rfl, HE.out⟩

set_option maxRecDepth 100000 in
set_option maxHeartbeats 4000000 in
theorem way_cut_none_yes (n d r node f t : Int) (A : Option Addr) (c : Nat) (l0 l : List Bt) (w : World)  (L : Bool) (k : Nat) (HF : Hid (∀ W : World, Calls Try.prog 9 #[.slice A l0.length c] W fun e w' => e = .returned (.slice A l.length c) ∧ W = w')) (HL : Hid (Lst w A l)) (hn : 4 < n ∧ n ≤ 64) (HTK : Hid (∀ W : World, Lst W A l → Calls Try.prog 10 #[.int .i64 4, .slice A l.length c, .int .i64 node, .int .i64 f, .int .i64 t] W fun e w' => e = .returned (.tuple #[.int .i64 0, .int .i64 7]) ∧ Below W.heap.size W w')) (HCK : Hid (∀ W : World, Lst W A l → Calls Try.prog 13 #[.int .i64 4, .slice A l.length c] W fun e w' => e = .returned (.int .i64 0) ∧ Below W.heap.size W w')) (HMY : Hid (∀ W : World, Lst W A l → Calls Try.prog 14 #[.int .i64 4, .slice A l.length c] W fun e w' => e = .returned (.bool true) ∧ Below W.heap.size W w')) (hlc : l.length ≤ c) (hl : l.length ≤ 24) (hask : 0 ≤ node ∧ node < 4 ∧ 0 ≤ f ∧ f ≤ t ∧ t ≤ (l.length : Int)) (HRT : Hid (∀ W : World, Lst W A l → Calls Try.prog 16 #[.slice A l.length c, .int .i64 node, .int .i64 f, .int .i64 t] W fun e w' => e = .returned (.tuple #[.int .i64 0, .bool false]) ∧ W = w')) (HBD : Hid (∀ W : World, Calls Try.prog 17 #[.int .i64 d, .int .i64 r] W fun e w' => e = .returned (.bool true) ∧ W = w')) (HNE : Hid (∀ W : World, Lst W A l → Calls Try.prog 11 #[.int .i64 4, .slice A l.length c, .int .i64 d, .int .i64 r] W fun e w' => e = .returned (.tuple #[.bool L, .int .i64 0]) ∧ Below W.heap.size W w')) (HFA : Hid (∀ W : World, Lst W A l → Calls Try.prog 12 #[.int .i64 4, .slice A l.length c, .int .i64 d, .int .i64 r] W fun e w' => e = .returned (.tuple #[.int .i64 k, .int .i64 0]) ∧ Below W.heap.size W w')) (HRN : Hid (∀ W : World, Lst W A l → Calls Try.prog 18 #[.int .i64 4, .slice A l.length c, .int .i64 d, .int .i64 r] W fun e w' => e = .returned (.bool L) ∧ W = w')) (hk : k ≤ l.length) (HR1 : Hid (∀ W : World, Lst W A l → Calls Try.prog 18 #[.int .i64 4, .slice A k c, .int .i64 d, .int .i64 r] W fun e w' => e = .returned (.bool true) ∧ W = w')) (HR2 : Hid (k ≠ l.length → ∀ W : World, Lst W A l → Calls Try.prog 18 #[.int .i64 4, .slice A (k + 1) c, .int .i64 d, .int .i64 r] W fun e w' => e = .returned (.bool false) ∧ W = w')) :
    Calls Try.prog 3 #[.agg #[.int .i64 n, .slice A l0.length c, .int .i64 d, .int .i64 r, .int .i64 node, .int .i64 f, .int .i64 t]] w fun e w' => e = .returned (.bool true) ∧ Below w.heap.size w w' := by
  have d1 : decide (4 < n) = true := by simp; omega
  have d2 : decide (n ≤ 64) = true := by simp; omega
  have e1 : decide (node < 0) = false := by simp; omega
  have e2 : decide (4 ≤ node) = false := by simp; omega
  have e3 : decide (f < 0) = false := by simp; omega
  have e4 : decide (t < f) = false := by simp; omega
  have e5 : decide ((l.length : Int) < t) = false := by simp; omega
  have k0 : (0 : Int) ≤ (k : Int) := by omega
  have k1 : (k : Int) ≤ (l.length : Int) := by omega
  have k2 : (k : Int) ≤ (c : Int) := by omega
  have e6 : decide ((k : Int) < 0) = false := by simp
  have e7 : decide ((l.length : Int) < (k : Int)) = false := by simp; omega
  go_enter Try.func3, Try.ntmps3
  go_upto_region 1 with (fail)
  have BX0 := Lib.hid (Bx.new w n d r node f t A l0.length c 24)
  have HB0 : Hid (Below w.heap.size w (w.alloc (.cells #[.int .i64 n, .slice A l0.length c, .int .i64 d, .int .i64 r, .int .i64 node, .int .i64 f, .int .i64 t] 24))) := Lib.hid ((Below.refl _ _).alloc (Nat.le_refl _) _)
  have HL0 := Lib.hid (HL.out.alloc (.cells #[.int .i64 n, .slice A l0.length c, .int .i64 d, .int .i64 r, .int .i64 node, .int .i64 f, .int .i64 t] 24))
  have HFZ : Hid ((w.alloc (.cells #[.int .i64 n, .slice A l0.length c, .int .i64 d, .int .i64 r, .int .i64 node, .int .i64 f, .int .i64 t] 24)).frozen? ⟨w.heap.size, 0, none⟩ = false) := Lib.hid (by go_simp)
  generalize w.alloc (.cells #[.int .i64 n, .slice A l0.length c, .int .i64 d, .int .i64 r, .int .i64 node, .int .i64 f, .int .i64 t] 24) = w0 at *
  have hnb : w.heap.size < w0.heap.size := BX0.out.lt
  obtain ⟨c0, c1, c2, c3, c4, c5, c6⟩ := BX0.out
  have fz : w0.frozen? ⟨w.heap.size, 0, none⟩ = false := HFZ.out
  go_wp2_with fail
  refine (HF.out _).mono ?_
  rintro e w1 ⟨rfl, rfl⟩
  go_upto_region 4 with (fail)
  have HB9 : Hid (Below w.heap.size w (w0.setCell ⟨w.heap.size, 0, none⟩ (.int .i64 4))) := Lib.hid (HB0.out.setCell (Nat.le_refl _) _)
  have HL9 : Hid (Lst (w0.setCell ⟨w.heap.size, 0, none⟩ (.int .i64 4)) A l) := Lib.hid (HL.out.on HB9.out)
  have BX9 : Hid (Bx (w0.setCell ⟨w.heap.size, 0, none⟩ (.int .i64 4)) w.heap.size 4 d r node f t A l0.length c) := Lib.hid ⟨World.cell?_setCell_same w0 _ _ c0, (World.cell?_setCell_other w0 _ _ _ (by simp)).trans c1, (World.cell?_setCell_other w0 _ _ _ (by simp)).trans c2, (World.cell?_setCell_other w0 _ _ _ (by simp)).trans c3, (World.cell?_setCell_other w0 _ _ _ (by simp)).trans c4, (World.cell?_setCell_other w0 _ _ _ (by simp)).trans c5, (World.cell?_setCell_other w0 _ _ _ (by simp)).trans c6⟩
  generalize w0.setCell ⟨w.heap.size, 0, none⟩ (.int .i64 4) = w9 at *
  clear c0 c1 c2 c3 c4 c5 c6 fz HFZ BX0 HL0 hnb
  obtain ⟨c0, c1, c2, c3, c4, c5, c6⟩ := BX9.out
  go_wp2_with fail
  refine (HTK.out _ HL9.out).mono ?_
  rintro e w10 ⟨rfl, hb10⟩
  have HB10 : Hid (Below w.heap.size w w10) := Lib.hid (HB9.out.trans (hb10.mono HB9.out.size))
  have BX10 := Lib.hid (BX9.out.on hb10)
  have HL10 := Lib.hid (HL9.out.on hb10)
  clear hb10 c0 c1 c2 c3 c4 c5 c6 BX9 HL9
  obtain ⟨c0, c1, c2, c3, c4, c5, c6⟩ := BX10.out
  go_wp2_with fail
  refine (HNE.out _ HL10.out).mono ?_
  rintro e w11 ⟨rfl, hb11⟩
  have HB11 : Hid (Below w.heap.size w w11) := Lib.hid (HB10.out.trans (hb11.mono HB10.out.size))
  have BX11 := Lib.hid (BX10.out.on hb11)
  have HL11 := Lib.hid (HL10.out.on hb11)
  clear hb11 c0 c1 c2 c3 c4 c5 c6 BX10 HL10
  obtain ⟨c0, c1, c2, c3, c4, c5, c6⟩ := BX11.out
  go_wp2_with fail
  refine (HFA.out _ HL11.out).mono ?_
  rintro e w12 ⟨rfl, hb12⟩
  have HB12 : Hid (Below w.heap.size w w12) := Lib.hid (HB11.out.trans (hb12.mono HB11.out.size))
  have BX12 := Lib.hid (BX11.out.on hb12)
  have HL12 := Lib.hid (HL11.out.on hb12)
  clear hb12 c0 c1 c2 c3 c4 c5 c6 BX11 HL11
  obtain ⟨c0, c1, c2, c3, c4, c5, c6⟩ := BX12.out
  go_upto_region 7 with (fail)
  have C0 := fun d os => cell_regrown c0 d os
  have HCK' := Lib.hid (fun p : Regrown => HCK.out _ (HL12.out.on (below_regrown w12 p.d p.os)))
  have HMY' := Lib.hid (fun p : Regrown => HMY.out _ (HL12.out.on (below_regrown w12 p.d p.os)))
  refine q_enter (by kernel_rfl) (by kernel_rfl) ?_
  iterate 10 (refine q_step ?_; intro K hK; go_simp; first | (refine hK _ ?_; clear hK K) | (refine ⟨_, fun p => Calls.regrown_of (by with_reducible exact HCK'.out p), hK _ ?_⟩; clear hK K) | (refine ⟨_, fun p => Calls.regrown_of (by with_reducible exact HMY'.out p), hK _ ?_⟩; clear hK K))
  refine q_nil ?_
  intro w13 hb13
  clear C0 HCK' HMY'
  have HB13 : Hid (Below w.heap.size w w13) := Lib.hid (HB12.out.trans (hb13.mono HB12.out.size))
  have BX13 := Lib.hid (BX12.out.on hb13)
  have HL13 := Lib.hid (HL12.out.on hb13)
  clear hb13 c0 c1 c2 c3 c4 c5 c6 BX12 HL12
  obtain ⟨c0, c1, c2, c3, c4, c5, c6⟩ := BX13.out
  go_wp2_with fail
  refine (HMY.out _ HL13.out).mono ?_
  rintro e w14 ⟨rfl, hb14⟩
  have HB14 : Hid (Below w.heap.size w w14) := Lib.hid (HB13.out.trans (hb14.mono HB13.out.size))
  have BX14 := Lib.hid (BX13.out.on hb14)
  have HL14 := Lib.hid (HL13.out.on hb14)
  clear hb14 c0 c1 c2 c3 c4 c5 c6 BX13 HL13
  obtain ⟨c0, c1, c2, c3, c4, c5, c6⟩ := BX14.out
  go_wp2_with fail
  refine (HRT.out _ HL14.out).mono ?_
  rintro e w1 ⟨rfl, rfl⟩
  go_wp2_with fail
  refine (HBD.out _).mono ?_
  rintro e w1 ⟨rfl, rfl⟩
  go_wp2_with fail
  refine (HRN.out _ HL14.out).mono ?_
  rintro e w1 ⟨rfl, rfl⟩
  go_upto_region 21 with (fail)
  have C0 := fun d os => cell_regrown c0 d os
  have C2 := fun d os => cell_regrown c2 d os
  have C3 := fun d os => cell_regrown c3 d os
  have HR1' := Lib.hid (fun p : Regrown => (HR1.out _ (HL14.out.on (below_regrown w14 p.d p.os))).mono fun e w' (h : _ ∧ grow (redrawn w14 p.d) p.os = w') => And.intro h.1 (show Below (grow (redrawn w14 p.d) p.os).heap.size (grow (redrawn w14 p.d) p.os) w' from by rw [← h.2]; exact Below.refl _ _))
  have HAW := Lib.hid (fun p : Regrown => awake_any (grow (redrawn w14 p.d) p.os))
  have u1 : IntKind.i64.wrap ((k : Int) + 1) = (k : Int) + 1 := IntWalk.i64_in _ (by omega)
  by_cases hkl : k = l.length
  · have e8 : ((k : Int) == (l.length : Int)) = true := by simp; omega
    have HKL := Lib.hid hkl
    clear hkl
    refine q_enter (by kernel_rfl) (by kernel_rfl) ?_
    iterate 34 (refine q_step ?_; intro K hK; go_simp; first | (refine hK _ ?_; clear hK K) | (refine ⟨_, fun p => Calls.regrown_of (by with_reducible exact HR1'.out p), hK _ ?_⟩; clear hK K) | (refine ⟨_, fun p => Calls.regrown_of (by with_reducible exact HAW.out p), hK _ ?_⟩; clear hK K))
    refine q_nil ?_
    intro w15 hb15
    clear C0 C2 C3 HR1' HAW
    have HB15 : Hid (Below w.heap.size w w15) := Lib.hid (HB14.out.trans (hb15.mono HB14.out.size))
    have BX15 := Lib.hid (BX14.out.on hb15)
    have HL15 := Lib.hid (HL14.out.on hb15)
    clear hb15 c0 c1 c2 c3 c4 c5 c6 BX14 HL14
    obtain ⟨c0, c1, c2, c3, c4, c5, c6⟩ := BX15.out
    go_wp2_with fail
    go_ret
    exact ⟨rfl, HB15.out⟩
  · have e8 : ((k : Int) == (l.length : Int)) = false := by simp; omega
    have k3 : (0 : Int) ≤ (k : Int) + 1 := by omega
    have k4 : (k : Int) + 1 ≤ (c : Int) := by omega
    have HR2' := Lib.hid (fun p : Regrown => (HR2.out hkl _ (HL14.out.on (below_regrown w14 p.d p.os))).mono fun e w' (h : _ ∧ grow (redrawn w14 p.d) p.os = w') => And.intro h.1 (show Below (grow (redrawn w14 p.d) p.os).heap.size (grow (redrawn w14 p.d) p.os) w' from by rw [← h.2]; exact Below.refl _ _))
    clear hkl
    refine q_enter (by kernel_rfl) (by kernel_rfl) ?_
    iterate 34 (refine q_step ?_; intro K hK; go_simp; first | (refine hK _ ?_; clear hK K) | (refine ⟨_, fun p => Calls.regrown_of (by with_reducible exact HR1'.out p), hK _ ?_⟩; clear hK K) | (refine ⟨_, fun p => Calls.regrown_of (by with_reducible exact HR2'.out p), hK _ ?_⟩; clear hK K) | (refine ⟨_, fun p => Calls.regrown_of (by with_reducible exact HAW.out p), hK _ ?_⟩; clear hK K))
    refine q_nil ?_
    intro w15 hb15
    clear HR2'
    clear C0 C2 C3 HR1' HAW
    have HB15 : Hid (Below w.heap.size w w15) := Lib.hid (HB14.out.trans (hb15.mono HB14.out.size))
    have BX15 := Lib.hid (BX14.out.on hb15)
    have HL15 := Lib.hid (HL14.out.on hb15)
    clear hb15 c0 c1 c2 c3 c4 c5 c6 BX14 HL14
    obtain ⟨c0, c1, c2, c3, c4, c5, c6⟩ := BX15.out
    go_wp2_with fail
    go_ret
    exact ⟨rfl, HB15.out⟩

set_option maxRecDepth 100000 in
set_option maxHeartbeats 4000000 in
theorem way_cut_some_no (n d r node f t : Int) (A : Option Addr) (c : Nat) (l0 l : List Bt) (w : World) (x : Int) (HF : Hid (∀ W : World, Calls Try.prog 9 #[.slice A l0.length c] W fun e w' => e = .returned (.slice A l.length c) ∧ W = w')) (HL : Hid (Lst w A l)) (hn : 4 < n ∧ n ≤ 64) (HTK : Hid (∀ W : World, Lst W A l → Calls Try.prog 10 #[.int .i64 4, .slice A l.length c, .int .i64 node, .int .i64 f, .int .i64 t] W fun e w' => e = .returned (.tuple #[.int .i64 x, .int .i64 0]) ∧ Below W.heap.size W w')) (HCK : Hid (∀ W : World, Lst W A l → Calls Try.prog 13 #[.int .i64 4, .slice A l.length c] W fun e w' => e = .returned (.int .i64 0) ∧ Below W.heap.size W w')) (HMY : Hid (∀ W : World, Lst W A l → Calls Try.prog 14 #[.int .i64 4, .slice A l.length c] W fun e w' => e = .returned (.bool true) ∧ Below W.heap.size W w')) (_hlc : l.length ≤ c) (_hl : l.length ≤ 24) (hask : 0 ≤ node ∧ node < 4 ∧ 0 ≤ f ∧ f ≤ t ∧ t ≤ (l.length : Int)) (HRT : Hid (∀ W : World, Lst W A l → Calls Try.prog 16 #[.slice A l.length c, .int .i64 node, .int .i64 f, .int .i64 t] W fun e w' => e = .returned (.tuple #[.int .i64 x, .bool true]) ∧ W = w')) (HBD : Hid (∀ W : World, Calls Try.prog 17 #[.int .i64 d, .int .i64 r] W fun e w' => e = .returned (.bool false) ∧ W = w')) (HNE : Hid (∀ W : World, Lst W A l → Calls Try.prog 11 #[.int .i64 4, .slice A l.length c, .int .i64 d, .int .i64 r] W fun e w' => e = .returned (.tuple #[.bool false, .int .i64 1]) ∧ Below W.heap.size W w')) (HFA : Hid (∀ W : World, Lst W A l → Calls Try.prog 12 #[.int .i64 4, .slice A l.length c, .int .i64 d, .int .i64 r] W fun e w' => e = .returned (.tuple #[.int .i64 0, .int .i64 1]) ∧ Below W.heap.size W w')) :
    Calls Try.prog 3 #[.agg #[.int .i64 n, .slice A l0.length c, .int .i64 d, .int .i64 r, .int .i64 node, .int .i64 f, .int .i64 t]] w fun e w' => e = .returned (.bool true) ∧ Below w.heap.size w w' := by
  have d1 : decide (4 < n) = true := by simp; omega
  have d2 : decide (n ≤ 64) = true := by simp; omega
  have e1 : decide (node < 0) = false := by simp; omega
  have e2 : decide (4 ≤ node) = false := by simp; omega
  have e3 : decide (f < 0) = false := by simp; omega
  have e4 : decide (t < f) = false := by simp; omega
  have e5 : decide ((l.length : Int) < t) = false := by simp; omega
  go_enter Try.func3, Try.ntmps3
  go_upto_region 1 with (fail)
  have BX0 := Lib.hid (Bx.new w n d r node f t A l0.length c 24)
  have HB0 : Hid (Below w.heap.size w (w.alloc (.cells #[.int .i64 n, .slice A l0.length c, .int .i64 d, .int .i64 r, .int .i64 node, .int .i64 f, .int .i64 t] 24))) := Lib.hid ((Below.refl _ _).alloc (Nat.le_refl _) _)
  have HL0 := Lib.hid (HL.out.alloc (.cells #[.int .i64 n, .slice A l0.length c, .int .i64 d, .int .i64 r, .int .i64 node, .int .i64 f, .int .i64 t] 24))
  have HFZ : Hid ((w.alloc (.cells #[.int .i64 n, .slice A l0.length c, .int .i64 d, .int .i64 r, .int .i64 node, .int .i64 f, .int .i64 t] 24)).frozen? ⟨w.heap.size, 0, none⟩ = false) := Lib.hid (by go_simp)
  generalize w.alloc (.cells #[.int .i64 n, .slice A l0.length c, .int .i64 d, .int .i64 r, .int .i64 node, .int .i64 f, .int .i64 t] 24) = w0 at *
  have hnb : w.heap.size < w0.heap.size := BX0.out.lt
  obtain ⟨c0, c1, c2, c3, c4, c5, c6⟩ := BX0.out
  have fz : w0.frozen? ⟨w.heap.size, 0, none⟩ = false := HFZ.out
  go_wp2_with fail
  refine (HF.out _).mono ?_
  rintro e w1 ⟨rfl, rfl⟩
  go_upto_region 4 with (fail)
  have HB9 : Hid (Below w.heap.size w (w0.setCell ⟨w.heap.size, 0, none⟩ (.int .i64 4))) := Lib.hid (HB0.out.setCell (Nat.le_refl _) _)
  have HL9 : Hid (Lst (w0.setCell ⟨w.heap.size, 0, none⟩ (.int .i64 4)) A l) := Lib.hid (HL.out.on HB9.out)
  have BX9 : Hid (Bx (w0.setCell ⟨w.heap.size, 0, none⟩ (.int .i64 4)) w.heap.size 4 d r node f t A l0.length c) := Lib.hid ⟨World.cell?_setCell_same w0 _ _ c0, (World.cell?_setCell_other w0 _ _ _ (by simp)).trans c1, (World.cell?_setCell_other w0 _ _ _ (by simp)).trans c2, (World.cell?_setCell_other w0 _ _ _ (by simp)).trans c3, (World.cell?_setCell_other w0 _ _ _ (by simp)).trans c4, (World.cell?_setCell_other w0 _ _ _ (by simp)).trans c5, (World.cell?_setCell_other w0 _ _ _ (by simp)).trans c6⟩
  generalize w0.setCell ⟨w.heap.size, 0, none⟩ (.int .i64 4) = w9 at *
  clear c0 c1 c2 c3 c4 c5 c6 fz HFZ BX0 HL0 hnb
  obtain ⟨c0, c1, c2, c3, c4, c5, c6⟩ := BX9.out
  go_wp2_with fail
  refine (HTK.out _ HL9.out).mono ?_
  rintro e w10 ⟨rfl, hb10⟩
  have HB10 : Hid (Below w.heap.size w w10) := Lib.hid (HB9.out.trans (hb10.mono HB9.out.size))
  have BX10 := Lib.hid (BX9.out.on hb10)
  have HL10 := Lib.hid (HL9.out.on hb10)
  clear hb10 c0 c1 c2 c3 c4 c5 c6 BX9 HL9
  obtain ⟨c0, c1, c2, c3, c4, c5, c6⟩ := BX10.out
  go_wp2_with fail
  refine (HNE.out _ HL10.out).mono ?_
  rintro e w11 ⟨rfl, hb11⟩
  have HB11 : Hid (Below w.heap.size w w11) := Lib.hid (HB10.out.trans (hb11.mono HB10.out.size))
  have BX11 := Lib.hid (BX10.out.on hb11)
  have HL11 := Lib.hid (HL10.out.on hb11)
  clear hb11 c0 c1 c2 c3 c4 c5 c6 BX10 HL10
  obtain ⟨c0, c1, c2, c3, c4, c5, c6⟩ := BX11.out
  go_wp2_with fail
  refine (HFA.out _ HL11.out).mono ?_
  rintro e w12 ⟨rfl, hb12⟩
  have HB12 : Hid (Below w.heap.size w w12) := Lib.hid (HB11.out.trans (hb12.mono HB11.out.size))
  have BX12 := Lib.hid (BX11.out.on hb12)
  have HL12 := Lib.hid (HL11.out.on hb12)
  clear hb12 c0 c1 c2 c3 c4 c5 c6 BX11 HL11
  obtain ⟨c0, c1, c2, c3, c4, c5, c6⟩ := BX12.out
  go_upto_region 7 with (fail)
  have C0 := fun d os => cell_regrown c0 d os
  have HCK' := Lib.hid (fun p : Regrown => HCK.out _ (HL12.out.on (below_regrown w12 p.d p.os)))
  have HMY' := Lib.hid (fun p : Regrown => HMY.out _ (HL12.out.on (below_regrown w12 p.d p.os)))
  refine q_enter (by kernel_rfl) (by kernel_rfl) ?_
  iterate 10 (refine q_step ?_; intro K hK; go_simp; first | (refine hK _ ?_; clear hK K) | (refine ⟨_, fun p => Calls.regrown_of (by with_reducible exact HCK'.out p), hK _ ?_⟩; clear hK K) | (refine ⟨_, fun p => Calls.regrown_of (by with_reducible exact HMY'.out p), hK _ ?_⟩; clear hK K))
  refine q_nil ?_
  intro w13 hb13
  clear C0 HCK' HMY'
  have HB13 : Hid (Below w.heap.size w w13) := Lib.hid (HB12.out.trans (hb13.mono HB12.out.size))
  have BX13 := Lib.hid (BX12.out.on hb13)
  have HL13 := Lib.hid (HL12.out.on hb13)
  clear hb13 c0 c1 c2 c3 c4 c5 c6 BX12 HL12
  obtain ⟨c0, c1, c2, c3, c4, c5, c6⟩ := BX13.out
  go_wp2_with fail
  refine (HMY.out _ HL13.out).mono ?_
  rintro e w14 ⟨rfl, hb14⟩
  have HB14 : Hid (Below w.heap.size w w14) := Lib.hid (HB13.out.trans (hb14.mono HB13.out.size))
  have BX14 := Lib.hid (BX13.out.on hb14)
  have HL14 := Lib.hid (HL13.out.on hb14)
  clear hb14 c0 c1 c2 c3 c4 c5 c6 BX13 HL13
  obtain ⟨c0, c1, c2, c3, c4, c5, c6⟩ := BX14.out
  go_wp2_with fail
  refine (HRT.out _ HL14.out).mono ?_
  rintro e w1 ⟨rfl, rfl⟩
  go_wp2_with fail
  refine (HBD.out _).mono ?_
  rintro e w1 ⟨rfl, rfl⟩
  go_wp2_with fail
  refine (awake_any _).mono ?_
  rintro e wE ⟨rfl, hbE⟩
  have HE : Hid (Below w.heap.size w wE) := Lib.hid (HB14.out.trans (hbE.mono HB14.out.size))
  clear hbE
  go_wp2_with fail
  go_ret
  exact ⟨rfl, HE.out⟩

set_option maxRecDepth 100000 in
set_option maxHeartbeats 4000000 in
theorem way_cut_some_yes (n d r node f t : Int) (A : Option Addr) (c : Nat) (l0 l : List Bt) (w : World) (x : Int) (L : Bool) (k : Nat) (HF : Hid (∀ W : World, Calls Try.prog 9 #[.slice A l0.length c] W fun e w' => e = .returned (.slice A l.length c) ∧ W = w')) (HL : Hid (Lst w A l)) (hn : 4 < n ∧ n ≤ 64) (HTK : Hid (∀ W : World, Lst W A l → Calls Try.prog 10 #[.int .i64 4, .slice A l.length c, .int .i64 node, .int .i64 f, .int .i64 t] W fun e w' => e = .returned (.tuple #[.int .i64 x, .int .i64 0]) ∧ Below W.heap.size W w')) (HCK : Hid (∀ W : World, Lst W A l → Calls Try.prog 13 #[.int .i64 4, .slice A l.length c] W fun e w' => e = .returned (.int .i64 0) ∧ Below W.heap.size W w')) (HMY : Hid (∀ W : World, Lst W A l → Calls Try.prog 14 #[.int .i64 4, .slice A l.length c] W fun e w' => e = .returned (.bool true) ∧ Below W.heap.size W w')) (hlc : l.length ≤ c) (hl : l.length ≤ 24) (hask : 0 ≤ node ∧ node < 4 ∧ 0 ≤ f ∧ f ≤ t ∧ t ≤ (l.length : Int)) (HRT : Hid (∀ W : World, Lst W A l → Calls Try.prog 16 #[.slice A l.length c, .int .i64 node, .int .i64 f, .int .i64 t] W fun e w' => e = .returned (.tuple #[.int .i64 x, .bool true]) ∧ W = w')) (HBD : Hid (∀ W : World, Calls Try.prog 17 #[.int .i64 d, .int .i64 r] W fun e w' => e = .returned (.bool true) ∧ W = w')) (HNE : Hid (∀ W : World, Lst W A l → Calls Try.prog 11 #[.int .i64 4, .slice A l.length c, .int .i64 d, .int .i64 r] W fun e w' => e = .returned (.tuple #[.bool L, .int .i64 0]) ∧ Below W.heap.size W w')) (HFA : Hid (∀ W : World, Lst W A l → Calls Try.prog 12 #[.int .i64 4, .slice A l.length c, .int .i64 d, .int .i64 r] W fun e w' => e = .returned (.tuple #[.int .i64 k, .int .i64 0]) ∧ Below W.heap.size W w')) (HRN : Hid (∀ W : World, Lst W A l → Calls Try.prog 18 #[.int .i64 4, .slice A l.length c, .int .i64 d, .int .i64 r] W fun e w' => e = .returned (.bool L) ∧ W = w')) (hk : k ≤ l.length) (HR1 : Hid (∀ W : World, Lst W A l → Calls Try.prog 18 #[.int .i64 4, .slice A k c, .int .i64 d, .int .i64 r] W fun e w' => e = .returned (.bool true) ∧ W = w')) (HR2 : Hid (k ≠ l.length → ∀ W : World, Lst W A l → Calls Try.prog 18 #[.int .i64 4, .slice A (k + 1) c, .int .i64 d, .int .i64 r] W fun e w' => e = .returned (.bool false) ∧ W = w')) :
    Calls Try.prog 3 #[.agg #[.int .i64 n, .slice A l0.length c, .int .i64 d, .int .i64 r, .int .i64 node, .int .i64 f, .int .i64 t]] w fun e w' => e = .returned (.bool true) ∧ Below w.heap.size w w' := by
  have d1 : decide (4 < n) = true := by simp; omega
  have d2 : decide (n ≤ 64) = true := by simp; omega
  have e1 : decide (node < 0) = false := by simp; omega
  have e2 : decide (4 ≤ node) = false := by simp; omega
  have e3 : decide (f < 0) = false := by simp; omega
  have e4 : decide (t < f) = false := by simp; omega
  have e5 : decide ((l.length : Int) < t) = false := by simp; omega
  have k0 : (0 : Int) ≤ (k : Int) := by omega
  have k1 : (k : Int) ≤ (l.length : Int) := by omega
  have k2 : (k : Int) ≤ (c : Int) := by omega
  have e6 : decide ((k : Int) < 0) = false := by simp
  have e7 : decide ((l.length : Int) < (k : Int)) = false := by simp; omega
  go_enter Try.func3, Try.ntmps3
  go_upto_region 1 with (fail)
  have BX0 := Lib.hid (Bx.new w n d r node f t A l0.length c 24)
  have HB0 : Hid (Below w.heap.size w (w.alloc (.cells #[.int .i64 n, .slice A l0.length c, .int .i64 d, .int .i64 r, .int .i64 node, .int .i64 f, .int .i64 t] 24))) := Lib.hid ((Below.refl _ _).alloc (Nat.le_refl _) _)
  have HL0 := Lib.hid (HL.out.alloc (.cells #[.int .i64 n, .slice A l0.length c, .int .i64 d, .int .i64 r, .int .i64 node, .int .i64 f, .int .i64 t] 24))
  have HFZ : Hid ((w.alloc (.cells #[.int .i64 n, .slice A l0.length c, .int .i64 d, .int .i64 r, .int .i64 node, .int .i64 f, .int .i64 t] 24)).frozen? ⟨w.heap.size, 0, none⟩ = false) := Lib.hid (by go_simp)
  generalize w.alloc (.cells #[.int .i64 n, .slice A l0.length c, .int .i64 d, .int .i64 r, .int .i64 node, .int .i64 f, .int .i64 t] 24) = w0 at *
  have hnb : w.heap.size < w0.heap.size := BX0.out.lt
  obtain ⟨c0, c1, c2, c3, c4, c5, c6⟩ := BX0.out
  have fz : w0.frozen? ⟨w.heap.size, 0, none⟩ = false := HFZ.out
  go_wp2_with fail
  refine (HF.out _).mono ?_
  rintro e w1 ⟨rfl, rfl⟩
  go_upto_region 4 with (fail)
  have HB9 : Hid (Below w.heap.size w (w0.setCell ⟨w.heap.size, 0, none⟩ (.int .i64 4))) := Lib.hid (HB0.out.setCell (Nat.le_refl _) _)
  have HL9 : Hid (Lst (w0.setCell ⟨w.heap.size, 0, none⟩ (.int .i64 4)) A l) := Lib.hid (HL.out.on HB9.out)
  have BX9 : Hid (Bx (w0.setCell ⟨w.heap.size, 0, none⟩ (.int .i64 4)) w.heap.size 4 d r node f t A l0.length c) := Lib.hid ⟨World.cell?_setCell_same w0 _ _ c0, (World.cell?_setCell_other w0 _ _ _ (by simp)).trans c1, (World.cell?_setCell_other w0 _ _ _ (by simp)).trans c2, (World.cell?_setCell_other w0 _ _ _ (by simp)).trans c3, (World.cell?_setCell_other w0 _ _ _ (by simp)).trans c4, (World.cell?_setCell_other w0 _ _ _ (by simp)).trans c5, (World.cell?_setCell_other w0 _ _ _ (by simp)).trans c6⟩
  generalize w0.setCell ⟨w.heap.size, 0, none⟩ (.int .i64 4) = w9 at *
  clear c0 c1 c2 c3 c4 c5 c6 fz HFZ BX0 HL0 hnb
  obtain ⟨c0, c1, c2, c3, c4, c5, c6⟩ := BX9.out
  go_wp2_with fail
  refine (HTK.out _ HL9.out).mono ?_
  rintro e w10 ⟨rfl, hb10⟩
  have HB10 : Hid (Below w.heap.size w w10) := Lib.hid (HB9.out.trans (hb10.mono HB9.out.size))
  have BX10 := Lib.hid (BX9.out.on hb10)
  have HL10 := Lib.hid (HL9.out.on hb10)
  clear hb10 c0 c1 c2 c3 c4 c5 c6 BX9 HL9
  obtain ⟨c0, c1, c2, c3, c4, c5, c6⟩ := BX10.out
  go_wp2_with fail
  refine (HNE.out _ HL10.out).mono ?_
  rintro e w11 ⟨rfl, hb11⟩
  have HB11 : Hid (Below w.heap.size w w11) := Lib.hid (HB10.out.trans (hb11.mono HB10.out.size))
  have BX11 := Lib.hid (BX10.out.on hb11)
  have HL11 := Lib.hid (HL10.out.on hb11)
  clear hb11 c0 c1 c2 c3 c4 c5 c6 BX10 HL10
  obtain ⟨c0, c1, c2, c3, c4, c5, c6⟩ := BX11.out
  go_wp2_with fail
  refine (HFA.out _ HL11.out).mono ?_
  rintro e w12 ⟨rfl, hb12⟩
  have HB12 : Hid (Below w.heap.size w w12) := Lib.hid (HB11.out.trans (hb12.mono HB11.out.size))
  have BX12 := Lib.hid (BX11.out.on hb12)
  have HL12 := Lib.hid (HL11.out.on hb12)
  clear hb12 c0 c1 c2 c3 c4 c5 c6 BX11 HL11
  obtain ⟨c0, c1, c2, c3, c4, c5, c6⟩ := BX12.out
  go_upto_region 7 with (fail)
  have C0 := fun d os => cell_regrown c0 d os
  have HCK' := Lib.hid (fun p : Regrown => HCK.out _ (HL12.out.on (below_regrown w12 p.d p.os)))
  have HMY' := Lib.hid (fun p : Regrown => HMY.out _ (HL12.out.on (below_regrown w12 p.d p.os)))
  refine q_enter (by kernel_rfl) (by kernel_rfl) ?_
  iterate 10 (refine q_step ?_; intro K hK; go_simp; first | (refine hK _ ?_; clear hK K) | (refine ⟨_, fun p => Calls.regrown_of (by with_reducible exact HCK'.out p), hK _ ?_⟩; clear hK K) | (refine ⟨_, fun p => Calls.regrown_of (by with_reducible exact HMY'.out p), hK _ ?_⟩; clear hK K))
  refine q_nil ?_
  intro w13 hb13
  clear C0 HCK' HMY'
  have HB13 : Hid (Below w.heap.size w w13) := Lib.hid (HB12.out.trans (hb13.mono HB12.out.size))
  have BX13 := Lib.hid (BX12.out.on hb13)
  have HL13 := Lib.hid (HL12.out.on hb13)
  clear hb13 c0 c1 c2 c3 c4 c5 c6 BX12 HL12
  obtain ⟨c0, c1, c2, c3, c4, c5, c6⟩ := BX13.out
  go_wp2_with fail
  refine (HMY.out _ HL13.out).mono ?_
  rintro e w14 ⟨rfl, hb14⟩
  have HB14 : Hid (Below w.heap.size w w14) := Lib.hid (HB13.out.trans (hb14.mono HB13.out.size))
  have BX14 := Lib.hid (BX13.out.on hb14)
  have HL14 := Lib.hid (HL13.out.on hb14)
  clear hb14 c0 c1 c2 c3 c4 c5 c6 BX13 HL13
  obtain ⟨c0, c1, c2, c3, c4, c5, c6⟩ := BX14.out
  go_wp2_with fail
  refine (HRT.out _ HL14.out).mono ?_
  rintro e w1 ⟨rfl, rfl⟩
  go_wp2_with fail
  refine (HBD.out _).mono ?_
  rintro e w1 ⟨rfl, rfl⟩
  go_wp2_with fail
  refine (HRN.out _ HL14.out).mono ?_
  rintro e w1 ⟨rfl, rfl⟩
  go_upto_region 21 with (fail)
  have C0 := fun d os => cell_regrown c0 d os
  have C2 := fun d os => cell_regrown c2 d os
  have C3 := fun d os => cell_regrown c3 d os
  have HR1' := Lib.hid (fun p : Regrown => (HR1.out _ (HL14.out.on (below_regrown w14 p.d p.os))).mono fun e w' (h : _ ∧ grow (redrawn w14 p.d) p.os = w') => And.intro h.1 (show Below (grow (redrawn w14 p.d) p.os).heap.size (grow (redrawn w14 p.d) p.os) w' from by rw [← h.2]; exact Below.refl _ _))
  have HAW := Lib.hid (fun p : Regrown => awake_any (grow (redrawn w14 p.d) p.os))
  have u1 : IntKind.i64.wrap ((k : Int) + 1) = (k : Int) + 1 := IntWalk.i64_in _ (by omega)
  by_cases hkl : k = l.length
  · have e8 : ((k : Int) == (l.length : Int)) = true := by simp; omega
    have HKL := Lib.hid hkl
    clear hkl
    refine q_enter (by kernel_rfl) (by kernel_rfl) ?_
    iterate 34 (refine q_step ?_; intro K hK; go_simp; first | (refine hK _ ?_; clear hK K) | (refine ⟨_, fun p => Calls.regrown_of (by with_reducible exact HR1'.out p), hK _ ?_⟩; clear hK K) | (refine ⟨_, fun p => Calls.regrown_of (by with_reducible exact HAW.out p), hK _ ?_⟩; clear hK K))
    refine q_nil ?_
    intro w15 hb15
    clear C0 C2 C3 HR1' HAW
    have HB15 : Hid (Below w.heap.size w w15) := Lib.hid (HB14.out.trans (hb15.mono HB14.out.size))
    have BX15 := Lib.hid (BX14.out.on hb15)
    have HL15 := Lib.hid (HL14.out.on hb15)
    clear hb15 c0 c1 c2 c3 c4 c5 c6 BX14 HL14
    obtain ⟨c0, c1, c2, c3, c4, c5, c6⟩ := BX15.out
    go_wp2_with fail
    go_ret
    exact ⟨rfl, HB15.out⟩
  · have e8 : ((k : Int) == (l.length : Int)) = false := by simp; omega
    have k3 : (0 : Int) ≤ (k : Int) + 1 := by omega
    have k4 : (k : Int) + 1 ≤ (c : Int) := by omega
    have HR2' := Lib.hid (fun p : Regrown => (HR2.out hkl _ (HL14.out.on (below_regrown w14 p.d p.os))).mono fun e w' (h : _ ∧ grow (redrawn w14 p.d) p.os = w') => And.intro h.1 (show Below (grow (redrawn w14 p.d) p.os).heap.size (grow (redrawn w14 p.d) p.os) w' from by rw [← h.2]; exact Below.refl _ _))
    clear hkl
    refine q_enter (by kernel_rfl) (by kernel_rfl) ?_
    iterate 34 (refine q_step ?_; intro K hK; go_simp; first | (refine hK _ ?_; clear hK K) | (refine ⟨_, fun p => Calls.regrown_of (by with_reducible exact HR1'.out p), hK _ ?_⟩; clear hK K) | (refine ⟨_, fun p => Calls.regrown_of (by with_reducible exact HR2'.out p), hK _ ?_⟩; clear hK K) | (refine ⟨_, fun p => Calls.regrown_of (by with_reducible exact HAW.out p), hK _ ?_⟩; clear hK K))
    refine q_nil ?_
    intro w15 hb15
    clear HR2'
    clear C0 C2 C3 HR1' HAW
    have HB15 : Hid (Below w.heap.size w w15) := Lib.hid (HB14.out.trans (hb15.mono HB14.out.size))
    have BX15 := Lib.hid (BX14.out.on hb15)
    have HL15 := Lib.hid (HL14.out.on hb15)
    clear hb15 c0 c1 c2 c3 c4 c5 c6 BX14 HL14
    obtain ⟨c0, c1, c2, c3, c4, c5, c6⟩ := BX15.out
    go_wp2_with fail
    go_ret
    exact ⟨rfl, HB15.out⟩

end Go.Proofs.Ytmbapcdchaamfaa.lawTells
