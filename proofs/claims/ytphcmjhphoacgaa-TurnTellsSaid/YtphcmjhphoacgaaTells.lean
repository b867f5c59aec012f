/-
  TurnTells: which turns, and nodes, may be, and which node is asked next, or why none is, are as the document says: the law returns true for every input.
-/
import Derived.Test.YtphcmjhphoacgaaSt
import Derived.Test.YtphcmjhphoacgaaApp
import Derived.Test.YtphcmjhphoacgaaRnext
namespace Go.Proofs.Ytphcmjhphoacgaa.lawTells
open Go.Sort Go.ChangeShapes Go.WideShapes Go.ChangeAt Go.RowKit Go.Proofs.Ytphcmjhphoacgaa.Pure

/-- The dice that are answered are as long as those that are left. -/
theorem same_iff (T T' : List Int) (p q : Int) (S : Bool) (h : decide (p = q ∧ T = T') = S) : decide (p = q ∧ T = T') = S := h
theorem okE_eq (L : Bool) : (okE L == 0) = L := by cases L <;> rfl

set_option maxRecDepth 100000 in
set_option maxHeartbeats 4000000 in
theorem walk (A : Option Addr) (c : Nat) (T0 : List Int) (p : Int) (s0 : ByteArray) (a : Int) (A' : Option Addr) (c' : Nat) (l0 : List Int) (w : World) (htc : T0.length ≤ c) (hcm : c ≤ maxLen) (hT0 : Has w 0 w.heap.size A T0) (hs0 : s0.size ≤ maxLen) (hlc : l0.length ≤ c') (hcm' : c' ≤ maxLen) (hl0 : Has w 0 w.heap.size A' l0) :
    Calls Try.prog 3 #[.agg #[.slice A T0.length c, .int .i64 p], .agg #[.string s0, .int .i64 a], .slice A' l0.length c'] w fun e w' => e = .returned (.bool true) ∧ Below w.heap.size w w' := by
  have HF := Lib.hid (fun W => few_any s0 a W hs0)
  have HC1 := Lib.hid (fun (W : World) (h : Has W 0 w.heap.size A T0) => fewl_below A c 0 w.heap.size T0 W htc hcm h)
  have HC3 := Lib.hid (fun (W : World) (h : Has W 0 w.heap.size A' l0) => fewl_below A' c' 0 w.heap.size l0 W hlc hcm' h)
  have HTT := Lib.hid hT0
  have HLL := Lib.hid hl0
  have HTX : Hid (Has w 0 w.heap.size A (cutF T0)) := Lib.hid (hT0.take 65)
  have HX0 : Hid (Has w 0 w.heap.size A' (cutF l0)) := Lib.hid (hl0.take 65)
  have hTl := cutF_len T0
  have hxl := cutF_len l0
  have hft := fewB_size s0
  generalize fewB s0 = s at *
  generalize hX : cutF l0 = l at *
  generalize hY : cutF T0 = T at *
  clear hT0 hl0 hX hY htc hlc
  go_enter Try.func3, Try.ntmps3
  go_upto_region 1 with (fail)
  have HB0 : Hid (Below w.heap.size w ((w.alloc (.cells #[.slice A T0.length c, .int .i64 p] 24)).alloc (.cells #[.string s0, .int .i64 a] 26))) := Lib.hid (((Below.refl _ _).alloc (Nat.le_refl _) _).alloc (by simp) _)
  obtain ⟨hq1, hq2, _⟩ := boxes_new w (.slice A T0.length c) p s0 a
  have HP := Lib.hid hq1
  have HQ := Lib.hid hq2
  clear hq1 hq2
  generalize (w.alloc (.cells #[.slice A T0.length c, .int .i64 p] 24)).alloc (.cells #[.string s0, .int .i64 a] 26) = w1 at *
  obtain ⟨x0, x1, xf0, xf1⟩ := HP.out
  obtain ⟨y0, y1, yf0, yf1⟩ := HQ.out
  have X0 := fun d os => cell_regrown x0 d os
  have X1 := fun d os => cell_regrown x1 d os
  have Y0 := fun d os => cell_regrown y0 d os
  have Y1 := fun d os => cell_regrown y1 d os
  have R1 := Lib.hid (fun q : Regrown => HC1.out (grow (redrawn w1 q.d) q.os) ((HTT.out.on HB0.out (Nat.le_refl _)).on (below_regrown w1 q.d q.os) HB0.out.size))
  have R3 := Lib.hid (fun q : Regrown => HC3.out (grow (redrawn w1 q.d) q.os) ((HLL.out.on HB0.out (Nat.le_refl _)).on (below_regrown w1 q.d q.os) HB0.out.size))
  have R2 := Lib.hid (fun q : Regrown => HF.out (grow (redrawn w1 q.d) q.os))
  refine ts_region 8 (by kernel_rfl) (by kernel_rfl) ?_
  simp only [List.take_succ_cons, List.take_zero, List.drop_succ_cons, List.drop_zero]
  iterate 8 (refine q_step ?_; intro K hK; go_simp; first | (refine hK _ ?_; clear hK K) | (refine ⟨_, fun q => Calls.regrown_of (by with_reducible exact R1.out q), hK _ ?_⟩; clear hK K) | (refine ⟨_, fun q => Calls.regrown_of (by with_reducible exact R2.out q), hK _ ?_⟩; clear hK K) | (refine ⟨_, fun q => Calls.regrown_of (by with_reducible exact R3.out q), hK _ ?_⟩; clear hK K))
  refine q_nil ?_
  intro wz hbz
  have HPz := Lib.hid (HP.out.on hbz)
  have HQz := Lib.hid (HQ.out.on hbz)
  have HT : Hid (Tb (((wz.setCell ⟨w.heap.size, 0, none⟩ (.slice A T.length c)).setCell ⟨w.heap.size + 1, 0, none⟩ (.string s)).setCell ⟨w.heap.size + 1, 1, none⟩ (.int .i64 a)) w.heap.size (.slice A T.length c) p) := Lib.hid (((HPz.out.put0 (.slice A T.length c)).far (a := ⟨w.heap.size + 1, 0, none⟩) (by simp) _).far (a := ⟨w.heap.size + 1, 1, none⟩) (by simp) _)
  have HD : Hid (Box (((wz.setCell ⟨w.heap.size, 0, none⟩ (.slice A T.length c)).setCell ⟨w.heap.size + 1, 0, none⟩ (.string s)).setCell ⟨w.heap.size + 1, 1, none⟩ (.int .i64 a)) (w.heap.size + 1) s a) := Lib.hid ((HQz.out.far (p := ⟨w.heap.size, 0, none⟩) (by simp) _).put s a)
  have HB1 : Hid (Below w.heap.size w (((wz.setCell ⟨w.heap.size, 0, none⟩ (.slice A T.length c)).setCell ⟨w.heap.size + 1, 0, none⟩ (.string s)).setCell ⟨w.heap.size + 1, 1, none⟩ (.int .i64 a))) := Lib.hid ((((HB0.out.trans (hbz.mono HB0.out.size)).setCell (p := ⟨w.heap.size, 0, none⟩) (Nat.le_refl _) _).setCell (p := ⟨w.heap.size + 1, 0, none⟩) (by simp) _).setCell (p := ⟨w.heap.size + 1, 1, none⟩) (by simp) _)
  clear x0 x1 xf0 xf1 y0 y1 yf0 yf1 X0 X1 Y0 Y1 R1 R2 R3 hbz HP HQ HTT HLL HC1 HC3 HF HB0
  obtain ⟨x0, x1, xf0, xf1⟩ := HPz.out
  obtain ⟨y0, y1, yf0, yf1⟩ := HQz.out
  go_upto_region 2 with (fail)
  clear x0 x1 xf0 xf1 y0 y1 yf0 yf1 HPz HQz
  generalize ((wz.setCell ⟨w.heap.size, 0, none⟩ (.slice A T.length c)).setCell ⟨w.heap.size + 1, 0, none⟩ (.string s)).setCell ⟨w.heap.size + 1, 1, none⟩ (.int .i64 a) = w2 at *
  obtain ⟨R, hR⟩ : ∃ R, ans s.data.toList a T p l = R := ⟨_, rfl⟩
  obtain ⟨N, hN⟩ : ∃ N, nodesB l = N := ⟨_, rfl⟩
  obtain ⟨J, hJ⟩ : ∃ J, okT T p = J := ⟨_, rfl⟩
  obtain ⟨Q, hQ⟩ : ∃ Q, decide (p = R.p ∧ T = R.T) = Q := ⟨_, rfl⟩
  have HNX := Lib.hid (fun (W : World) (h : Has W 0 w.heap.size A T) (hh : w.heap.size ≤ W.heap.size) (h' : Has W 0 w.heap.size A' l) => next_any s a A A' c c' 0 w.heap.size 0 w.heap.size T l p W (by omega) (by omega) (by omega) h hh h' hh R hR)
  have HRN := Lib.hid (fun (W : World) (h : Has W 0 w.heap.size A T) (hh : w.heap.size ≤ W.heap.size) (h' : Has W 0 w.heap.size A' l) => rnext_any s a A A' c c' 0 w.heap.size 0 w.heap.size T l p W (by omega) (by omega) (by omega) h hh h' hh R hR)
  have hRT : R.T.length ≤ 100000 := by rw [← hR]; unfold ans; split <;> (try split) <;> simp only <;> (first | omega | (unfold nx; split <;> simp only <;> (first | omega | (rw [shufAll_len]; omega))))
  have HNS := Lib.hid (fun (W : World) (h : Has W 0 w.heap.size A' l) (hh : w.heap.size ≤ W.heap.size) => nodes_t A' c' 0 w.heap.size l W (by omega) h hh N hN)
  have HNR := Lib.hid (fun (W : World) (h : Has W 0 w.heap.size A' l) => rnodes_t A' c' 0 w.heap.size l W (by omega) h N hN)
  have HJS := Lib.hid (fun (W : World) (h : Has W 0 w.heap.size A T) (hh : w.heap.size ≤ W.heap.size) => check_t A c 0 w.heap.size T p W (by omega) h hh J hJ)
  have HJR := Lib.hid (fun (W : World) (h : Has W 0 w.heap.size A T) (hh : w.heap.size ≤ W.heap.size) => may_t A c 0 w.heap.size T p W (by omega) h hh J hJ)
  have HQ := Lib.hid hQ
  clear hR hN hJ hQ
  obtain ⟨n, T', p', a', e'⟩ := R
  simp only at hRT HQ
  have HNX' : Hid (∀ (W : World) (_ : Has W 0 w.heap.size A T) (_ : w.heap.size ≤ W.heap.size) (_ : Has W 0 w.heap.size A' l), Calls Try.prog 11 #[.agg #[.slice A T.length c, .int .i64 p], .agg #[.string s, .int .i64 a], .slice A' l.length c'] W fun e w' => ∃ A2 c2, e = .returned (.tuple #[.int .i64 n, .agg #[.slice A2 T'.length c2, .int .i64 p'], .agg #[.string s, .int .i64 a'], .int .i64 e']) ∧ Has w' W.heap.size w'.heap.size A2 T' ∧ Below W.heap.size W w') := HNX
  have HRN' : Hid (∀ (W : World) (_ : Has W 0 w.heap.size A T) (_ : w.heap.size ≤ W.heap.size) (_ : Has W 0 w.heap.size A' l), Calls Try.prog 12 #[.agg #[.slice A T.length c, .int .i64 p], .agg #[.string s, .int .i64 a], .slice A' l.length c'] W fun e w' => ∃ A2 c2, e = .returned (.tuple #[.int .i64 n, .agg #[.slice A2 T'.length c2, .int .i64 p'], .agg #[.string s, .int .i64 a'], .int .i64 e']) ∧ Has w' 0 w'.heap.size A2 T' ∧ Below W.heap.size W w') := HRN
  clear HNX HRN
  obtain ⟨x0, x1, _, _⟩ := HT.out
  obtain ⟨y0, y1, _, _⟩ := HD.out
  go_wp2_with fail
  refine (HNX'.out _ (HTX.out.on HB1.out (Nat.le_refl _)) HB1.out.size (HX0.out.on HB1.out (Nat.le_refl _))).mono ?_
  rintro e w3 ⟨A3, c3, rfl, hh3, hb⟩
  have H3 : Hid (Has w3 0 w3.heap.size A3 T') := Lib.hid (hh3.wide (Nat.zero_le _) (Nat.le_refl _))
  clear hh3 x0 x1 y0 y1
  have HB_1 : Hid (Below w.heap.size w w3) := Lib.hid (HB1.out.trans (hb.mono HB1.out.size))
  have T_1 := Lib.hid (HT.out.on hb)
  have D_1 := Lib.hid (HD.out.on hb)
  clear HB1 HT HD hb
  obtain ⟨hx, hc, hbn⟩ := boxes_new w3 (.slice A3 T'.length c3) p' s a'
  have HX3 := Lib.hid hx
  have HC3 := Lib.hid hc
  have HR3 : Hid (Has ((w3.alloc (.cells #[.slice A3 T'.length c3, .int .i64 p'] 24)).alloc (.cells #[.string s, .int .i64 a'] 26)) 0 w3.heap.size A3 T') := Lib.hid (H3.out.on hbn (Nat.le_refl _))
  have hl3 : w3.heap.size ≤ ((w3.alloc (.cells #[.slice A3 T'.length c3, .int .i64 p'] 24)).alloc (.cells #[.string s, .int .i64 a'] 26)).heap.size := hbn.size
  clear hx hc H3
  have HB_2 : Hid (Below w.heap.size w ((w3.alloc (.cells #[.slice A3 T'.length c3, .int .i64 p'] 24)).alloc (.cells #[.string s, .int .i64 a'] 26))) := Lib.hid (HB_1.out.trans (hbn.mono HB_1.out.size))
  have T_2 := Lib.hid (T_1.out.on hbn)
  have D_2 := Lib.hid (D_1.out.on hbn)
  clear HB_1 T_1 D_1 hbn
  go_upto_region 3 with (fail)
  generalize (w3.alloc (.cells #[.slice A3 T'.length c3, .int .i64 p'] 24)).alloc (.cells #[.string s, .int .i64 a'] 26) = w4 at *
  generalize w3.heap.size = g3 at *
  have HS3 : Hid (Has w4 0 w4.heap.size A3 T') := Lib.hid (HR3.out.wide (Nat.le_refl _) hl3)
  clear HR3 hl3
  obtain ⟨x0, x1, _, _⟩ := T_2.out
  obtain ⟨y0, y1, _, _⟩ := D_2.out
  go_wp2_with fail
  refine (HRN'.out _ (HTX.out.on HB_2.out (Nat.le_refl _)) HB_2.out.size (HX0.out.on HB_2.out (Nat.le_refl _))).mono ?_
  rintro e w5 ⟨A5, c5, rfl, hh5, hb⟩
  have H5 : Hid (Has w5 0 w5.heap.size A5 T') := Lib.hid hh5
  have HS3' : Hid (Has w5 0 w5.heap.size A3 T') := Lib.hid ((HS3.out.on hb (Nat.le_refl _)).wide (Nat.le_refl _) hb.size)
  clear hh5 x0 x1 y0 y1 HS3
  have HB_3 : Hid (Below w.heap.size w w5) := Lib.hid (HB_2.out.trans (hb.mono HB_2.out.size))
  have T_3 := Lib.hid (T_2.out.on hb)
  have D_3 := Lib.hid (D_2.out.on hb)
  have X3_3 := Lib.hid (HX3.out.on hb)
  have C3_3 := Lib.hid (HC3.out.on hb)
  clear HB_2 T_2 D_2 HX3 HC3 hb
  have HS3'' : Hid (Has ((w5.alloc (.cells #[.slice A5 T'.length c5, .int .i64 p'] 24)).alloc (.cells #[.string s, .int .i64 a'] 26)) 0 ((w5.alloc (.cells #[.slice A5 T'.length c5, .int .i64 p'] 24)).alloc (.cells #[.string s, .int .i64 a'] 26)).heap.size A3 T') := Lib.hid (((HS3'.out.alloc _ (Nat.le_refl _)).alloc _ (by simp)).wide (Nat.le_refl _) (by simp; omega))
  obtain ⟨hx, hc, hbn⟩ := boxes_new w5 (.slice A5 T'.length c5) p' s a'
  have HX5 := Lib.hid hx
  have HC5 := Lib.hid hc
  have HR5 : Hid (Has ((w5.alloc (.cells #[.slice A5 T'.length c5, .int .i64 p'] 24)).alloc (.cells #[.string s, .int .i64 a'] 26)) 0 w5.heap.size A5 T') := Lib.hid (H5.out.on hbn (Nat.le_refl _))
  have hl5 : w5.heap.size ≤ ((w5.alloc (.cells #[.slice A5 T'.length c5, .int .i64 p'] 24)).alloc (.cells #[.string s, .int .i64 a'] 26)).heap.size := hbn.size
  clear hx hc H5
  have HB_4 : Hid (Below w.heap.size w ((w5.alloc (.cells #[.slice A5 T'.length c5, .int .i64 p'] 24)).alloc (.cells #[.string s, .int .i64 a'] 26))) := Lib.hid (HB_3.out.trans (hbn.mono HB_3.out.size))
  have T_4 := Lib.hid (T_3.out.on hbn)
  have D_4 := Lib.hid (D_3.out.on hbn)
  have X3_4 := Lib.hid (X3_3.out.on hbn)
  have C3_4 := Lib.hid (C3_3.out.on hbn)
  clear HB_3 T_3 D_3 X3_3 C3_3 hbn
  go_upto_region 4 with (fail)
  generalize (w5.alloc (.cells #[.slice A5 T'.length c5, .int .i64 p'] 24)).alloc (.cells #[.string s, .int .i64 a'] 26) = w6 at *
  generalize w5.heap.size = g5 at *
  have HS5 : Hid (Has w6 0 w6.heap.size A5 T') := Lib.hid (HR5.out.wide (Nat.le_refl _) hl5)
  clear HR5 hl5 HS3' HNX' HRN'
  obtain ⟨x0, x1, _, _⟩ := T_4.out
  obtain ⟨y0, y1, _, _⟩ := D_4.out
  obtain ⟨u0, u1, _, _⟩ := X3_4.out
  obtain ⟨v0, v1, _, _⟩ := C3_4.out
  obtain ⟨r0, r1, _, _⟩ := HX5.out
  obtain ⟨t0, t1, _, _⟩ := HC5.out
  have K0 := fun d os => cell_regrown x0 d os
  have K1 := fun d os => cell_regrown x1 d os
  have K2 := fun d os => cell_regrown u0 d os
  have K3 := fun d os => cell_regrown u1 d os
  have K4 := fun d os => cell_regrown v0 d os
  have K5 := fun d os => cell_regrown v1 d os
  have K6 := fun d os => cell_regrown r0 d os
  have K7 := fun d os => cell_regrown r1 d os
  have K8 := fun d os => cell_regrown t0 d os
  have K9 := fun d os => cell_regrown t1 d os
  have HTW : Hid (Has w6 0 w.heap.size A T) := Lib.hid (HTX.out.on HB_4.out (Nat.le_refl _))
  have HLW : Hid (Has w6 0 w.heap.size A' l) := Lib.hid (HX0.out.on HB_4.out (Nat.le_refl _))
  have hwz := Lib.hid HB_4.out.size
  have hbq : Hid (∀ q : Regrown, Below w6.heap.size w6 (grow (redrawn w6 q.d) q.os)) := Lib.hid (fun q => below_regrown w6 q.d q.os)
  have hsq : Hid (∀ q : Regrown, w6.heap.size ≤ (grow (redrawn w6 q.d) q.os).heap.size) := Lib.hid (fun q => (hbq.out q).size)
  have C1 := Lib.hid (fun q : Regrown => rsame_t A3 A5 c3 c5 0 w6.heap.size 0 w6.heap.size T' T' p' p' (grow (redrawn w6 q.d) q.os) hRT (HS3''.out.on (hbq.out q) (Nat.le_refl _)) (HS5.out.on (hbq.out q) (Nat.le_refl _)) (hsq.out q) (hsq.out q) true (by simp))
  have C2 := Lib.hid (fun q : Regrown => HJS.out (grow (redrawn w6 q.d) q.os) (HTW.out.on (hbq.out q) hwz.out) (Nat.le_trans hwz.out (hsq.out q)))
  have C3 := Lib.hid (fun q : Regrown => HJR.out (grow (redrawn w6 q.d) q.os) (HTW.out.on (hbq.out q) hwz.out) (Nat.le_trans hwz.out (hsq.out q)))
  have C4 := Lib.hid (fun q : Regrown => HNS.out (grow (redrawn w6 q.d) q.os) (HLW.out.on (hbq.out q) hwz.out) (Nat.le_trans hwz.out (hsq.out q)))
  have C5 := Lib.hid (fun q : Regrown => HNR.out (grow (redrawn w6 q.d) q.os) (HLW.out.on (hbq.out q) hwz.out))
  have C6 := Lib.hid (fun q : Regrown => same_t A A3 c c3 0 w.heap.size 0 w6.heap.size T T' p p' (grow (redrawn w6 q.d) q.os) (by omega) (HTW.out.on (hbq.out q) hwz.out) (HS3''.out.on (hbq.out q) (Nat.le_refl _)) (Nat.le_trans hwz.out (hsq.out q)) (hsq.out q) Q HQ.out)
  have C7 := Lib.hid (fun q : Regrown => rsame_t A A3 c c3 0 w.heap.size 0 w6.heap.size T T' p p' (grow (redrawn w6 q.d) q.os) (by omega) (HTW.out.on (hbq.out q) hwz.out) (HS3''.out.on (hbq.out q) (Nat.le_refl _)) (Nat.le_trans hwz.out (hsq.out q)) (hsq.out q) Q HQ.out)
  have C8 := Lib.hid (fun q : Regrown => awake_any (grow (redrawn w6 q.d) q.os))
  have q1 : (n == n) = true := by simp
  have q2 : (s.toList == s.toList) = true := by simp
  have q3 : (a' == a') = true := by simp
  have q4 : (e' == e') = true := by simp
  clear HJS HJR HNS HNR hbq hsq
  have z0 : okE true = 0 := rfl
  have z1 : okE false = 1 := rfl
  have q5 : (J == J) = true := by simp
  have q6 : (N == N) = true := by simp
  have q7 : (Q == Q) = true := by simp
  have q8 : (okE J == 0) = J := okE_eq J
  have q9 : (okE N == 0) = N := okE_eq N
  refine q_enter (by kernel_rfl) (by kernel_rfl) ?_
  refine q_step ?_; intro K hK; go_simp; refine hK _ ?_; clear hK K
  refine q_step ?_; intro K hK; go_simp; refine hK _ ?_; clear hK K
  refine q_step ?_; intro K hK; go_simp; refine hK _ ?_; clear hK K
  refine q_step ?_; intro K hK; go_simp; refine hK _ ?_; clear hK K
  refine q_step ?_; intro K hK; go_simp; refine hK _ ?_; clear hK K
  refine q_step ?_; intro K hK; go_simp; refine hK _ ?_; clear hK K
  refine q_step ?_; intro K hK; go_simp; refine ⟨_, fun q => Calls.regrown_of (by with_reducible exact C1.out q), hK _ ?_⟩; clear hK K C1
  refine q_step ?_; intro K hK; go_simp; refine hK _ ?_; clear hK K
  refine q_step ?_; intro K hK; go_simp; refine hK _ ?_; clear hK K
  refine q_step ?_; intro K hK; go_simp; refine hK _ ?_; clear hK K
  refine q_step ?_; intro K hK; go_simp; refine hK _ ?_; clear hK K
  refine q_step ?_; intro K hK; go_simp; refine hK _ ?_; clear hK K
  refine q_step ?_; intro K hK; go_simp; refine hK _ ?_; clear hK K
  refine q_step ?_; intro K hK; go_simp; refine hK _ ?_; clear hK K
  refine q_step ?_; intro K hK; go_simp; refine hK _ ?_; clear hK K
  refine q_step ?_; intro K hK; go_simp; refine hK _ ?_; clear hK K
  refine q_step ?_; intro K hK; go_simp; refine hK _ ?_; clear hK K
  refine q_step ?_; intro K hK; go_simp; refine hK _ ?_; clear hK K
  refine q_step ?_; intro K hK; go_simp; refine hK _ ?_; clear hK K
  refine q_step ?_; intro K hK; go_simp; refine hK _ ?_; clear hK K
  refine q_step ?_; intro K hK; go_simp; refine ⟨_, fun q => Calls.regrown_of (by with_reducible exact C2.out q), hK _ ?_⟩; clear hK K C2
  refine q_step ?_; intro K hK; go_simp; refine hK _ ?_; clear hK K
  refine q_step ?_; intro K hK; go_simp; refine hK _ ?_; clear hK K
  refine q_step ?_; intro K hK; go_simp; refine ⟨_, fun q => Calls.regrown_of (by with_reducible exact C3.out q), hK _ ?_⟩; clear hK K C3
  refine q_step ?_; intro K hK; go_simp; refine hK _ ?_; clear hK K
  refine q_step ?_; intro K hK; go_simp; refine hK _ ?_; clear hK K
  refine q_step ?_; intro K hK; go_simp; refine hK _ ?_; clear hK K
  refine q_step ?_; intro K hK; go_simp; refine hK _ ?_; clear hK K
  refine q_step ?_; intro K hK; go_simp; refine ⟨_, fun q => Calls.regrown_of (by with_reducible exact C4.out q), hK _ ?_⟩; clear hK K C4
  refine q_step ?_; intro K hK; go_simp; refine hK _ ?_; clear hK K
  refine q_step ?_; intro K hK; go_simp; refine hK _ ?_; clear hK K
  refine q_step ?_; intro K hK; go_simp; refine ⟨_, fun q => Calls.regrown_of (by with_reducible exact C5.out q), hK _ ?_⟩; clear hK K C5
  refine q_step ?_; intro K hK; go_simp; refine hK _ ?_; clear hK K
  refine q_step ?_; intro K hK; go_simp; refine hK _ ?_; clear hK K
  refine q_step ?_; intro K hK; go_simp; refine hK _ ?_; clear hK K
  refine q_step ?_; intro K hK; go_simp; refine hK _ ?_; clear hK K
  refine q_step ?_; intro K hK; go_simp; refine hK _ ?_; clear hK K
  refine q_step ?_; intro K hK; go_simp; refine ⟨_, fun q => Calls.regrown_of (by with_reducible exact C6.out q), hK _ ?_⟩; clear hK K C6
  refine q_step ?_; intro K hK; go_simp; refine hK _ ?_; clear hK K
  refine q_step ?_; intro K hK; go_simp; refine hK _ ?_; clear hK K
  refine q_step ?_; intro K hK; go_simp; refine ⟨_, fun q => Calls.regrown_of (by with_reducible exact C7.out q), hK _ ?_⟩; clear hK K C7
  refine q_step ?_; intro K hK; go_simp; refine hK _ ?_; clear hK K
  refine q_step ?_; intro K hK; go_simp; refine hK _ ?_; clear hK K
  refine q_step ?_; intro K hK; go_simp; refine hK _ ?_; clear hK K
  refine q_step ?_; intro K hK; go_simp; refine ⟨_, fun q => Calls.regrown_of (by with_reducible exact C8.out q), hK _ ?_⟩; clear hK K C8
  refine q_step ?_; intro K hK; go_simp; refine hK _ ?_; clear hK K
  refine q_step ?_; intro K hK; go_simp; refine hK _ ?_; clear hK K
  refine q_nil ?_
  intro wz hbz
  have HZ : Hid (Below w.heap.size w wz) := Lib.hid (HB_4.out.trans (hbz.mono HB_4.out.size))
  clear hbz
  go_wp2_with fail
  go_ret
  exact ⟨rfl, HZ.out⟩

/-! ### the statement -/
theorem parOk : ∀ t ∈ (#[24, 26, 22] : Array TypeId).toList, Try.prog.readableRec t = true ∧ t < Try.prog.types.size := by
  have hall : ([24, 26, 22].all fun t => Try.prog.readableRec t && decide (t < Try.prog.types.size)) = true := by kernel_rfl
  intro t ht
  simpa using List.all_eq_true.1 hall t ht

set_option maxRecDepth 100000 in
/-- What the walk gives, for every argument. -/
theorem contract (H : Type) (enc : TypeId × Value → H) (W : World) (base : Nat) (args : Array Value) (ds gs : List (DataW H)) (before : List MemPlace)
    (hval : ∀ (j : Nat) t v, Try.f3.params[j]? = some t → args[j]? = some v → Value.okWide Try.prog W .any base t v)
    (hW : DataW.Whole enc Try.prog Try.f3.params.toList Rows.turnTellsSpec.vars false W args.toList ds gs before) :
    Calls Try.prog 3 args W fun e W' => ∃ v, e = .returned v ∧ Rows.turnTellsSpec.post enc Try.prog Try.f3 false true false false W args v W' := by
  have hW' := hW
  obtain ⟨p, q, hA0, hV, rfl, hfz, hnd⟩ := hW
  have hA : DataW.TrodAll enc Try.prog W 0 (fun _ => true) true Try.f3.params.toList args.toList ds p := hA0
  rw [Try.params3] at hA hval
  obtain ⟨v0, vs0, d0, ds0, p0, q0, hargs, rfl, rfl, h0, r0⟩ := trodAll_cons hA
  obtain ⟨v1, vs1, d1, ds1, p1, q1, rfl, rfl, rfl, h1, r1⟩ := trodAll_cons r0
  obtain ⟨v2, vs2, d2, ds2, p2, q2, rfl, rfl, rfl, h2, r2⟩ := trodAll_cons r1
  obtain ⟨rfl, rfl, rfl⟩ := trodAll_nil r2
  obtain rfl : args = #[v0, v1, v2] := by cases args; simp_all
  obtain ⟨rfl, rfl⟩ := trodVars_none hV
  obtain ⟨A, c, T, p, rfl, htc, hcm, hT⟩ := open_turn (hval 0 24 v0 rfl rfl) h0
  obtain ⟨s, a, rfl, hs, _, _⟩ := open_dice (hval 1 26 v1 rfl rfl) h1
  obtain ⟨A', c', l, rfl, hlc, hcm', hl⟩ := open_nums (hval 2 22 v2 rfl rfl) h2
  clear hA0
  refine (walk A c T p s a A' c' l W htc hcm hT hs hlc hcm' hl).mono fun e W' ⟨he, hb⟩ => ?_
  subst he
  exact ⟨_, rfl, law_post rfl (by rw [Try.params3]; exact parOk) rfl hW' rfl rfl rfl hb⟩

set_option maxRecDepth 100000 in
theorem lifted (os : Os) (started : os.Started) (H : Type) (enc : TypeId × Value → H) :
    ReturnsInHanded {} Try.checked os 3 .any (Rows.turnTellsSpec.pre6 enc Try.prog Try.f3 Rows.turnTellsRow.domain false) (Rows.turnTellsSpec.post enc Try.prog Try.f3 false true false false) := by
  refine returnsInHanded_of_change (C := Try.checked) own started (by kernel_rfl) Try.func3
    (ChangeSpec.witness6 (enc := enc) (C := Try.checked) false ⟨#[], #[.agg #[.slice none 0 0, .int .i64 0], .agg #[.string ⟨#[]⟩, .int .i64 0], .slice none 0 0], []⟩ 8 (by kernel_rfl) (by kernel_rfl) (by kernel_rfl) (by kernel_rfl)) ?_
  intro W base args ds gs before hval hW _ _
  exact contract H enc W base args ds gs before hval hW

/-- THE STATEMENT. -/
theorem said : Rows.TurnTellsSaid :=
  OpenClaim.holds_of_wide 3 Try.f3 rfl rfl rfl rfl rfl rfl rfl ⟨rfl, rfl, rfl, rfl, rfl⟩ rfl rfl rfl rfl rfl (by kernel_rfl) Try.func3 (by kernel_rfl)
    (of_decide_eq_true (by kernel_rfl)) (by unfold Func.isWrapper; first | (rw [if_pos (by decide +kernel)]; kernel_rfl) | (rw [if_neg (by decide +kernel)]; exact ⟨rfl, rfl⟩))
    (fun os started H enc _ => lifted os started H enc)
end Go.Proofs.Ytphcmjhphoacgaa.lawTells
