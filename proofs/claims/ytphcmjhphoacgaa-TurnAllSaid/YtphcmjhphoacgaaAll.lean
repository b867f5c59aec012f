/-
  TurnAll: if the nodes stay the same n, each of them is asked in any 2 n less 1 that follow one another: the law returns true for every input.
-/
import Derived.Test.YtphcmjhphoacgaaSt
import Derived.Test.YtphcmjhphoacgaaApp
namespace Go.Proofs.Ytphcmjhphoacgaa.lawAll
open Go.Sort Go.ChangeShapes Go.WideShapes Go.ChangeAt Go.RowKit Go.Proofs.Ytphcmjhphoacgaa.Pure

def bad (s : ByteArray) (a : Int) (T : List Int) (p : Int) (l : List Int) : Bool := !(decide (l.length ≤ 10) && (decide (0 < l.length) && (nodesB l && (okT T p && okD s a))))
theorem many_one {l : List Int} {y : Int} (hl : numsB l = true) (hy : y ∈ l) : many l y = 1 := by rw [many_count, ((numsB_iff l).1 hl).2.count, if_pos hy]
theorem many_pos {l : List Int} {y : Int} (hy : y ∈ l) : ¬ many l y = 0 := by
  rw [many_count]
  have := List.count_pos_iff.2 hy
  omega

set_option maxRecDepth 100000 in
set_option maxHeartbeats 4000000 in
theorem walk (A : Option Addr) (c : Nat) (T0 : List Int) (p : Int) (s0 : ByteArray) (a : Int) (A' : Option Addr) (c' : Nat) (l0 : List Int) (w : World) (htc : T0.length ≤ c) (hcm : c ≤ maxLen) (hT0 : Has w 0 w.heap.size A T0) (hs0 : s0.size ≤ maxLen) (hlc : l0.length ≤ c') (hcm' : c' ≤ maxLen) (hl0 : Has w 0 w.heap.size A' l0) :
    Calls Try.prog 4 #[.agg #[.slice A T0.length c, .int .i64 p], .agg #[.string s0, .int .i64 a], .slice A' l0.length c'] w fun e w' => e = .returned (.bool true) ∧ Below w.heap.size w w' := by
  have HF := Lib.hid (fun W => few_any s0 a W hs0)
  have HC1 := Lib.hid (fun (W : World) (h : Has W 0 w.heap.size A T0) => fewl_below A c 0 w.heap.size T0 W htc hcm h)
  have HC3 := Lib.hid (fun (W : World) (h : Has W 0 w.heap.size A' l0) => fewl_below A' c' 0 w.heap.size l0 W hlc hcm' h)
  have HTT := Lib.hid hT0
  have HLL := Lib.hid hl0
  have HTX : Hid (Has w 0 w.heap.size A (cutF T0)) := Lib.hid (hT0.take 65)
  have HX0 : Hid (Has w 0 w.heap.size A' (cutF l0)) := Lib.hid (hl0.take 65)
  have hTl := cutF_len T0
  have hxl := cutF_len l0
  have hft := fewB_size s0
  generalize fewB s0 = s at *
  generalize hX : cutF l0 = l at *
  generalize hY : cutF T0 = T at *
  clear hT0 hl0 hX hY htc hlc
  go_enter Try.func4, Try.ntmps4
  go_upto_region 1 with (fail)
  have HB0 : Hid (Below w.heap.size w ((w.alloc (.cells #[.slice A T0.length c, .int .i64 p] 24)).alloc (.cells #[.string s0, .int .i64 a] 26))) := Lib.hid (((Below.refl _ _).alloc (Nat.le_refl _) _).alloc (by simp) _)
  obtain ⟨hq1, hq2, _⟩ := boxes_new w (.slice A T0.length c) p s0 a
  have HP := Lib.hid hq1
  have HQ := Lib.hid hq2
  clear hq1 hq2
  generalize (w.alloc (.cells #[.slice A T0.length c, .int .i64 p] 24)).alloc (.cells #[.string s0, .int .i64 a] 26) = w1 at *
  obtain ⟨x0, x1, xf0, xf1⟩ := HP.out
  obtain ⟨y0, y1, yf0, yf1⟩ := HQ.out
  have X0 := fun d os => cell_regrown x0 d os
  have X1 := fun d os => cell_regrown x1 d os
  have Y0 := fun d os => cell_regrown y0 d os
  have Y1 := fun d os => cell_regrown y1 d os
  have R1 := Lib.hid (fun q : Regrown => HC1.out (grow (redrawn w1 q.d) q.os) ((HTT.out.on HB0.out (Nat.le_refl _)).on (below_regrown w1 q.d q.os) HB0.out.size))
  have R3 := Lib.hid (fun q : Regrown => HC3.out (grow (redrawn w1 q.d) q.os) ((HLL.out.on HB0.out (Nat.le_refl _)).on (below_regrown w1 q.d q.os) HB0.out.size))
  have R2 := Lib.hid (fun q : Regrown => HF.out (grow (redrawn w1 q.d) q.os))
  refine ts_region 8 (by kernel_rfl) (by kernel_rfl) ?_
  simp only [List.take_succ_cons, List.take_zero, List.drop_succ_cons, List.drop_zero]
  iterate 8 (refine q_step ?_; intro K hK; go_simp; first | (refine hK _ ?_; clear hK K) | (refine ⟨_, fun q => Calls.regrown_of (by with_reducible exact R1.out q), hK _ ?_⟩; clear hK K) | (refine ⟨_, fun q => Calls.regrown_of (by with_reducible exact R2.out q), hK _ ?_⟩; clear hK K) | (refine ⟨_, fun q => Calls.regrown_of (by with_reducible exact R3.out q), hK _ ?_⟩; clear hK K))
  refine q_nil ?_
  intro wz hbz
  have HPz := Lib.hid (HP.out.on hbz)
  have HQz := Lib.hid (HQ.out.on hbz)
  have HT : Hid (Tb (((wz.setCell ⟨w.heap.size, 0, none⟩ (.slice A T.length c)).setCell ⟨w.heap.size + 1, 0, none⟩ (.string s)).setCell ⟨w.heap.size + 1, 1, none⟩ (.int .i64 a)) w.heap.size (.slice A T.length c) p) := Lib.hid (((HPz.out.put0 (.slice A T.length c)).far (a := ⟨w.heap.size + 1, 0, none⟩) (by simp) _).far (a := ⟨w.heap.size + 1, 1, none⟩) (by simp) _)
  have HD : Hid (Box (((wz.setCell ⟨w.heap.size, 0, none⟩ (.slice A T.length c)).setCell ⟨w.heap.size + 1, 0, none⟩ (.string s)).setCell ⟨w.heap.size + 1, 1, none⟩ (.int .i64 a)) (w.heap.size + 1) s a) := Lib.hid ((HQz.out.far (p := ⟨w.heap.size, 0, none⟩) (by simp) _).put s a)
  have HB1 : Hid (Below w.heap.size w (((wz.setCell ⟨w.heap.size, 0, none⟩ (.slice A T.length c)).setCell ⟨w.heap.size + 1, 0, none⟩ (.string s)).setCell ⟨w.heap.size + 1, 1, none⟩ (.int .i64 a))) := Lib.hid ((((HB0.out.trans (hbz.mono HB0.out.size)).setCell (p := ⟨w.heap.size, 0, none⟩) (Nat.le_refl _) _).setCell (p := ⟨w.heap.size + 1, 0, none⟩) (by simp) _).setCell (p := ⟨w.heap.size + 1, 1, none⟩) (by simp) _)
  clear x0 x1 xf0 xf1 y0 y1 yf0 yf1 X0 X1 Y0 Y1 R1 R2 R3 hbz HP HQ HTT HLL HC1 HC3 HF HB0
  obtain ⟨x0, x1, xf0, xf1⟩ := HPz.out
  obtain ⟨y0, y1, yf0, yf1⟩ := HQz.out
  go_upto_region 2 with (fail)
  clear x0 x1 xf0 xf1 y0 y1 yf0 yf1 HPz HQz
  generalize ((wz.setCell ⟨w.heap.size, 0, none⟩ (.slice A T.length c)).setCell ⟨w.heap.size + 1, 0, none⟩ (.string s)).setCell ⟨w.heap.size + 1, 1, none⟩ (.int .i64 a) = w2 at *
  obtain ⟨N, hN⟩ : ∃ N, nodesB l = N := ⟨_, rfl⟩
  obtain ⟨J, hJ⟩ : ∃ J, okT T p = J := ⟨_, rfl⟩
  obtain ⟨K, hK⟩ : ∃ K, okD s a = K := ⟨_, rfl⟩
  have HNS := Lib.hid (fun (W : World) (h : Has W 0 w.heap.size A' l) (hh : w.heap.size ≤ W.heap.size) => nodes_t A' c' 0 w.heap.size l W (by omega) h hh N hN)
  have HJS := Lib.hid (fun (W : World) (h : Has W 0 w.heap.size A T) (hh : w.heap.size ≤ W.heap.size) => check_t A c 0 w.heap.size T p W (by omega) h hh J hJ)
  have HKS := Lib.hid (fun (W : World) => rdmay_any s a W K hK)
  have hbad : Hid (bad s a T p l = !(decide (l.length ≤ 10) && (decide (0 < l.length) && (N && (J && K))))) := Lib.hid (by unfold bad; rw [hN, hJ, hK])
  clear hN hJ hK
  have z0 : okE true = 0 := rfl
  have z1 : okE false = 1 := rfl
  go_cut [46] from 24 to 46 (fun sx wx => sx = .bool (bad s a T p l) ∧ Hid (Below w2.heap.size w2 wx))
  case first =>
    by_cases h10 : 10 < l.length
    · have d1 : decide ((10 : Int) < (l.length : Int)) = true := by simp; omega
      have d2 : decide (10 < l.length) = true := by simp; omega
      have d3 : decide (l.length ≤ 10) = false := by simp; omega
      go_wp2_with fail
      go_meet
      exact ⟨by rw [hbad.out, d3]; rfl, Lib.hid (Below.refl _ _)⟩
    have d1 : decide ((10 : Int) < (l.length : Int)) = false := by simp; omega
    have d2 : decide (10 < l.length) = false := by simp; omega
    have d3 : decide (l.length ≤ 10) = true := by simp; omega
    by_cases h0 : l.length = 0
    · have e1 : ((l.length : Int) == 0) = true := by rw [h0]; rfl
      have d4 : decide (0 < l.length) = false := by rw [h0]; rfl
      have e2 : l = [] := List.eq_nil_of_length_eq_zero h0
      clear h0
      go_wp2_with fail
      go_meet
      exact ⟨by rw [hbad.out, d3, d4]; rfl, Lib.hid (Below.refl _ _)⟩
    have e1 : ((l.length : Int) == 0) = false := by rw [beq_eq_false_iff_ne]; omega
    have d4 : decide (0 < l.length) = true := decide_eq_true (by omega)
    have e2 : ¬ l = [] := fun h => h0 (by rw [h]; rfl)
    clear h0 h10
    go_wp2_with fail
    refine (HNS.out _ (HX0.out.on HB1.out (Nat.le_refl _)) HB1.out.size).mono ?_
    rintro e w3 ⟨rfl, hb3⟩
    have HC3 : Hid (Below w2.heap.size w2 w3) := Lib.hid hb3
    have HT3 := Lib.hid (HT.out.on hb3)
    have HD3 := Lib.hid (HD.out.on hb3)
    have HB3 := Lib.hid (HB1.out.trans (hb3.mono HB1.out.size))
    clear hb3
    rcases N with _ | _
    · go_wp2_with fail
      go_meet
      exact ⟨by rw [hbad.out, d3, d4]; rfl, HC3⟩
    obtain ⟨x0, x1, _, _⟩ := HT3.out
    go_wp2_with fail
    refine (HJS.out _ (HTX.out.on HB3.out (Nat.le_refl _)) HB3.out.size).mono ?_
    rintro e w4 ⟨rfl, hb4⟩
    have HC4 : Hid (Below w2.heap.size w2 w4) := Lib.hid (HC3.out.trans (hb4.mono HC3.out.size))
    have HD4 := Lib.hid (HD3.out.on hb4)
    clear hb4 x0 x1
    rcases J with _ | _
    · go_wp2_with fail
      go_meet
      exact ⟨by rw [hbad.out, d3, d4]; rfl, HC4⟩
    obtain ⟨y0, y1, _, _⟩ := HD4.out
    go_wp2_with fail
    refine (HKS.out _).mono ?_
    rintro e w5 ⟨rfl, hb5⟩
    have HC5 : Hid (Below w2.heap.size w2 w5) := Lib.hid (HC4.out.trans (hb5.mono HC4.out.size))
    clear hb5 y0 y1
    go_wp2_with fail
    go_meet
    exact ⟨by rw [hbad.out, d3, d4]; cases K <;> rfl, HC5⟩
  case rest =>
  obtain ⟨rfl, HC⟩ := hcut
  have HCo := HC.out
  have HB_1 : Hid (Below w.heap.size w wc) := Lib.hid (HB1.out.trans (HCo.mono HB1.out.size))
  have T_1 := Lib.hid (HT.out.on HCo)
  have D_1 := Lib.hid (HD.out.on HCo)
  clear HB1 HT HD HCo
  have HBD : Hid (bad s a T p l = false → l.length ≤ 10 ∧ 0 < l.length ∧ nodesB l = true ∧ okT T p = true ∧ 0 ≤ a ∧ a ≤ (s.size : Int)) := Lib.hid (fun h => by
    simp only [bad, okD, Bool.not_eq_false', Bool.and_eq_true, decide_eq_true_iff] at h
    exact ⟨h.1, h.2.1, h.2.2.1, h.2.2.2.1, h.2.2.2.2.1, h.2.2.2.2.2⟩)
  generalize bad s a T p l = B at *
  clear hbad HNS HJS HKS HC
  rcases B with _ | _
  rotate_left
  · go_wp2_with fail
    go_wp2_with fail
    refine (awake_any _).mono ?_
    rintro e wE ⟨rfl, hbE⟩
    have HE : Hid (Below w.heap.size w wE) := Lib.hid (HB_1.out.trans (hbE.mono HB_1.out.size))
    clear hbE
    go_wp2_with fail
    go_ret
    exact ⟨rfl, HE.out⟩
  obtain ⟨h10, hl0, hn, ho, ha0, ha1⟩ := HBD.out rfl
  obtain ⟨b, rfl⟩ := Int.eq_ofNat_of_zero_le ha0
  have hb' : b ≤ s.size := by omega
  obtain ⟨P, rfl⟩ := Int.eq_ofNat_of_zero_le ((okT_iff T p).1 ho).2.1
  have hln : l ≠ [] := List.length_pos_iff.1 hl0
  have hok0 : OkS s.data.toList (⟨T, P, b⟩ : Tn) := ⟨((okT_iff T P).1 ho).1, by have := ((okT_iff T P).1 ho).2.2; simp only; omega, by simpa using hb'⟩
  have hok : Hid (∀ k, OkS s.data.toList (run s.data.toList l k ⟨T, P, b⟩)) := Lib.hid (fun k => run_ok hok0 (nodesB_nums hn) hln k)
  have HMO : Hid (∀ k, many l (who s.data.toList l (run s.data.toList l k ⟨T, P, b⟩)) = 1) := Lib.hid (fun k => many_one (nodesB_nums hn) (who_mem hln))
  have HEA : Hid (∀ i y, y ∈ l → ¬ many (asked s.data.toList l (run s.data.toList l i ⟨T, P, b⟩) (2 * l.length - 1)) y = 0) := Lib.hid (fun i y hy => many_pos (each (hok.out i) hy))
  have HLN := Lib.hid (fun (W : World) (st : Tn) (A3 : Option Addr) (c3 lo hi : Nat) (hst : OkS s.data.toList st) (h : Has W lo hi A3 st.T) (hh : hi ≤ W.heap.size) (h' : Has W 0 w.heap.size A' l) (hh' : w.heap.size ≤ W.heap.size) => l_next s st A3 A' c3 c' lo hi 0 w.heap.size l W (by omega) hst hn hln h hh h' hh')
  have HMY := Lib.hid (fun (W : World) (y : Int) (h : Has W 0 w.heap.size A' l) => many_any A' c' 0 w.heap.size l y W (by omega) h)
  have HV : Hid (Sv wc w.heap.size (w.heap.size + 1) s (fun _ => False) ⟨T, P, b⟩) := Lib.hid ⟨A, c, T_1.out, D_1.out, (HTX.out.on HB_1.out (Nat.le_refl _)).clear HB_1.out.size (fun k hk => .inr (by rcases hk with h | h | h <;> (first | exact h.elim | omega)))⟩
  have hgw : Hid (w.heap.size + 2 ≤ wc.heap.size) := Lib.hid (by have := D_1.out.lt; omega)
  clear HBD ho ha0 ha1 hok0 HTX
  clear T_1 D_1
  have HVa : Hid (Sv wc w.heap.size (w.heap.size + 1) s (fun j => (Value.slice none 0 0).ownBlock = some j) ⟨T, P, b⟩) := Lib.hid (by
    obtain ⟨A3, c3, h1, h2, h3⟩ := HV.out
    exact ⟨A3, c3, h1, h2, h3.imp (fun k hk => by rcases hk with h | h | h <;> (first | exact .inl (.inl h) | exact .inl (.inr (.inl h)) | cases h))⟩)
  clear HV
  go_wp2_with fail
  go_loopw [7, 8] (fun (va : Value) i wr => ∃ k : Nat, i = .int .i64 k ∧ k ≤ 6 * l.length ∧ Hid (Sv wr w.heap.size (w.heap.size + 1) s (fun j => va.ownBlock = some j) (run s.data.toList l k ⟨T, P, b⟩)) ∧ Hid (Own wr wc.heap.size va (asked s.data.toList l ⟨T, P, b⟩ k)) ∧ Hid (wc.heap.size ≤ wr.heap.size) ∧ Hid (Below w.heap.size w wr)) (fun _ i _ => 6 * l.length - (intOf i).toNat)
  case atStart => exact ⟨0, rfl, Nat.zero_le _, HVa, Lib.hid (Own.nil _ _), Lib.hid (Nat.le_refl _), HB_1⟩
  case round =>
    clear HVa HB_1
    obtain ⟨k, rfl, hk, hv, hw, hcb, hb⟩ := hrel
    by_cases hlt : k < 6 * l.length
    · have e1 : decide ((k : Int) < 6 * (l.length : Int)) = true := decide_eq_true (by omega)
      have e2 : decide (k < 6 * l.length) = true := decide_eq_true hlt
      have HGE := Lib.hid hw.out.ge
      have hst := hok.out k
      have hmo := HMO.out k
      have HKN := Lib.hid (fun W A3 c3 lo hi => HLN.out W _ A3 c3 lo hi hst)
      have HAS := Lib.hid (asked_succ (L := s.data.toList) (l := l) (s := ⟨T, P, b⟩) k)
      have hasl := asked_len (L := s.data.toList) (l := l) (s := ⟨T, P, b⟩) k
      obtain ⟨st', hst'⟩ : ∃ st', st' = stp s.data.toList l (run s.data.toList l k ⟨T, P, b⟩) := ⟨_, rfl⟩
      rw [← hst'] at HKN
      have HS' : Hid (st' = run s.data.toList l (k + 1) ⟨T, P, b⟩) := Lib.hid hst'
      obtain ⟨y, hy⟩ : ∃ y, y = who s.data.toList l (run s.data.toList l k ⟨T, P, b⟩) := ⟨_, rfl⟩
      rw [← hy] at HKN hmo HAS
      clear hst' hst hy
      obtain ⟨ask, hask⟩ : ∃ ask, ask = asked s.data.toList l ⟨T, P, b⟩ k := ⟨_, rfl⟩
      rw [← hask] at hw HAS hasl
      clear hask
      generalize (run s.data.toList l k ⟨T, P, b⟩) = st at *
      obtain ⟨A3, c3, hT, hD, hC⟩ := hv.out
      obtain ⟨t0, t1, tf0, tf1⟩ := hT
      obtain ⟨y0, y1, yf0, yf1⟩ := hD
      obtain ⟨lo, hi, hC1, _, hC3⟩ := hC
      have hgt := hv.out.lt
      go_wp2_with fail
      refine (HKN.out wr A3 c3 lo hi hC3 hC1 (HX0.out.on hb.out (Nat.le_refl _)) hb.out.size).mono ?_
      rintro e w7 ⟨A4, c4, rfl, hh4, hb7⟩
      have HH4 : Hid (Clear w7 (fun j => j = w.heap.size ∨ j = w.heap.size + 1 ∨ u7.ownBlock = some j) A4 st'.T) := Lib.hid (hh4.clear (Nat.le_refl _) (fun j hj => .inl (by rcases hj with h | h | h <;> (first | omega | exact (hw.out.ge j h).2))))
      clear t0 t1 tf0 tf1 y0 y1 yf0 yf1 hC1 hC3 HKN hh4
      have hz7 := Lib.hid hb7.size
      have HB_2 : Hid (Below w.heap.size w w7) := Lib.hid (hb.out.trans (hb7.mono hb.out.size))
      have V_2 := Lib.hid (hv.out.on hb7)
      have W_2 := Lib.hid (hw.out.on hb7)
      clear hb hv hw hb7
      obtain ⟨hT', hD', hbn⟩ := boxes_new w7 (.slice A4 st'.T.length c4) (st'.p : Nat) s (st'.a : Nat)
      have HT' := Lib.hid hT'
      have HD' := Lib.hid hD'
      have HH5 := Lib.hid (HH4.out.on hbn)
      have hz8 : Hid (w7.heap.size + 1 < ((w7.alloc (.cells #[.slice A4 st'.T.length c4, .int .i64 (st'.p : Nat)] 24)).alloc (.cells #[.string s, .int .i64 (st'.a : Nat)] 26)).heap.size) := Lib.hid (by simp)
      clear hT' hD' HH4
      have HB_3 : Hid (Below w.heap.size w ((w7.alloc (.cells #[.slice A4 st'.T.length c4, .int .i64 (st'.p : Nat)] 24)).alloc (.cells #[.string s, .int .i64 (st'.a : Nat)] 26))) := Lib.hid (HB_2.out.trans (hbn.mono HB_2.out.size))
      have V_3 := Lib.hid (V_2.out.on hbn)
      have W_3 := Lib.hid (W_2.out.on hbn)
      clear HB_2 V_2 W_2 hbn
      go_upto_region 9 with (fail)
      generalize (w7.alloc (.cells #[.slice A4 st'.T.length c4, .int .i64 (st'.p : Nat)] 24)).alloc (.cells #[.string s, .int .i64 (st'.a : Nat)] 26) = w8 at *
      generalize w7.heap.size = g1 at *
      have HM1 := Lib.hid (HMY.out w8 y (HX0.out.on HB_3.out (Nat.le_refl _)))
      rw [hmo] at HM1
      go_wp2_with fail
      refine HM1.out.mono ?_
      rintro e w' ⟨rfl, rfl⟩
      clear HM1
      go_upto_region 11 with (fail)
      have hb9 : Below w8.heap.size w8 (w8.alloc (.cells #[.int .i64 y] 3)) := (Below.refl _ _).alloc (Nat.le_refl _) _
      have hw1 := hcb.out
      have hw2 := hz7.out
      have hw3 := hz8.out
      have HW9 := Lib.hid (W_3.out.on hb9)
      have HV9 := Lib.hid (V_3.out.on hb9)
      have HT9 := Lib.hid (HT'.out.on hb9)
      have HD9 := Lib.hid (HD'.out.on hb9)
      have HH9 := Lib.hid (HH5.out.on hb9)
      have HB9 := Lib.hid (HB_3.out.trans (hb9.mono HB_3.out.size))
      go_wp2_with (at_builtin; refine append_one rfl _ _ rfl wc.heap.size u7 ask rfl HW9.out w8.heap.size y rfl ?c1 ?c2 ?c3 ?_)
      case c1 => go_simp
      case c2 => omega
      case c3 => simp; omega
      intro v' w10 hown hgrow hloc
      have hsz9 : (w8.alloc (.cells #[.int .i64 y] 3)).heap.size = w8.heap.size + 1 := by simp
      generalize w8.alloc (.cells #[.int .i64 y] 3) = w9 at *
      clear hb9
      have hge := HGE.out
      have hgw' := hgw.out
      have HC10 : Hid (Clear w10 (fun j => j = w.heap.size ∨ j = w.heap.size + 1 ∨ v'.ownBlock = some j) A4 st'.T) := Lib.hid (((HH9.out.imp (Y := fun j => (j = w.heap.size ∨ j = w.heap.size + 1 ∨ u7.ownBlock = some j) ∨ v'.ownBlock = some j) (fun j hj => by
        rcases hj with h | h
        · exact .inl h
        · rcases hloc with e | e
          · exact .inl (.inr (.inr (e ▸ h)))
          · rw [e] at h; injection h with h; exact .inr (by omega))).grown hgrow (fun j hj => .inl (.inr (.inr hj)))).imp (fun j hj => .inl (by
        rcases hj with h | h | h
        · exact .inl (.inl h)
        · exact .inl (.inr (.inl h))
        · exact .inr h)))
      have hr0 : u7.ownBlock ≠ some w.heap.size := fun h => by have := (hge _ h).1; omega
      have hr1 : u7.ownBlock ≠ some (w.heap.size + 1) := fun h => by have := (hge _ h).1; omega
      have hr2 : u7.ownBlock ≠ some g1 := fun h => by have := (hge _ h).2; omega
      have hr3 : u7.ownBlock ≠ some (g1 + 1) := fun h => by have := (hge _ h).2; omega
      obtain ⟨A5, c5, hT5, hD5, _⟩ := HV9.out
      have HT5 := Lib.hid (hT5.grown hgrow hr0)
      have HD5 := Lib.hid (hD5.grown hgrow hr1)
      have HT6 := Lib.hid (HT9.out.grown hgrow hr2)
      have HD6 := Lib.hid (HD9.out.grown hgrow hr3)
      have HB10 : Hid (Below w.heap.size w w10) := Lib.hid (HB9.out.grown hgrow HB9.out.size (fun j hj => by have := (hge _ hj).1; omega))
      have HO10 := Lib.hid hown
      have hz10 : Hid (wc.heap.size ≤ w10.heap.size) := Lib.hid (by have := hgrow.size; omega)
      clear hown hgrow hloc hge hT5 hD5 HV9 HT9 HD9 HH9 HW9 HB9 HT' HD' HH5 hr0 hr1 hr2 hr3 hsz9
      obtain ⟨t0, t1, tf0, tf1⟩ := HT5.out
      obtain ⟨y0, y1, yf0, yf1⟩ := HD5.out
      obtain ⟨e0', e1', _, _⟩ := HT6.out
      obtain ⟨d0, d1, _, _⟩ := HD6.out
      have n1 : ¬ g1 = w.heap.size := by omega
      have n2 : ¬ g1 + 1 = w.heap.size := by omega
      have n3 : ¬ g1 = w.heap.size + 1 := by omega
      have n4 : ¬ g1 + 1 = w.heap.size + 1 := by omega
      go_wp2_with fail
      go_region
      go_wp2_with fail
      go_roundw
      case rel => exact ⟨k + 1, by go_num, by omega, Lib.hid (by rw [← HS'.out]; exact Sv.put HT5.out HD5.out (by omega) A4 c4 HC10.out), Lib.hid (by rw [HAS.out]; exact HO10.out.four (by omega) (by omega) _ _ _ _), Lib.hid (by simp [World.setCell, World.drew]; exact hz10.out), Lib.hid (below_four HB10.out (Nat.le_refl _) (by omega) _ _ _ _)⟩
      case measure => simp [intOf]; omega
    · obtain rfl : k = 6 * l.length := by omega
      have e1 : decide ((6 : Int) * (l.length : Int) < 6 * (l.length : Int)) = false := by simp
      have hcast : ((6 * l.length : Nat) : Int) = 6 * (l.length : Int) := by omega
      obtain ⟨A7, c7, he7, _, hh7⟩ := hw.out.has
      have hasl := asked_len (L := s.data.toList) (l := l) (s := ⟨T, P, b⟩) (6 * l.length)
      subst he7
      rw [hasl]
      have HPT : Hid (∀ i, i + (2 * l.length - 1) ≤ 6 * l.length → ((asked s.data.toList l ⟨T, P, b⟩ (6 * l.length)).take (i + (2 * l.length - 1))).drop i = asked s.data.toList l (run s.data.toList l i ⟨T, P, b⟩) (2 * l.length - 1)) := Lib.hid (fun i hi => asked_part i (2 * l.length - 1) (6 * l.length) hi)
      have HA7 := Lib.hid hh7
      clear hh7 hv hw
      generalize asked s.data.toList l ⟨T, P, b⟩ (6 * l.length) = ask at *
      obtain ⟨wA, hwA⟩ : ∃ wA, wA = wr := ⟨_, rfl⟩
      subst hwA
      obtain ⟨ad7, rfl, _⟩ := HA7.out 0 (by omega)
      have HLR : Hid (Has wA 0 w.heap.size A' l) := Lib.hid (HX0.out.on hb.out (Nat.le_refl _))
      have hwz := Lib.hid hb.out.size
      go_upto_region 14 with (fail)
      obtain ⟨wd, hwd⟩ : ∃ wd, wd = 2 * l.length - 1 := ⟨_, rfl⟩
      obtain ⟨m, hm⟩ : ∃ m, m = 6 * l.length := ⟨_, rfl⟩
      rw [show (2 * (l.length : Int) - 1) = (wd : Int) by omega]
      rw [← hm] at hasl ⊢
      rw [← hwd, ← hm] at HPT
      rw [← hwd] at HEA
      have hwm : wd ≤ m := by omega
      have hm60 : m ≤ 60 := by omega
      have HWD := Lib.hid hwd
      have HM := Lib.hid hm
      clear hwd hm hcast e1
      go_wp2_with fail
      go_loopw [14] (fun i wq => ∃ k : Nat, i = .int .i64 k ∧ k + wd ≤ m + 1 ∧ Hid (Below wA.heap.size wA wq)) (fun i _ => m + 1 - (intOf i).toNat)
      case atStart => exact ⟨0, rfl, by omega, Lib.hid (Below.refl _ _)⟩
      case round =>
        obtain ⟨k, rfl, hk, hbk⟩ := hrel
        obtain ⟨wK, hwK⟩ : ∃ wK, wK = wr := ⟨_, rfl⟩
        subst hwK
        by_cases hlt : k + wd ≤ m
        · have e1 : decide ((k : Int) + (wd : Int) ≤ (m : Int)) = true := decide_eq_true (by omega)
          have e2 : decide (k + wd ≤ m) = true := decide_eq_true hlt
          go_wp2_with fail
          go_loopw [15] (fun j wq => ∃ q : Nat, j = .int .i64 q ∧ q ≤ l.length ∧ Hid (Below wA.heap.size wA wq)) (fun j _ => l.length - (intOf j).toNat)
          case atStart => exact ⟨0, rfl, Nat.zero_le _, hbk⟩
          case round =>
            obtain ⟨q, rfl, hq, hbq⟩ := hrel
            by_cases hqt : q < l.length
            · obtain ⟨ad', rfl, _, _, hcq⟩ := (HLR.out.on hbq.out hwz.out) q hqt
              have hne := HEA.out k (l.getD q 0) (getD_mem l q hqt)
              rw [← HPT.out k hlt] at hne
              have q0 : (0 : Int) ≤ (q : Int) := by omega
              have q1 : (q : Int) < (l.length : Int) := by omega
              have k0 : (0 : Int) ≤ (k : Int) := by omega
              have k1 : (k : Int) + (wd : Int) ≤ (m : Int) := by omega
              have k2 : (m : Int) ≤ (c7 : Int) := by omega
              have k3 : (0 : Int) ≤ (k : Int) + (wd : Int) := by omega
              have k4 : (k : Int) ≤ (k : Int) + (wd : Int) := by omega
              obtain ⟨kw, hkw⟩ : ∃ kw, kw = k + wd := ⟨_, rfl⟩
              have wr1 : IntKind.i64.wrap ((k : Int) + (wd : Int)) = (kw : Int) := by rw [show (k : Int) + (wd : Int) = (kw : Int) by omega]; exact wrap_nat kw (by omega)
              have wr2 : (0 : Int) ≤ (kw : Int) := by omega
              have wr3 : (kw : Int) ≤ (c7 : Int) := by omega
              have wr4 : k ≤ kw := by omega
              have wr5 : kw - k = wd := by omega
              have wr6 : ¬ c7 = k := by have := HWD.out; omega
              have wr7 : kw ≤ c7 := by omega
              clear hkw
              have HPA := Lib.hid (HA7.out.part (i := k) (n := wd) (by omega))
              have hpl : ((ask.take (k + wd)).drop k).length = wd := by simp; omega
              have HB9 : Hid (∀ p : Regrown, Below wA.heap.size wA (grow (redrawn wr p.d) p.os)) := Lib.hid (fun p => hbq.out.trans ((below_regrown wr p.d p.os).mono hbq.out.size))
              have CQ := fun d os => cell_regrown hcq d os
              generalize l.getD q 0 = y at *
              have HC := Lib.hid (fun (p : Regrown) (cc : Nat) => many_any (some (ad7.add k)) cc wc.heap.size wA.heap.size ((ask.take (k + wd)).drop k) y (grow (redrawn wr p.d) p.os) (by rw [hpl]; omega) (HPA.out.on (HB9.out p) (Nat.le_refl _)))
              rw [hpl] at HC
              generalize many ((ask.take (k + wd)).drop k) y = z at *
              have z1 : ((z : Int) == 0) = false := by rw [beq_eq_false_iff_ne]; omega
              have HC' : Hid (∀ (p : Regrown) (cc : Nat), Calls Try.prog 21 #[.slice (some (ad7.add k)) wd cc, .int .i64 y] (grow (redrawn wr p.d) p.os) fun e w' => e = .returned (.int .i64 (z : Nat)) ∧ Below (grow (redrawn wr p.d) p.os).heap.size (grow (redrawn wr p.d) p.os) w') := Lib.hid (fun p cc => (HC.out p cc).mono fun _ _ ⟨he, hw⟩ => ⟨he, hw ▸ Below.refl _ _⟩)
              clear HC hcq
              go_upto_region 20 with (fail)
              refine q_enter (by kernel_rfl) (by kernel_rfl) ?_
              iterate 10 (refine q_step ?_; intro K hK; go_simp; refine hK _ ?_; clear hK K)
              refine q_step ?_
              intro K hK
              go_simp
              refine ⟨_, fun p => Calls.regrown_of (by with_reducible exact HC'.out p _), hK _ ?_⟩
              clear hK K
              refine q_step ?_
              intro K hK
              go_simp
              refine hK _ ?_
              clear hK K
              refine q_nil ?_
              intro wz hbz
              have HZ : Hid (Below wA.heap.size wA wz) := Lib.hid (hbq.out.trans (hbz.mono hbq.out.size))
              clear hbz CQ HC' HB9 HPA
              go_wp2_with fail
              go_roundw
              case rel => exact ⟨q + 1, by go_num, by omega, HZ⟩
              case measure => simp [intOf]; omega
            · have e3 : decide ((q : Int) < (l.length : Int)) = false := decide_eq_false (by omega)
              have e4 : decide (q < l.length) = false := decide_eq_false hqt
              go_wp2_with fail
              go_roundw
              case rel => exact ⟨k + 1, by go_num, by omega, hbq⟩
              case measure => simp [intOf]; omega
        · have e1 : decide ((k : Int) + (wd : Int) ≤ (m : Int)) = false := decide_eq_false (by omega)
          have e2 : decide (k + wd ≤ m) = false := decide_eq_false hlt
          have HBE : Hid (Below w.heap.size w wK) := Lib.hid (hb.out.trans (hbk.out.mono hb.out.size))
          go_wp2_with fail
          refine (awake_any _).mono ?_
          rintro e wE ⟨rfl, hbE⟩
          have HE : Hid (Below w.heap.size w wE) := Lib.hid (HBE.out.trans (hbE.mono HBE.out.size))
          clear hbE
          go_wp2_with fail
          go_ret
          exact ⟨rfl, HE.out⟩

/-! ### the statement -/
theorem parOk : ∀ t ∈ (#[24, 26, 22] : Array TypeId).toList, Try.prog.readableRec t = true ∧ t < Try.prog.types.size := by
  have hall : ([24, 26, 22].all fun t => Try.prog.readableRec t && decide (t < Try.prog.types.size)) = true := by kernel_rfl
  intro t ht
  simpa using List.all_eq_true.1 hall t ht

set_option maxRecDepth 100000 in
/-- What the walk gives, for every argument. -/
theorem contract (H : Type) (enc : TypeId × Value → H) (W : World) (base : Nat) (args : Array Value) (ds gs : List (DataW H)) (before : List MemPlace)
    (hval : ∀ (j : Nat) t v, Try.f4.params[j]? = some t → args[j]? = some v → Value.okWide Try.prog W .any base t v)
    (hW : DataW.Whole enc Try.prog Try.f4.params.toList Rows.turnAllSpec.vars false W args.toList ds gs before) :
    Calls Try.prog 4 args W fun e W' => ∃ v, e = .returned v ∧ Rows.turnAllSpec.post enc Try.prog Try.f4 false true false false W args v W' := by
  have hW' := hW
  obtain ⟨p, q, hA0, hV, rfl, hfz, hnd⟩ := hW
  have hA : DataW.TrodAll enc Try.prog W 0 (fun _ => true) true Try.f4.params.toList args.toList ds p := hA0
  rw [Try.params4] at hA hval
  obtain ⟨v0, vs0, d0, ds0, p0, q0, hargs, rfl, rfl, h0, r0⟩ := trodAll_cons hA
  obtain ⟨v1, vs1, d1, ds1, p1, q1, rfl, rfl, rfl, h1, r1⟩ := trodAll_cons r0
  obtain ⟨v2, vs2, d2, ds2, p2, q2, rfl, rfl, rfl, h2, r2⟩ := trodAll_cons r1
  obtain ⟨rfl, rfl, rfl⟩ := trodAll_nil r2
  obtain rfl : args = #[v0, v1, v2] := by cases args; simp_all
  obtain ⟨rfl, rfl⟩ := trodVars_none hV
  obtain ⟨A, c, T, p, rfl, htc, hcm, hT⟩ := open_turn (hval 0 24 v0 rfl rfl) h0
  obtain ⟨s, a, rfl, hs, _, _⟩ := open_dice (hval 1 26 v1 rfl rfl) h1
  obtain ⟨A', c', l, rfl, hlc, hcm', hl⟩ := open_nums (hval 2 22 v2 rfl rfl) h2
  clear hA0
  refine (walk A c T p s a A' c' l W htc hcm hT hs hlc hcm' hl).mono fun e W' ⟨he, hb⟩ => ?_
  subst he
  exact ⟨_, rfl, law_post rfl (by rw [Try.params4]; exact parOk) rfl hW' rfl rfl rfl hb⟩

set_option maxRecDepth 100000 in
theorem lifted (os : Os) (started : os.Started) (H : Type) (enc : TypeId × Value → H) :
    ReturnsInHanded {} Try.checked os 4 .any (Rows.turnAllSpec.pre6 enc Try.prog Try.f4 Rows.turnAllRow.domain false) (Rows.turnAllSpec.post enc Try.prog Try.f4 false true false false) := by
  refine returnsInHanded_of_change (C := Try.checked) own started (by kernel_rfl) Try.func4
    (ChangeSpec.witness6 (enc := enc) (C := Try.checked) false ⟨#[], #[.agg #[.slice none 0 0, .int .i64 0], .agg #[.string ⟨#[]⟩, .int .i64 0], .slice none 0 0], []⟩ 8 (by kernel_rfl) (by kernel_rfl) (by kernel_rfl) (by kernel_rfl)) ?_
  intro W base args ds gs before hval hW _ _
  exact contract H enc W base args ds gs before hval hW

/-- THE STATEMENT. -/
theorem said : Rows.TurnAllSaid :=
  OpenClaim.holds_of_wide 4 Try.f4 rfl rfl rfl rfl rfl rfl rfl ⟨rfl, rfl, rfl, rfl, rfl⟩ rfl rfl rfl rfl rfl (by kernel_rfl) Try.func4 (by kernel_rfl)
    (of_decide_eq_true (by kernel_rfl)) (by unfold Func.isWrapper; first | (rw [if_pos (by decide +kernel)]; kernel_rfl) | (rw [if_neg (by decide +kernel)]; exact ⟨rfl, rfl⟩))
    (fun os started H enc _ => lifted os started H enc)
end Go.Proofs.Ytphcmjhphoacgaa.lawAll
