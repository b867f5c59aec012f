/-
  TurnStays: what is asked next hangs on nothing that is behind; a turn that is handed in stays as it was: the law returns true for every input.
-/
import Derived.Test.YtphcmjhphoacgaaSt
import Derived.Test.YtphcmjhphoacgaaApp
import Derived.Test.YtphcmjhphoacgaaPlanC
namespace Go.Proofs.Ytphcmjhphoacgaa.lawStays
open Go.Sort Go.ChangeShapes Go.WideShapes Go.ChangeAt Go.RowKit Go.Proofs.Ytphcmjhphoacgaa.Pure

theorem four_set {w : World} {a b c d : Addr} {u v p q : Value} (h : w.cell? a = some u ∧ w.cell? b = some v ∧ w.cell? c = some p ∧ w.cell? d = some q) (g : Nat) (ha : a.block ≠ g) (hb : b.block ≠ g) (hc : c.block ≠ g) (hd : d.block ≠ g) (x y : Value) :
    ((w.setCell ⟨g, 0, none⟩ x).setCell ⟨g, 1, none⟩ y).cell? a = some u ∧ ((w.setCell ⟨g, 0, none⟩ x).setCell ⟨g, 1, none⟩ y).cell? b = some v ∧ ((w.setCell ⟨g, 0, none⟩ x).setCell ⟨g, 1, none⟩ y).cell? c = some p ∧ ((w.setCell ⟨g, 0, none⟩ x).setCell ⟨g, 1, none⟩ y).cell? d = some q :=
  ⟨(two_set ⟨h.1, h.2.1⟩ g ha hb x y).1, (two_set ⟨h.1, h.2.1⟩ g ha hb x y).2, (two_set ⟨h.2.2.1, h.2.2.2⟩ g hc hd x y).1, (two_set ⟨h.2.2.1, h.2.2.2⟩ g hc hd x y).2⟩
/-- What is behind a place of a slice. -/
theorem has_drop {w : World} {lo hi P c : Nat} {A : Option Addr} {T : List Int} (h : Has w lo hi A T) (hc : T.length ≤ c) {Q : Option Addr} (hQ : (if c = P then A else Option.map (fun x => x.add P) A) = Q) : Has w lo hi Q (T.drop P) := fun j hj => by
  have hj' : P + j < T.length := by simp at hj; omega
  rw [if_neg (by omega)] at hQ
  subst hQ
  obtain ⟨ad', e, h1, h2, h3⟩ := h (P + j) hj'
  subst e
  have ea : (ad'.add P).add j = ad'.add (P + j) := by
    unfold Addr.add
    by_cases hi : P = 0 <;> by_cases hj : j = 0 <;> simp [hi, hj, Nat.add_assoc]
  refine ⟨_, rfl, by rw [block_add]; exact h1, by rw [block_add]; exact h2, ?_⟩
  rw [ea, h3]
  congr 2
  simp [List.getD]

set_option maxRecDepth 100000 in
set_option maxHeartbeats 4000000 in
theorem walk (A : Option Addr) (c : Nat) (T0 : List Int) (p : Int) (s0 : ByteArray) (a : Int) (A' : Option Addr) (c' : Nat) (l0 : List Int) (w : World) (htc : T0.length ≤ c) (hcm : c ≤ maxLen) (hT0 : Has w 0 w.heap.size A T0) (hs0 : s0.size ≤ maxLen) (hlc : l0.length ≤ c') (hcm' : c' ≤ maxLen) (hl0 : Has w 0 w.heap.size A' l0) :
    Calls Try.prog 7 #[.agg #[.slice A T0.length c, .int .i64 p], .agg #[.string s0, .int .i64 a], .slice A' l0.length c'] w fun e w' => e = .returned (.bool true) ∧ Below w.heap.size w w' := by
  have HF := Lib.hid (fun W => few_any s0 a W hs0)
  have HC1 := Lib.hid (fun (W : World) (h : Has W 0 w.heap.size A T0) => fewl_below A c 0 w.heap.size T0 W htc hcm h)
  have HC3 := Lib.hid (fun (W : World) (h : Has W 0 w.heap.size A' l0) => fewl_below A' c' 0 w.heap.size l0 W hlc hcm' h)
  have HTT := Lib.hid hT0
  have HLL := Lib.hid hl0
  have HTX : Hid (Has w 0 w.heap.size A (cutF T0)) := Lib.hid (hT0.take 65)
  have HX0 : Hid (Has w 0 w.heap.size A' (cutF l0)) := Lib.hid (hl0.take 65)
  have hTl := cutF_len T0
  have hxl := cutF_len l0
  have hft := fewB_size s0
  generalize fewB s0 = s at *
  generalize hX : cutF l0 = l at *
  generalize hY : cutF T0 = T at *
  have HCT : Hid (T.length ≤ c) := Lib.hid (by rw [← hY]; simp [cutF]; omega)
  clear hT0 hl0 hX hY htc hlc
  go_enter Try.func7, Try.ntmps7
  go_upto_region 1 with (fail)
  have HB0 : Hid (Below w.heap.size w ((w.alloc (.cells #[.slice A T0.length c, .int .i64 p] 24)).alloc (.cells #[.string s0, .int .i64 a] 26))) := Lib.hid (((Below.refl _ _).alloc (Nat.le_refl _) _).alloc (by simp) _)
  obtain ⟨hq1, hq2, _⟩ := boxes_new w (.slice A T0.length c) p s0 a
  have HP := Lib.hid hq1
  have HQ := Lib.hid hq2
  clear hq1 hq2
  generalize (w.alloc (.cells #[.slice A T0.length c, .int .i64 p] 24)).alloc (.cells #[.string s0, .int .i64 a] 26) = w1 at *
  obtain ⟨x0, x1, xf0, xf1⟩ := HP.out
  obtain ⟨y0, y1, yf0, yf1⟩ := HQ.out
  have X0 := fun d os => cell_regrown x0 d os
  have X1 := fun d os => cell_regrown x1 d os
  have Y0 := fun d os => cell_regrown y0 d os
  have Y1 := fun d os => cell_regrown y1 d os
  have R1 := Lib.hid (fun q : Regrown => HC1.out (grow (redrawn w1 q.d) q.os) ((HTT.out.on HB0.out (Nat.le_refl _)).on (below_regrown w1 q.d q.os) HB0.out.size))
  have R3 := Lib.hid (fun q : Regrown => HC3.out (grow (redrawn w1 q.d) q.os) ((HLL.out.on HB0.out (Nat.le_refl _)).on (below_regrown w1 q.d q.os) HB0.out.size))
  have R2 := Lib.hid (fun q : Regrown => HF.out (grow (redrawn w1 q.d) q.os))
  refine ts_region 8 (by kernel_rfl) (by kernel_rfl) ?_
  simp only [List.take_succ_cons, List.take_zero, List.drop_succ_cons, List.drop_zero]
  iterate 8 (refine q_step ?_; intro K hK; go_simp; first | (refine hK _ ?_; clear hK K) | (refine ⟨_, fun q => Calls.regrown_of (by with_reducible exact R1.out q), hK _ ?_⟩; clear hK K) | (refine ⟨_, fun q => Calls.regrown_of (by with_reducible exact R2.out q), hK _ ?_⟩; clear hK K) | (refine ⟨_, fun q => Calls.regrown_of (by with_reducible exact R3.out q), hK _ ?_⟩; clear hK K))
  refine q_nil ?_
  intro wz hbz
  have HPz := Lib.hid (HP.out.on hbz)
  have HQz := Lib.hid (HQ.out.on hbz)
  have HT : Hid (Tb (((wz.setCell ⟨w.heap.size, 0, none⟩ (.slice A T.length c)).setCell ⟨w.heap.size + 1, 0, none⟩ (.string s)).setCell ⟨w.heap.size + 1, 1, none⟩ (.int .i64 a)) w.heap.size (.slice A T.length c) p) := Lib.hid (((HPz.out.put0 (.slice A T.length c)).far (a := ⟨w.heap.size + 1, 0, none⟩) (by simp) _).far (a := ⟨w.heap.size + 1, 1, none⟩) (by simp) _)
  have HD : Hid (Box (((wz.setCell ⟨w.heap.size, 0, none⟩ (.slice A T.length c)).setCell ⟨w.heap.size + 1, 0, none⟩ (.string s)).setCell ⟨w.heap.size + 1, 1, none⟩ (.int .i64 a)) (w.heap.size + 1) s a) := Lib.hid ((HQz.out.far (p := ⟨w.heap.size, 0, none⟩) (by simp) _).put s a)
  have HB1 : Hid (Below w.heap.size w (((wz.setCell ⟨w.heap.size, 0, none⟩ (.slice A T.length c)).setCell ⟨w.heap.size + 1, 0, none⟩ (.string s)).setCell ⟨w.heap.size + 1, 1, none⟩ (.int .i64 a))) := Lib.hid ((((HB0.out.trans (hbz.mono HB0.out.size)).setCell (p := ⟨w.heap.size, 0, none⟩) (Nat.le_refl _) _).setCell (p := ⟨w.heap.size + 1, 0, none⟩) (by simp) _).setCell (p := ⟨w.heap.size + 1, 1, none⟩) (by simp) _)
  clear x0 x1 xf0 xf1 y0 y1 yf0 yf1 X0 X1 Y0 Y1 R1 R2 R3 hbz HP HQ HTT HLL HC1 HC3 HF HB0
  obtain ⟨x0, x1, xf0, xf1⟩ := HPz.out
  obtain ⟨y0, y1, yf0, yf1⟩ := HQz.out
  go_upto_region 2 with (fail)
  clear x0 x1 xf0 xf1 y0 y1 yf0 yf1 HPz HQz
  generalize ((wz.setCell ⟨w.heap.size, 0, none⟩ (.slice A T.length c)).setCell ⟨w.heap.size + 1, 0, none⟩ (.string s)).setCell ⟨w.heap.size + 1, 1, none⟩ (.int .i64 a) = w2 at *
  obtain ⟨J, hJ⟩ : ∃ J, okT T p = J := ⟨_, rfl⟩
  have HJS := Lib.hid (fun (W : World) (h : Has W 0 w.heap.size A T) (hh : w.heap.size ≤ W.heap.size) => check_t A c 0 w.heap.size T p W (by omega) h hh J hJ)
  have HJ := Lib.hid hJ
  clear hJ
  have z0 : okE true = 0 := rfl
  have z1 : okE false = 1 := rfl
  have hcT : Hid (T.length ≤ c) := Lib.hid HCT.out
  obtain ⟨x0, x1, _, _⟩ := HT.out
  go_wp2_with fail
  refine (HJS.out _ (HTX.out.on HB1.out (Nat.le_refl _)) HB1.out.size).mono ?_
  rintro e w3 ⟨rfl, hb⟩
  clear x0 x1
  have HB_1 : Hid (Below w.heap.size w w3) := Lib.hid (HB1.out.trans (hb.mono HB1.out.size))
  have T_1 := Lib.hid (HT.out.on hb)
  have D_1 := Lib.hid (HD.out.on hb)
  clear HB1 HT HD hb
  rcases J with _ | _
  · go_wp2_with fail
    refine (awake_any _).mono ?_
    rintro e wE ⟨rfl, hbE⟩
    have HE : Hid (Below w.heap.size w wE) := Lib.hid (HB_1.out.trans (hbE.mono HB_1.out.size))
    clear hbE
    go_wp2_with fail
    go_ret
    exact ⟨rfl, HE.out⟩
  obtain ⟨P, rfl⟩ := Int.eq_ofNat_of_zero_le ((okT_iff T p).1 HJ.out).2.1
  have hP : P ≤ T.length := by have := ((okT_iff T P).1 HJ.out).2.2; omega
  clear HJS
  obtain ⟨x0, x1, _, _⟩ := T_1.out
  have hw3 := HB_1.out.size
  have hw3s := T_1.out.lt
  have HTa : Hid (Has w3 0 w.heap.size A T) := Lib.hid (HTX.out.on HB_1.out (Nat.le_refl _))
  go_wp2_with (at_builtin; refine wpList_append_has rfl _ _ rfl w3.heap.size _ [] rfl (World.ownsRow_made _ #[] 0 ?c1 (Nat.zero_le _) rfl) A c 0 w.heap.size T rfl (HTa.out.alloc _ ?c2) ?c3 ?c4 ?_)
  case c1 => exact Nat.le_refl _
  case c2 => exact hw3
  case c3 => simp; omega
  case c4 => simp
  intro v w4 hown hgrow
  have hb4 : Below w3.heap.size w3 w4 := ((Below.refl _ w3).alloc (Nat.le_refl _) _).grown hgrow (by simp) (by intro k hk; simp [Value.ownBlock] at hk; omega)
  obtain ⟨A7, c7, rfl, _, hh7⟩ := hown.has
  have H7 : Hid (Clear w4 (fun _ => False) A7 T) := Lib.hid (hh7.clear (Nat.le_refl _) (fun _ h => h.elim))
  clear hown hgrow hh7 HTa x0 x1 hw3 hw3s
  have HB_2 : Hid (Below w.heap.size w w4) := Lib.hid (HB_1.out.trans (hb4.mono HB_1.out.size))
  have T_2 := Lib.hid (T_1.out.on hb4)
  have D_2 := Lib.hid (D_1.out.on hb4)
  clear HB_1 T_1 D_1 hb4
  obtain ⟨R, hR⟩ : ∃ R, ans s.data.toList a T P l = R := ⟨_, rfl⟩
  obtain ⟨R2, hR2⟩ : ∃ R2, ans s.data.toList a (T.drop P) 0 l = R2 := ⟨_, rfl⟩
  have HK := ans_kept s.data.toList a T P l
  have HK2 := ans_kept s.data.toList a (T.drop P) 0 l
  have HDR := ans_drop s.data.toList a T P l HJ.out
  have HNX := Lib.hid (fun (W : World) (h : Has W 0 w.heap.size A T) (hh : w.heap.size ≤ W.heap.size) (h' : Has W 0 w.heap.size A' l) => next_any s a A A' c c' 0 w.heap.size 0 w.heap.size T l P W (by omega) (by omega) (by omega) h hh h' hh R hR)
  have HN2 := Lib.hid (fun (W : World) (Q : Option Addr) (cc : Nat) (h : Has W 0 w.heap.size Q (T.drop P)) (hh : w.heap.size ≤ W.heap.size) (h' : Has W 0 w.heap.size A' l) => next_any s a Q A' cc c' 0 w.heap.size 0 w.heap.size (T.drop P) l 0 W (by omega) (by simp; omega) (by omega) h hh h' hh R2 hR2)
  rw [hR] at HK HDR
  rw [hR2] at HK2 HDR
  have HKK := Lib.hid HK
  have HKK2 := Lib.hid HK2
  clear HK HK2 hR hR2
  obtain ⟨n, T1, p1, a1, e1⟩ := R
  obtain ⟨n2, T2, p2, a2, e2⟩ := R2
  simp only at HDR
  obtain ⟨rfl, rfl, rfl⟩ := HDR
  have HNX' : Hid (∀ (W : World) (_ : Has W 0 w.heap.size A T) (_ : w.heap.size ≤ W.heap.size) (_ : Has W 0 w.heap.size A' l), Calls Try.prog 11 #[.agg #[.slice A T.length c, .int .i64 (P : Nat)], .agg #[.string s, .int .i64 a], .slice A' l.length c'] W fun e w' => ∃ A2 c2, e = .returned (.tuple #[.int .i64 n2, .agg #[.slice A2 T1.length c2, .int .i64 p1], .agg #[.string s, .int .i64 a2], .int .i64 e2]) ∧ Has w' W.heap.size w'.heap.size A2 T1 ∧ Below W.heap.size W w') := HNX
  have hdl : (T.drop P).length = T.length - P := by simp
  have HN2' : Hid (∀ (W : World) (Q : Option Addr) (cc : Nat) (_ : Has W 0 w.heap.size Q (T.drop P)) (_ : w.heap.size ≤ W.heap.size) (_ : Has W 0 w.heap.size A' l), Calls Try.prog 11 #[.agg #[.slice Q (T.length - P) cc, .int .i64 0], .agg #[.string s, .int .i64 a], .slice A' l.length c'] W fun e w' => ∃ A2 c2, e = .returned (.tuple #[.int .i64 n2, .agg #[.slice A2 T2.length c2, .int .i64 p2], .agg #[.string s, .int .i64 a2], .int .i64 e2]) ∧ Has w' W.heap.size w'.heap.size A2 T2 ∧ Below W.heap.size W w') := Lib.hid (by rw [← hdl]; exact HN2.out)
  clear HNX HN2
  obtain ⟨x0, x1, _, _⟩ := T_2.out
  obtain ⟨y0, y1, _, _⟩ := D_2.out
  go_wp2_with fail
  refine (HNX'.out _ (HTX.out.on HB_2.out (Nat.le_refl _)) HB_2.out.size (HX0.out.on HB_2.out (Nat.le_refl _))).mono ?_
  rintro e w5 ⟨A3, c3, rfl, hh3, hb⟩
  have H3 : Hid (Clear w5 (fun _ => False) A3 T1) := Lib.hid (hh3.clear (Nat.le_refl _) (fun _ h => h.elim))
  clear hh3 x0 x1 y0 y1 HNX'
  have HB_3 : Hid (Below w.heap.size w w5) := Lib.hid (HB_2.out.trans (hb.mono HB_2.out.size))
  have T_3 := Lib.hid (T_2.out.on hb)
  have D_3 := Lib.hid (D_2.out.on hb)
  have S7_3 := Lib.hid (H7.out.on hb)
  clear HB_2 T_2 D_2 H7 hb
  obtain ⟨hx, hc, hbn⟩ := boxes_new w5 (.slice A3 T1.length c3) p1 s a2
  have HX3 := Lib.hid hx
  have HC3 := Lib.hid hc
  clear hx hc
  have HB_4 : Hid (Below w.heap.size w ((w5.alloc (.cells #[.slice A3 T1.length c3, .int .i64 p1] 24)).alloc (.cells #[.string s, .int .i64 a2] 26))) := Lib.hid (HB_3.out.trans (hbn.mono HB_3.out.size))
  have T_4 := Lib.hid (T_3.out.on hbn)
  have D_4 := Lib.hid (D_3.out.on hbn)
  have S7_4 := Lib.hid (S7_3.out.on hbn)
  have S3_4 := Lib.hid (H3.out.on hbn)
  clear HB_3 T_3 D_3 S7_3 H3 hbn
  go_upto_region 6 with (fail)
  generalize (w5.alloc (.cells #[.slice A3 T1.length c3, .int .i64 p1] 24)).alloc (.cells #[.string s, .int .i64 a2] 26) = w6 at *
  generalize w5.heap.size = g3 at *
  have HTX6 : Hid (Has w6 0 w.heap.size A T) := Lib.hid (HTX.out.on HB_4.out (Nat.le_refl _))
  have HX6 : Hid (Has w6 0 w.heap.size A' l) := Lib.hid (HX0.out.on HB_4.out (Nat.le_refl _))
  have hw6 := HB_4.out.size
  obtain ⟨x0, x1, _, _⟩ := T_4.out
  obtain ⟨y0, y1, _, _⟩ := D_4.out
  go_cut [12, 13, 14, 15] from 12 to 54 (fun s12 s13 s14 s15 wx => ∃ gx gy A6 c6, s12 = .int .i64 n2 ∧ s13 = .pointer (some ⟨gx, 0, none⟩) ∧ s14 = .pointer (some ⟨gy, 0, none⟩) ∧ s15 = .int .i64 e2 ∧ Hid (Tb wx gx (.slice A6 T2.length c6) p2) ∧ Hid (Box wx gy s a2) ∧ Hid (Has wx 0 wx.heap.size A6 T2) ∧ Hid (Below w6.heap.size w6 wx))
  case first =>
    have hwd : Hid (w.heap.size + 1 < w6.heap.size) := Lib.hid D_4.out.lt
    obtain ⟨Q, hQ⟩ : ∃ Q, (if c = P then A else Option.map (fun x => x.add P) A) = Q := ⟨_, rfl⟩
    have hQd : Hid (Has w6 0 w.heap.size Q (T.drop P)) := Lib.hid (has_drop HTX6.out hcT.out hQ)
    have i0 : (0 : Int) ≤ (P : Int) := by omega
    have i1 : (P : Int) ≤ (T.length : Int) := by omega
    have hcT' := hcT.out
    have i2 : (T.length : Int) ≤ (c : Int) := by omega
    refine p3_enter (.take 0 (.take 1 (.take 2 (.take 3 (.take 4 (.take 5 (.take 6 (.take 7 (.three 8 (.take 9 (.take 10 (.take 11 (.take 12 (.take 13 (.two 14 (.one 15 (.take 16 (.one 17 (.one 18 (.take 19 .done))))) 15 (.one 14 (.take 16 (.one 17 (.one 18 (.take 19 .done))))))))))) 14 (.two 8 (.take 9 (.take 10 (.take 11 (.take 12 (.take 13 (.one 15 (.take 16 (.one 17 (.one 18 (.take 19 .done)))))))))) 15 (.one 8 (.take 9 (.take 10 (.take 11 (.take 12 (.take 13 (.take 16 (.one 17 (.one 18 (.take 19 .done))))))))))) 15 (.two 8 (.take 9 (.take 10 (.take 11 (.take 12 (.take 13 (.one 14 (.take 16 (.one 17 (.one 18 (.take 19 .done)))))))))) 14 (.one 8 (.take 9 (.take 10 (.take 11 (.take 12 (.take 13 (.take 16 (.one 17 (.one 18 (.take 19 .done)))))))))))))))))))) (fun w' => w'.cell? ⟨w.heap.size, 0, none⟩ = some (.slice A T.length c) ∧ w'.cell? ⟨w.heap.size, 1, none⟩ = some (.int .i64 (P : Nat)) ∧ w'.cell? ⟨w.heap.size + 1, 0, none⟩ = some (.string s) ∧ w'.cell? ⟨w.heap.size + 1, 1, none⟩ = some (.int .i64 a)) (by kernel_rfl) (by kernel_rfl) (by kernel_rfl) (fun _ _ d _ _ h => by cases d <;> exact h) ⟨x0, x1, y0, y1⟩ ?_
    simp only [pick3, opAt, List.drop_succ_cons, List.drop_zero]
    have hB_0 := Lib.hid ((Below.refl w6.heap.size w6).drew)
    have hS_0 : Hid (_ ∧ _) := Lib.hid (four_on ⟨x0, x1, y0, y1⟩ (Below.refl w6.heap.size w6).drew)
    have hz_0 : w6.heap.size ≤ w6.drew.heap.size := hB_0.out.size
    generalize w6.drew = wd at *
    clear x0 x1 y0 y1
    iterate 8 (first | (refine' p3_yes ?_ (by rfl) ?_ ?_; rotate_left; (intro w' hS; (try dsimp only at hS); go_simp; try (with_reducible rfl)); simp only [Act.put, List.setIfInBounds_toArray, List.set_cons_zero, List.set_cons_succ]) | (refine p3_no (by rfl) ?_; simp only [Act.put, List.setIfInBounds_toArray, List.set_cons_zero, List.set_cons_succ]))
    refine p3_three ?_ ?_ ?_
    · intro KK hK
      go_simp
      refine (HN2'.out _ _ _ (hQd.out.on hB_0.out (by omega)) (by omega) (HX6.out.on hB_0.out (by omega))).mono ?_
      rintro e wc1 ⟨A6, c6, rfl, hh6, hbx⟩
      have hB_1 := Lib.hid (hB_0.out.trans (hbx.mono hz_0))
      have hS_1 : Hid (_ ∧ _) := Lib.hid (four_on hS_0.out hbx)
      have hz_1 : w6.heap.size ≤ wc1.heap.size := hB_1.out.size
      have hO_1 : Hid (Clear wc1 (fun _ => False) A6 T2) := Lib.hid (hh6.clear (Nat.le_refl _) (fun k hk => hk.elim))
      clear hh6 hbx hB_0 hS_0
      refine hK.out _ _ hS_1.out ?_
      clear hK
      iterate 5 (first | (refine' p3_yes ?_ (by rfl) ?_ ?_; rotate_left; (intro w' hS; (try dsimp only at hS); go_simp; try (with_reducible rfl)); simp only [Act.put, List.setIfInBounds_toArray, List.set_cons_zero, List.set_cons_succ]) | (refine p3_no (by rfl) ?_; simp only [Act.put, List.setIfInBounds_toArray, List.set_cons_zero, List.set_cons_succ]))
      refine p3_two ?_ ?_
      · intro KK hK
        go_simp
        have hbx : Below wc1.heap.size wc1 (wc1.alloc (.cells #[.slice none 0 0, .int .i64 0] 24)) := (Below.refl _ _).alloc (Nat.le_refl _) _
        have hB_2 := Lib.hid (hB_1.out.trans (hbx.mono hz_1))
        have hS_2 : Hid (_ ∧ _) := Lib.hid (four_on hS_1.out hbx)
        have hz_2 : w6.heap.size ≤ (wc1.alloc (.cells #[.slice none 0 0, .int .i64 0] 24)).heap.size := hB_2.out.size
        have hx_2 := Lib.hid (Tb.new wc1 (.slice none 0 0) 0 24)
        have hO_2 : Hid (Clear (wc1.alloc (.cells #[.slice none 0 0, .int .i64 0] 24)) (fun k => k = wc1.heap.size) A6 T2) := Lib.hid ((hO_1.out.imp (Y := fun k => k = wc1.heap.size) (fun k hk => .inr (by omega))).on hbx)
        have hgwx : w6.heap.size ≤ wc1.heap.size := hz_1
        clear hB_1 hS_1 hO_1
        generalize wc1.alloc (.cells #[.slice none 0 0, .int .i64 0] 24) = wc2 at *
        generalize wc1.heap.size = gx at *
        clear hbx
        refine hK.out _ _ hS_2.out ?_
        clear hK
        refine p3_one ?_
        intro KK hK
        go_simp
        have hbx : Below wc2.heap.size wc2 (wc2.alloc (.cells #[.string ⟨#[]⟩, .int .i64 0] 26)) := (Below.refl _ _).alloc (Nat.le_refl _) _
        have hB_3 := Lib.hid (hB_2.out.trans (hbx.mono hz_2))
        have hS_3 : Hid (_ ∧ _) := Lib.hid (four_on hS_2.out hbx)
        have hz_3 : w6.heap.size ≤ (wc2.alloc (.cells #[.string ⟨#[]⟩, .int .i64 0] 26)).heap.size := hB_3.out.size
        have hx_3 := Lib.hid (hx_2.out.on hbx)
        have hy_3 := Lib.hid (Box.new wc2 ⟨#[]⟩ 0 26)
        have hne : Hid (wc2.heap.size ≠ gx) := Lib.hid (by have := hx_2.out.lt; omega)
        have hO_3 : Hid (Clear (wc2.alloc (.cells #[.string ⟨#[]⟩, .int .i64 0] 26)) (fun k => k = gx ∨ k = wc2.heap.size) A6 T2) := Lib.hid ((hO_2.out.imp (Y := fun k => k = gx ∨ k = wc2.heap.size) (fun k hk => by rcases hk with h | h <;> (first | exact .inl h | exact .inr (by omega)))).on hbx)
        have hgwy : w6.heap.size ≤ wc2.heap.size := hz_2
        clear hB_2 hS_2 hx_2 hO_2
        generalize wc2.alloc (.cells #[.string ⟨#[]⟩, .int .i64 0] 26) = wc3 at *
        generalize wc2.heap.size = gy at *
        clear hbx
        refine hK.out _ _ hS_3.out ?_
        clear hK
        have hwx : Hid (w.heap.size + 1 < w6.heap.size) := hwd
        iterate 1 (first | (refine' p3_yes ?_ (by rfl) ?_ ?_; rotate_left; (intro w' hS; (try dsimp only at hS); go_simp; try (with_reducible rfl)); simp only [Act.put, List.setIfInBounds_toArray, List.set_cons_zero, List.set_cons_succ]) | (refine p3_no (by rfl) ?_; simp only [Act.put, List.setIfInBounds_toArray, List.set_cons_zero, List.set_cons_succ]))
        refine p3_one ?_
        intro KK hK
        obtain ⟨u0, u1, uf0, uf1⟩ := hx_3.out
        go_simp
        have hx2 := Lib.hid (hx_3.out.put (.slice A6 T2.length c6) p2)
        have hne' : gx ≠ gy := by have := hne.out; omega
        have hy2 := Lib.hid ((hy_3.out.far (p := ⟨gx, 0, none⟩) hne'.symm (.slice A6 T2.length c6)).far (p := ⟨gx, 1, none⟩) hne'.symm (.int .i64 p2))
        have hO2 := Lib.hid ((hO_3.out.set (p := ⟨gx, 0, none⟩) (.inl rfl) (.slice A6 T2.length c6)).set (p := ⟨gx, 1, none⟩) (.inl rfl) (.int .i64 p2))
        have hB2 := Lib.hid ((hB_3.out.setCell (p := ⟨gx, 0, none⟩) hgwx (.slice A6 T2.length c6)).setCell (p := ⟨gx, 1, none⟩) hgwx (.int .i64 p2))
        have hS2 : Hid (_ ∧ _) := Lib.hid (four_set hS_3.out gx (by show w.heap.size ≠ gx; have := hwx.out; omega) (by show w.heap.size ≠ gx; have := hwx.out; omega) (by show w.heap.size + 1 ≠ gx; have := hwx.out; omega) (by show w.heap.size + 1 ≠ gx; have := hwx.out; omega) (.slice A6 T2.length c6) (.int .i64 p2))
        refine hK.out _ _ hS2.out ?_
        clear hK u0 u1 uf0 uf1
        refine p3_one ?_
        intro KK hK
        obtain ⟨u0, u1, uf0, uf1⟩ := hy2.out
        go_simp
        have hx3 := Lib.hid ((hx2.out.far (a := ⟨gy, 0, none⟩) hne' (.string s)).far (a := ⟨gy, 1, none⟩) hne' (.int .i64 a2))
        have hy3 := Lib.hid (hy2.out.put s a2)
        have hO3 := Lib.hid ((hO2.out.set (p := ⟨gy, 0, none⟩) (.inr rfl) (.string s)).set (p := ⟨gy, 1, none⟩) (.inr rfl) (.int .i64 a2))
        have hB3 := Lib.hid ((hB2.out.setCell (p := ⟨gy, 0, none⟩) hgwy (.string s)).setCell (p := ⟨gy, 1, none⟩) hgwy (.int .i64 a2))
        have hS3 : Hid (_ ∧ _) := Lib.hid (four_set hS2.out gy (by show w.heap.size ≠ gy; have := hwx.out; omega) (by show w.heap.size ≠ gy; have := hwx.out; omega) (by show w.heap.size + 1 ≠ gy; have := hwx.out; omega) (by show w.heap.size + 1 ≠ gy; have := hwx.out; omega) (.string s) (.int .i64 a2))
        refine hK.out _ _ hS3.out ?_
        clear hK
        iterate 1 (first | (refine' p3_yes ?_ (by rfl) ?_ ?_; rotate_left; (intro w' hS; (try dsimp only at hS); go_simp; try (with_reducible rfl)); simp only [Act.put, List.setIfInBounds_toArray, List.set_cons_zero, List.set_cons_succ]) | (refine p3_no (by rfl) ?_; simp only [Act.put, List.setIfInBounds_toArray, List.set_cons_zero, List.set_cons_succ]))
        refine p3_done ?_
        go_wp2_with fail
        go_meet
        exact ⟨gx, gy, A6, c6, rfl, rfl, rfl, rfl, hx3, hy3, Lib.hid hO3.out.has, hB3⟩
      · intro KK hK
        go_simp
        have hbx : Below wc1.heap.size wc1 (wc1.alloc (.cells #[.string ⟨#[]⟩, .int .i64 0] 26)) := (Below.refl _ _).alloc (Nat.le_refl _) _
        have hB_2 := Lib.hid (hB_1.out.trans (hbx.mono hz_1))
        have hS_2 : Hid (_ ∧ _) := Lib.hid (four_on hS_1.out hbx)
        have hz_2 : w6.heap.size ≤ (wc1.alloc (.cells #[.string ⟨#[]⟩, .int .i64 0] 26)).heap.size := hB_2.out.size
        have hy_2 := Lib.hid (Box.new wc1 ⟨#[]⟩ 0 26)
        have hO_2 : Hid (Clear (wc1.alloc (.cells #[.string ⟨#[]⟩, .int .i64 0] 26)) (fun k => k = wc1.heap.size) A6 T2) := Lib.hid ((hO_1.out.imp (Y := fun k => k = wc1.heap.size) (fun k hk => .inr (by omega))).on hbx)
        have hgwy : w6.heap.size ≤ wc1.heap.size := hz_1
        clear hB_1 hS_1 hO_1
        generalize wc1.alloc (.cells #[.string ⟨#[]⟩, .int .i64 0] 26) = wc2 at *
        generalize wc1.heap.size = gy at *
        clear hbx
        refine hK.out _ _ hS_2.out ?_
        clear hK
        refine p3_one ?_
        intro KK hK
        go_simp
        have hbx : Below wc2.heap.size wc2 (wc2.alloc (.cells #[.slice none 0 0, .int .i64 0] 24)) := (Below.refl _ _).alloc (Nat.le_refl _) _
        have hB_3 := Lib.hid (hB_2.out.trans (hbx.mono hz_2))
        have hS_3 : Hid (_ ∧ _) := Lib.hid (four_on hS_2.out hbx)
        have hz_3 : w6.heap.size ≤ (wc2.alloc (.cells #[.slice none 0 0, .int .i64 0] 24)).heap.size := hB_3.out.size
        have hy_3 := Lib.hid (hy_2.out.on hbx)
        have hx_3 := Lib.hid (Tb.new wc2 (.slice none 0 0) 0 24)
        have hne : Hid (wc2.heap.size ≠ gy) := Lib.hid (by have := hy_2.out.lt; omega)
        have hO_3 : Hid (Clear (wc2.alloc (.cells #[.slice none 0 0, .int .i64 0] 24)) (fun k => k = wc2.heap.size ∨ k = gy) A6 T2) := Lib.hid ((hO_2.out.imp (Y := fun k => k = wc2.heap.size ∨ k = gy) (fun k hk => by rcases hk with h | h <;> (first | exact .inl h | exact .inr (by omega)))).on hbx)
        have hgwx : w6.heap.size ≤ wc2.heap.size := hz_2
        clear hB_2 hS_2 hy_2 hO_2
        generalize wc2.alloc (.cells #[.slice none 0 0, .int .i64 0] 24) = wc3 at *
        generalize wc2.heap.size = gx at *
        clear hbx
        refine hK.out _ _ hS_3.out ?_
        clear hK
        have hwx : Hid (w.heap.size + 1 < w6.heap.size) := hwd
        iterate 1 (first | (refine' p3_yes ?_ (by rfl) ?_ ?_; rotate_left; (intro w' hS; (try dsimp only at hS); go_simp; try (with_reducible rfl)); simp only [Act.put, List.setIfInBounds_toArray, List.set_cons_zero, List.set_cons_succ]) | (refine p3_no (by rfl) ?_; simp only [Act.put, List.setIfInBounds_toArray, List.set_cons_zero, List.set_cons_succ]))
        refine p3_one ?_
        intro KK hK
        obtain ⟨u0, u1, uf0, uf1⟩ := hx_3.out
        go_simp
        have hx2 := Lib.hid (hx_3.out.put (.slice A6 T2.length c6) p2)
        have hne' : gx ≠ gy := by have := hne.out; omega
        have hy2 := Lib.hid ((hy_3.out.far (p := ⟨gx, 0, none⟩) hne'.symm (.slice A6 T2.length c6)).far (p := ⟨gx, 1, none⟩) hne'.symm (.int .i64 p2))
        have hO2 := Lib.hid ((hO_3.out.set (p := ⟨gx, 0, none⟩) (.inl rfl) (.slice A6 T2.length c6)).set (p := ⟨gx, 1, none⟩) (.inl rfl) (.int .i64 p2))
        have hB2 := Lib.hid ((hB_3.out.setCell (p := ⟨gx, 0, none⟩) hgwx (.slice A6 T2.length c6)).setCell (p := ⟨gx, 1, none⟩) hgwx (.int .i64 p2))
        have hS2 : Hid (_ ∧ _) := Lib.hid (four_set hS_3.out gx (by show w.heap.size ≠ gx; have := hwx.out; omega) (by show w.heap.size ≠ gx; have := hwx.out; omega) (by show w.heap.size + 1 ≠ gx; have := hwx.out; omega) (by show w.heap.size + 1 ≠ gx; have := hwx.out; omega) (.slice A6 T2.length c6) (.int .i64 p2))
        refine hK.out _ _ hS2.out ?_
        clear hK u0 u1 uf0 uf1
        refine p3_one ?_
        intro KK hK
        obtain ⟨u0, u1, uf0, uf1⟩ := hy2.out
        go_simp
        have hx3 := Lib.hid ((hx2.out.far (a := ⟨gy, 0, none⟩) hne' (.string s)).far (a := ⟨gy, 1, none⟩) hne' (.int .i64 a2))
        have hy3 := Lib.hid (hy2.out.put s a2)
        have hO3 := Lib.hid ((hO2.out.set (p := ⟨gy, 0, none⟩) (.inr rfl) (.string s)).set (p := ⟨gy, 1, none⟩) (.inr rfl) (.int .i64 a2))
        have hB3 := Lib.hid ((hB2.out.setCell (p := ⟨gy, 0, none⟩) hgwy (.string s)).setCell (p := ⟨gy, 1, none⟩) hgwy (.int .i64 a2))
        have hS3 : Hid (_ ∧ _) := Lib.hid (four_set hS2.out gy (by show w.heap.size ≠ gy; have := hwx.out; omega) (by show w.heap.size ≠ gy; have := hwx.out; omega) (by show w.heap.size + 1 ≠ gy; have := hwx.out; omega) (by show w.heap.size + 1 ≠ gy; have := hwx.out; omega) (.string s) (.int .i64 a2))
        refine hK.out _ _ hS3.out ?_
        clear hK
        iterate 1 (first | (refine' p3_yes ?_ (by rfl) ?_ ?_; rotate_left; (intro w' hS; (try dsimp only at hS); go_simp; try (with_reducible rfl)); simp only [Act.put, List.setIfInBounds_toArray, List.set_cons_zero, List.set_cons_succ]) | (refine p3_no (by rfl) ?_; simp only [Act.put, List.setIfInBounds_toArray, List.set_cons_zero, List.set_cons_succ]))
        refine p3_done ?_
        go_wp2_with fail
        go_meet
        exact ⟨gx, gy, A6, c6, rfl, rfl, rfl, rfl, hx3, hy3, Lib.hid hO3.out.has, hB3⟩
    · intro KK hK
      go_simp
      have hbx : Below wd.heap.size wd (wd.alloc (.cells #[.slice none 0 0, .int .i64 0] 24)) := (Below.refl _ _).alloc (Nat.le_refl _) _
      have hB_1 := Lib.hid (hB_0.out.trans (hbx.mono hz_0))
      have hS_1 : Hid (_ ∧ _) := Lib.hid (four_on hS_0.out hbx)
      have hz_1 : w6.heap.size ≤ (wd.alloc (.cells #[.slice none 0 0, .int .i64 0] 24)).heap.size := hB_1.out.size
      have hx_1 := Lib.hid (Tb.new wd (.slice none 0 0) 0 24)
      have hgwx : w6.heap.size ≤ wd.heap.size := hz_0
      clear hB_0 hS_0
      generalize wd.alloc (.cells #[.slice none 0 0, .int .i64 0] 24) = wc1 at *
      generalize wd.heap.size = gx at *
      clear hbx
      refine hK.out _ _ hS_1.out ?_
      clear hK
      refine p3_two ?_ ?_
      · intro KK hK
        go_simp
        refine (HN2'.out _ _ _ (hQd.out.on hB_1.out (by omega)) (by omega) (HX6.out.on hB_1.out (by omega))).mono ?_
        rintro e wc2 ⟨A6, c6, rfl, hh6, hbx⟩
        have hB_2 := Lib.hid (hB_1.out.trans (hbx.mono hz_1))
        have hS_2 : Hid (_ ∧ _) := Lib.hid (four_on hS_1.out hbx)
        have hz_2 : w6.heap.size ≤ wc2.heap.size := hB_2.out.size
        have hx_2 := Lib.hid (hx_1.out.on hbx)
        have hO_2 : Hid (Clear wc2 (fun k => k = gx) A6 T2) := Lib.hid (hh6.clear (Nat.le_refl _) (fun k hk => .inl (by have := hx_1.out.lt; omega)))
        clear hh6 hbx hB_1 hS_1 hx_1
        refine hK.out _ _ hS_2.out ?_
        clear hK
        iterate 5 (first | (refine' p3_yes ?_ (by rfl) ?_ ?_; rotate_left; (intro w' hS; (try dsimp only at hS); go_simp; try (with_reducible rfl)); simp only [Act.put, List.setIfInBounds_toArray, List.set_cons_zero, List.set_cons_succ]) | (refine p3_no (by rfl) ?_; simp only [Act.put, List.setIfInBounds_toArray, List.set_cons_zero, List.set_cons_succ]))
        refine p3_one ?_
        intro KK hK
        go_simp
        have hbx : Below wc2.heap.size wc2 (wc2.alloc (.cells #[.string ⟨#[]⟩, .int .i64 0] 26)) := (Below.refl _ _).alloc (Nat.le_refl _) _
        have hB_3 := Lib.hid (hB_2.out.trans (hbx.mono hz_2))
        have hS_3 : Hid (_ ∧ _) := Lib.hid (four_on hS_2.out hbx)
        have hz_3 : w6.heap.size ≤ (wc2.alloc (.cells #[.string ⟨#[]⟩, .int .i64 0] 26)).heap.size := hB_3.out.size
        have hx_3 := Lib.hid (hx_2.out.on hbx)
        have hy_3 := Lib.hid (Box.new wc2 ⟨#[]⟩ 0 26)
        have hne : Hid (wc2.heap.size ≠ gx) := Lib.hid (by have := hx_2.out.lt; omega)
        have hO_3 : Hid (Clear (wc2.alloc (.cells #[.string ⟨#[]⟩, .int .i64 0] 26)) (fun k => k = gx ∨ k = wc2.heap.size) A6 T2) := Lib.hid ((hO_2.out.imp (Y := fun k => k = gx ∨ k = wc2.heap.size) (fun k hk => by rcases hk with h | h <;> (first | exact .inl h | exact .inr (by omega)))).on hbx)
        have hgwy : w6.heap.size ≤ wc2.heap.size := hz_2
        clear hB_2 hS_2 hx_2 hO_2
        generalize wc2.alloc (.cells #[.string ⟨#[]⟩, .int .i64 0] 26) = wc3 at *
        generalize wc2.heap.size = gy at *
        clear hbx
        refine hK.out _ _ hS_3.out ?_
        clear hK
        have hwx : Hid (w.heap.size + 1 < w6.heap.size) := hwd
        iterate 1 (first | (refine' p3_yes ?_ (by rfl) ?_ ?_; rotate_left; (intro w' hS; (try dsimp only at hS); go_simp; try (with_reducible rfl)); simp only [Act.put, List.setIfInBounds_toArray, List.set_cons_zero, List.set_cons_succ]) | (refine p3_no (by rfl) ?_; simp only [Act.put, List.setIfInBounds_toArray, List.set_cons_zero, List.set_cons_succ]))
        refine p3_one ?_
        intro KK hK
        obtain ⟨u0, u1, uf0, uf1⟩ := hx_3.out
        go_simp
        have hx2 := Lib.hid (hx_3.out.put (.slice A6 T2.length c6) p2)
        have hne' : gx ≠ gy := by have := hne.out; omega
        have hy2 := Lib.hid ((hy_3.out.far (p := ⟨gx, 0, none⟩) hne'.symm (.slice A6 T2.length c6)).far (p := ⟨gx, 1, none⟩) hne'.symm (.int .i64 p2))
        have hO2 := Lib.hid ((hO_3.out.set (p := ⟨gx, 0, none⟩) (.inl rfl) (.slice A6 T2.length c6)).set (p := ⟨gx, 1, none⟩) (.inl rfl) (.int .i64 p2))
        have hB2 := Lib.hid ((hB_3.out.setCell (p := ⟨gx, 0, none⟩) hgwx (.slice A6 T2.length c6)).setCell (p := ⟨gx, 1, none⟩) hgwx (.int .i64 p2))
        have hS2 : Hid (_ ∧ _) := Lib.hid (four_set hS_3.out gx (by show w.heap.size ≠ gx; have := hwx.out; omega) (by show w.heap.size ≠ gx; have := hwx.out; omega) (by show w.heap.size + 1 ≠ gx; have := hwx.out; omega) (by show w.heap.size + 1 ≠ gx; have := hwx.out; omega) (.slice A6 T2.length c6) (.int .i64 p2))
        refine hK.out _ _ hS2.out ?_
        clear hK u0 u1 uf0 uf1
        refine p3_one ?_
        intro KK hK
        obtain ⟨u0, u1, uf0, uf1⟩ := hy2.out
        go_simp
        have hx3 := Lib.hid ((hx2.out.far (a := ⟨gy, 0, none⟩) hne' (.string s)).far (a := ⟨gy, 1, none⟩) hne' (.int .i64 a2))
        have hy3 := Lib.hid (hy2.out.put s a2)
        have hO3 := Lib.hid ((hO2.out.set (p := ⟨gy, 0, none⟩) (.inr rfl) (.string s)).set (p := ⟨gy, 1, none⟩) (.inr rfl) (.int .i64 a2))
        have hB3 := Lib.hid ((hB2.out.setCell (p := ⟨gy, 0, none⟩) hgwy (.string s)).setCell (p := ⟨gy, 1, none⟩) hgwy (.int .i64 a2))
        have hS3 : Hid (_ ∧ _) := Lib.hid (four_set hS2.out gy (by show w.heap.size ≠ gy; have := hwx.out; omega) (by show w.heap.size ≠ gy; have := hwx.out; omega) (by show w.heap.size + 1 ≠ gy; have := hwx.out; omega) (by show w.heap.size + 1 ≠ gy; have := hwx.out; omega) (.string s) (.int .i64 a2))
        refine hK.out _ _ hS3.out ?_
        clear hK
        iterate 1 (first | (refine' p3_yes ?_ (by rfl) ?_ ?_; rotate_left; (intro w' hS; (try dsimp only at hS); go_simp; try (with_reducible rfl)); simp only [Act.put, List.setIfInBounds_toArray, List.set_cons_zero, List.set_cons_succ]) | (refine p3_no (by rfl) ?_; simp only [Act.put, List.setIfInBounds_toArray, List.set_cons_zero, List.set_cons_succ]))
        refine p3_done ?_
        go_wp2_with fail
        go_meet
        exact ⟨gx, gy, A6, c6, rfl, rfl, rfl, rfl, hx3, hy3, Lib.hid hO3.out.has, hB3⟩
      · intro KK hK
        go_simp
        have hbx : Below wc1.heap.size wc1 (wc1.alloc (.cells #[.string ⟨#[]⟩, .int .i64 0] 26)) := (Below.refl _ _).alloc (Nat.le_refl _) _
        have hB_2 := Lib.hid (hB_1.out.trans (hbx.mono hz_1))
        have hS_2 : Hid (_ ∧ _) := Lib.hid (four_on hS_1.out hbx)
        have hz_2 : w6.heap.size ≤ (wc1.alloc (.cells #[.string ⟨#[]⟩, .int .i64 0] 26)).heap.size := hB_2.out.size
        have hx_2 := Lib.hid (hx_1.out.on hbx)
        have hy_2 := Lib.hid (Box.new wc1 ⟨#[]⟩ 0 26)
        have hne : Hid (wc1.heap.size ≠ gx) := Lib.hid (by have := hx_1.out.lt; omega)
        have hgwy : w6.heap.size ≤ wc1.heap.size := hz_1
        clear hB_1 hS_1 hx_1
        generalize wc1.alloc (.cells #[.string ⟨#[]⟩, .int .i64 0] 26) = wc2 at *
        generalize wc1.heap.size = gy at *
        clear hbx
        refine hK.out _ _ hS_2.out ?_
        clear hK
        refine p3_one ?_
        intro KK hK
        go_simp
        refine (HN2'.out _ _ _ (hQd.out.on hB_2.out (by omega)) (by omega) (HX6.out.on hB_2.out (by omega))).mono ?_
        rintro e wc3 ⟨A6, c6, rfl, hh6, hbx⟩
        have hB_3 := Lib.hid (hB_2.out.trans (hbx.mono hz_2))
        have hS_3 : Hid (_ ∧ _) := Lib.hid (four_on hS_2.out hbx)
        have hz_3 : w6.heap.size ≤ wc3.heap.size := hB_3.out.size
        have hx_3 := Lib.hid (hx_2.out.on hbx)
        have hy_3 := Lib.hid (hy_2.out.on hbx)
        have hO_3 : Hid (Clear wc3 (fun k => k = gx ∨ k = gy) A6 T2) := Lib.hid (hh6.clear (Nat.le_refl _) (fun k hk => .inl (by have := hx_2.out.lt; have := hy_2.out.lt; omega)))
        clear hh6 hbx hB_2 hS_2 hx_2 hy_2
        refine hK.out _ _ hS_3.out ?_
        clear hK
        iterate 5 (first | (refine' p3_yes ?_ (by rfl) ?_ ?_; rotate_left; (intro w' hS; (try dsimp only at hS); go_simp; try (with_reducible rfl)); simp only [Act.put, List.setIfInBounds_toArray, List.set_cons_zero, List.set_cons_succ]) | (refine p3_no (by rfl) ?_; simp only [Act.put, List.setIfInBounds_toArray, List.set_cons_zero, List.set_cons_succ]))
        have hwx : Hid (w.heap.size + 1 < w6.heap.size) := hwd
        iterate 1 (first | (refine' p3_yes ?_ (by rfl) ?_ ?_; rotate_left; (intro w' hS; (try dsimp only at hS); go_simp; try (with_reducible rfl)); simp only [Act.put, List.setIfInBounds_toArray, List.set_cons_zero, List.set_cons_succ]) | (refine p3_no (by rfl) ?_; simp only [Act.put, List.setIfInBounds_toArray, List.set_cons_zero, List.set_cons_succ]))
        refine p3_one ?_
        intro KK hK
        obtain ⟨u0, u1, uf0, uf1⟩ := hx_3.out
        go_simp
        have hx2 := Lib.hid (hx_3.out.put (.slice A6 T2.length c6) p2)
        have hne' : gx ≠ gy := by have := hne.out; omega
        have hy2 := Lib.hid ((hy_3.out.far (p := ⟨gx, 0, none⟩) hne'.symm (.slice A6 T2.length c6)).far (p := ⟨gx, 1, none⟩) hne'.symm (.int .i64 p2))
        have hO2 := Lib.hid ((hO_3.out.set (p := ⟨gx, 0, none⟩) (.inl rfl) (.slice A6 T2.length c6)).set (p := ⟨gx, 1, none⟩) (.inl rfl) (.int .i64 p2))
        have hB2 := Lib.hid ((hB_3.out.setCell (p := ⟨gx, 0, none⟩) hgwx (.slice A6 T2.length c6)).setCell (p := ⟨gx, 1, none⟩) hgwx (.int .i64 p2))
        have hS2 : Hid (_ ∧ _) := Lib.hid (four_set hS_3.out gx (by show w.heap.size ≠ gx; have := hwx.out; omega) (by show w.heap.size ≠ gx; have := hwx.out; omega) (by show w.heap.size + 1 ≠ gx; have := hwx.out; omega) (by show w.heap.size + 1 ≠ gx; have := hwx.out; omega) (.slice A6 T2.length c6) (.int .i64 p2))
        refine hK.out _ _ hS2.out ?_
        clear hK u0 u1 uf0 uf1
        refine p3_one ?_
        intro KK hK
        obtain ⟨u0, u1, uf0, uf1⟩ := hy2.out
        go_simp
        have hx3 := Lib.hid ((hx2.out.far (a := ⟨gy, 0, none⟩) hne' (.string s)).far (a := ⟨gy, 1, none⟩) hne' (.int .i64 a2))
        have hy3 := Lib.hid (hy2.out.put s a2)
        have hO3 := Lib.hid ((hO2.out.set (p := ⟨gy, 0, none⟩) (.inr rfl) (.string s)).set (p := ⟨gy, 1, none⟩) (.inr rfl) (.int .i64 a2))
        have hB3 := Lib.hid ((hB2.out.setCell (p := ⟨gy, 0, none⟩) hgwy (.string s)).setCell (p := ⟨gy, 1, none⟩) hgwy (.int .i64 a2))
        have hS3 : Hid (_ ∧ _) := Lib.hid (four_set hS2.out gy (by show w.heap.size ≠ gy; have := hwx.out; omega) (by show w.heap.size ≠ gy; have := hwx.out; omega) (by show w.heap.size + 1 ≠ gy; have := hwx.out; omega) (by show w.heap.size + 1 ≠ gy; have := hwx.out; omega) (.string s) (.int .i64 a2))
        refine hK.out _ _ hS3.out ?_
        clear hK
        iterate 1 (first | (refine' p3_yes ?_ (by rfl) ?_ ?_; rotate_left; (intro w' hS; (try dsimp only at hS); go_simp; try (with_reducible rfl)); simp only [Act.put, List.setIfInBounds_toArray, List.set_cons_zero, List.set_cons_succ]) | (refine p3_no (by rfl) ?_; simp only [Act.put, List.setIfInBounds_toArray, List.set_cons_zero, List.set_cons_succ]))
        refine p3_done ?_
        go_wp2_with fail
        go_meet
        exact ⟨gx, gy, A6, c6, rfl, rfl, rfl, rfl, hx3, hy3, Lib.hid hO3.out.has, hB3⟩
    · intro KK hK
      go_simp
      have hbx : Below wd.heap.size wd (wd.alloc (.cells #[.string ⟨#[]⟩, .int .i64 0] 26)) := (Below.refl _ _).alloc (Nat.le_refl _) _
      have hB_1 := Lib.hid (hB_0.out.trans (hbx.mono hz_0))
      have hS_1 : Hid (_ ∧ _) := Lib.hid (four_on hS_0.out hbx)
      have hz_1 : w6.heap.size ≤ (wd.alloc (.cells #[.string ⟨#[]⟩, .int .i64 0] 26)).heap.size := hB_1.out.size
      have hy_1 := Lib.hid (Box.new wd ⟨#[]⟩ 0 26)
      have hgwy : w6.heap.size ≤ wd.heap.size := hz_0
      clear hB_0 hS_0
      generalize wd.alloc (.cells #[.string ⟨#[]⟩, .int .i64 0] 26) = wc1 at *
      generalize wd.heap.size = gy at *
      clear hbx
      refine hK.out _ _ hS_1.out ?_
      clear hK
      refine p3_two ?_ ?_
      · intro KK hK
        go_simp
        refine (HN2'.out _ _ _ (hQd.out.on hB_1.out (by omega)) (by omega) (HX6.out.on hB_1.out (by omega))).mono ?_
        rintro e wc2 ⟨A6, c6, rfl, hh6, hbx⟩
        have hB_2 := Lib.hid (hB_1.out.trans (hbx.mono hz_1))
        have hS_2 : Hid (_ ∧ _) := Lib.hid (four_on hS_1.out hbx)
        have hz_2 : w6.heap.size ≤ wc2.heap.size := hB_2.out.size
        have hy_2 := Lib.hid (hy_1.out.on hbx)
        have hO_2 : Hid (Clear wc2 (fun k => k = gy) A6 T2) := Lib.hid (hh6.clear (Nat.le_refl _) (fun k hk => .inl (by have := hy_1.out.lt; omega)))
        clear hh6 hbx hB_1 hS_1 hy_1
        refine hK.out _ _ hS_2.out ?_
        clear hK
        iterate 5 (first | (refine' p3_yes ?_ (by rfl) ?_ ?_; rotate_left; (intro w' hS; (try dsimp only at hS); go_simp; try (with_reducible rfl)); simp only [Act.put, List.setIfInBounds_toArray, List.set_cons_zero, List.set_cons_succ]) | (refine p3_no (by rfl) ?_; simp only [Act.put, List.setIfInBounds_toArray, List.set_cons_zero, List.set_cons_succ]))
        refine p3_one ?_
        intro KK hK
        go_simp
        have hbx : Below wc2.heap.size wc2 (wc2.alloc (.cells #[.slice none 0 0, .int .i64 0] 24)) := (Below.refl _ _).alloc (Nat.le_refl _) _
        have hB_3 := Lib.hid (hB_2.out.trans (hbx.mono hz_2))
        have hS_3 : Hid (_ ∧ _) := Lib.hid (four_on hS_2.out hbx)
        have hz_3 : w6.heap.size ≤ (wc2.alloc (.cells #[.slice none 0 0, .int .i64 0] 24)).heap.size := hB_3.out.size
        have hy_3 := Lib.hid (hy_2.out.on hbx)
        have hx_3 := Lib.hid (Tb.new wc2 (.slice none 0 0) 0 24)
        have hne : Hid (wc2.heap.size ≠ gy) := Lib.hid (by have := hy_2.out.lt; omega)
        have hO_3 : Hid (Clear (wc2.alloc (.cells #[.slice none 0 0, .int .i64 0] 24)) (fun k => k = wc2.heap.size ∨ k = gy) A6 T2) := Lib.hid ((hO_2.out.imp (Y := fun k => k = wc2.heap.size ∨ k = gy) (fun k hk => by rcases hk with h | h <;> (first | exact .inl h | exact .inr (by omega)))).on hbx)
        have hgwx : w6.heap.size ≤ wc2.heap.size := hz_2
        clear hB_2 hS_2 hy_2 hO_2
        generalize wc2.alloc (.cells #[.slice none 0 0, .int .i64 0] 24) = wc3 at *
        generalize wc2.heap.size = gx at *
        clear hbx
        refine hK.out _ _ hS_3.out ?_
        clear hK
        have hwx : Hid (w.heap.size + 1 < w6.heap.size) := hwd
        iterate 1 (first | (refine' p3_yes ?_ (by rfl) ?_ ?_; rotate_left; (intro w' hS; (try dsimp only at hS); go_simp; try (with_reducible rfl)); simp only [Act.put, List.setIfInBounds_toArray, List.set_cons_zero, List.set_cons_succ]) | (refine p3_no (by rfl) ?_; simp only [Act.put, List.setIfInBounds_toArray, List.set_cons_zero, List.set_cons_succ]))
        refine p3_one ?_
        intro KK hK
        obtain ⟨u0, u1, uf0, uf1⟩ := hx_3.out
        go_simp
        have hx2 := Lib.hid (hx_3.out.put (.slice A6 T2.length c6) p2)
        have hne' : gx ≠ gy := by have := hne.out; omega
        have hy2 := Lib.hid ((hy_3.out.far (p := ⟨gx, 0, none⟩) hne'.symm (.slice A6 T2.length c6)).far (p := ⟨gx, 1, none⟩) hne'.symm (.int .i64 p2))
        have hO2 := Lib.hid ((hO_3.out.set (p := ⟨gx, 0, none⟩) (.inl rfl) (.slice A6 T2.length c6)).set (p := ⟨gx, 1, none⟩) (.inl rfl) (.int .i64 p2))
        have hB2 := Lib.hid ((hB_3.out.setCell (p := ⟨gx, 0, none⟩) hgwx (.slice A6 T2.length c6)).setCell (p := ⟨gx, 1, none⟩) hgwx (.int .i64 p2))
        have hS2 : Hid (_ ∧ _) := Lib.hid (four_set hS_3.out gx (by show w.heap.size ≠ gx; have := hwx.out; omega) (by show w.heap.size ≠ gx; have := hwx.out; omega) (by show w.heap.size + 1 ≠ gx; have := hwx.out; omega) (by show w.heap.size + 1 ≠ gx; have := hwx.out; omega) (.slice A6 T2.length c6) (.int .i64 p2))
        refine hK.out _ _ hS2.out ?_
        clear hK u0 u1 uf0 uf1
        refine p3_one ?_
        intro KK hK
        obtain ⟨u0, u1, uf0, uf1⟩ := hy2.out
        go_simp
        have hx3 := Lib.hid ((hx2.out.far (a := ⟨gy, 0, none⟩) hne' (.string s)).far (a := ⟨gy, 1, none⟩) hne' (.int .i64 a2))
        have hy3 := Lib.hid (hy2.out.put s a2)
        have hO3 := Lib.hid ((hO2.out.set (p := ⟨gy, 0, none⟩) (.inr rfl) (.string s)).set (p := ⟨gy, 1, none⟩) (.inr rfl) (.int .i64 a2))
        have hB3 := Lib.hid ((hB2.out.setCell (p := ⟨gy, 0, none⟩) hgwy (.string s)).setCell (p := ⟨gy, 1, none⟩) hgwy (.int .i64 a2))
        have hS3 : Hid (_ ∧ _) := Lib.hid (four_set hS2.out gy (by show w.heap.size ≠ gy; have := hwx.out; omega) (by show w.heap.size ≠ gy; have := hwx.out; omega) (by show w.heap.size + 1 ≠ gy; have := hwx.out; omega) (by show w.heap.size + 1 ≠ gy; have := hwx.out; omega) (.string s) (.int .i64 a2))
        refine hK.out _ _ hS3.out ?_
        clear hK
        iterate 1 (first | (refine' p3_yes ?_ (by rfl) ?_ ?_; rotate_left; (intro w' hS; (try dsimp only at hS); go_simp; try (with_reducible rfl)); simp only [Act.put, List.setIfInBounds_toArray, List.set_cons_zero, List.set_cons_succ]) | (refine p3_no (by rfl) ?_; simp only [Act.put, List.setIfInBounds_toArray, List.set_cons_zero, List.set_cons_succ]))
        refine p3_done ?_
        go_wp2_with fail
        go_meet
        exact ⟨gx, gy, A6, c6, rfl, rfl, rfl, rfl, hx3, hy3, Lib.hid hO3.out.has, hB3⟩
      · intro KK hK
        go_simp
        have hbx : Below wc1.heap.size wc1 (wc1.alloc (.cells #[.slice none 0 0, .int .i64 0] 24)) := (Below.refl _ _).alloc (Nat.le_refl _) _
        have hB_2 := Lib.hid (hB_1.out.trans (hbx.mono hz_1))
        have hS_2 : Hid (_ ∧ _) := Lib.hid (four_on hS_1.out hbx)
        have hz_2 : w6.heap.size ≤ (wc1.alloc (.cells #[.slice none 0 0, .int .i64 0] 24)).heap.size := hB_2.out.size
        have hy_2 := Lib.hid (hy_1.out.on hbx)
        have hx_2 := Lib.hid (Tb.new wc1 (.slice none 0 0) 0 24)
        have hne : Hid (wc1.heap.size ≠ gy) := Lib.hid (by have := hy_1.out.lt; omega)
        have hgwx : w6.heap.size ≤ wc1.heap.size := hz_1
        clear hB_1 hS_1 hy_1
        generalize wc1.alloc (.cells #[.slice none 0 0, .int .i64 0] 24) = wc2 at *
        generalize wc1.heap.size = gx at *
        clear hbx
        refine hK.out _ _ hS_2.out ?_
        clear hK
        refine p3_one ?_
        intro KK hK
        go_simp
        refine (HN2'.out _ _ _ (hQd.out.on hB_2.out (by omega)) (by omega) (HX6.out.on hB_2.out (by omega))).mono ?_
        rintro e wc3 ⟨A6, c6, rfl, hh6, hbx⟩
        have hB_3 := Lib.hid (hB_2.out.trans (hbx.mono hz_2))
        have hS_3 : Hid (_ ∧ _) := Lib.hid (four_on hS_2.out hbx)
        have hz_3 : w6.heap.size ≤ wc3.heap.size := hB_3.out.size
        have hx_3 := Lib.hid (hx_2.out.on hbx)
        have hy_3 := Lib.hid (hy_2.out.on hbx)
        have hO_3 : Hid (Clear wc3 (fun k => k = gx ∨ k = gy) A6 T2) := Lib.hid (hh6.clear (Nat.le_refl _) (fun k hk => .inl (by have := hx_2.out.lt; have := hy_2.out.lt; omega)))
        clear hh6 hbx hB_2 hS_2 hx_2 hy_2
        refine hK.out _ _ hS_3.out ?_
        clear hK
        iterate 5 (first | (refine' p3_yes ?_ (by rfl) ?_ ?_; rotate_left; (intro w' hS; (try dsimp only at hS); go_simp; try (with_reducible rfl)); simp only [Act.put, List.setIfInBounds_toArray, List.set_cons_zero, List.set_cons_succ]) | (refine p3_no (by rfl) ?_; simp only [Act.put, List.setIfInBounds_toArray, List.set_cons_zero, List.set_cons_succ]))
        have hwx : Hid (w.heap.size + 1 < w6.heap.size) := hwd
        iterate 1 (first | (refine' p3_yes ?_ (by rfl) ?_ ?_; rotate_left; (intro w' hS; (try dsimp only at hS); go_simp; try (with_reducible rfl)); simp only [Act.put, List.setIfInBounds_toArray, List.set_cons_zero, List.set_cons_succ]) | (refine p3_no (by rfl) ?_; simp only [Act.put, List.setIfInBounds_toArray, List.set_cons_zero, List.set_cons_succ]))
        refine p3_one ?_
        intro KK hK
        obtain ⟨u0, u1, uf0, uf1⟩ := hx_3.out
        go_simp
        have hx2 := Lib.hid (hx_3.out.put (.slice A6 T2.length c6) p2)
        have hne' : gx ≠ gy := by have := hne.out; omega
        have hy2 := Lib.hid ((hy_3.out.far (p := ⟨gx, 0, none⟩) hne'.symm (.slice A6 T2.length c6)).far (p := ⟨gx, 1, none⟩) hne'.symm (.int .i64 p2))
        have hO2 := Lib.hid ((hO_3.out.set (p := ⟨gx, 0, none⟩) (.inl rfl) (.slice A6 T2.length c6)).set (p := ⟨gx, 1, none⟩) (.inl rfl) (.int .i64 p2))
        have hB2 := Lib.hid ((hB_3.out.setCell (p := ⟨gx, 0, none⟩) hgwx (.slice A6 T2.length c6)).setCell (p := ⟨gx, 1, none⟩) hgwx (.int .i64 p2))
        have hS2 : Hid (_ ∧ _) := Lib.hid (four_set hS_3.out gx (by show w.heap.size ≠ gx; have := hwx.out; omega) (by show w.heap.size ≠ gx; have := hwx.out; omega) (by show w.heap.size + 1 ≠ gx; have := hwx.out; omega) (by show w.heap.size + 1 ≠ gx; have := hwx.out; omega) (.slice A6 T2.length c6) (.int .i64 p2))
        refine hK.out _ _ hS2.out ?_
        clear hK u0 u1 uf0 uf1
        refine p3_one ?_
        intro KK hK
        obtain ⟨u0, u1, uf0, uf1⟩ := hy2.out
        go_simp
        have hx3 := Lib.hid ((hx2.out.far (a := ⟨gy, 0, none⟩) hne' (.string s)).far (a := ⟨gy, 1, none⟩) hne' (.int .i64 a2))
        have hy3 := Lib.hid (hy2.out.put s a2)
        have hO3 := Lib.hid ((hO2.out.set (p := ⟨gy, 0, none⟩) (.inr rfl) (.string s)).set (p := ⟨gy, 1, none⟩) (.inr rfl) (.int .i64 a2))
        have hB3 := Lib.hid ((hB2.out.setCell (p := ⟨gy, 0, none⟩) hgwy (.string s)).setCell (p := ⟨gy, 1, none⟩) hgwy (.int .i64 a2))
        have hS3 : Hid (_ ∧ _) := Lib.hid (four_set hS2.out gy (by show w.heap.size ≠ gy; have := hwx.out; omega) (by show w.heap.size ≠ gy; have := hwx.out; omega) (by show w.heap.size + 1 ≠ gy; have := hwx.out; omega) (by show w.heap.size + 1 ≠ gy; have := hwx.out; omega) (.string s) (.int .i64 a2))
        refine hK.out _ _ hS3.out ?_
        clear hK
        iterate 1 (first | (refine' p3_yes ?_ (by rfl) ?_ ?_; rotate_left; (intro w' hS; (try dsimp only at hS); go_simp; try (with_reducible rfl)); simp only [Act.put, List.setIfInBounds_toArray, List.set_cons_zero, List.set_cons_succ]) | (refine p3_no (by rfl) ?_; simp only [Act.put, List.setIfInBounds_toArray, List.set_cons_zero, List.set_cons_succ]))
        refine p3_done ?_
        go_wp2_with fail
        go_meet
        exact ⟨gx, gy, A6, c6, rfl, rfl, rfl, rfl, hx3, hy3, Lib.hid hO3.out.has, hB3⟩
  case rest =>
  obtain ⟨gx, gy, A6, c6, rfl, rfl, rfl, rfl, HX6', HY6, HA6, HC6⟩ := hcut
  have hb6 := HC6.out
  clear HC6 x0 x1 y0 y1 HN2' HX6 HTX6 hw6
  have HB_5 : Hid (Below w.heap.size w wc) := Lib.hid (HB_4.out.trans (hb6.mono HB_4.out.size))
  have T_5 := Lib.hid (T_4.out.on hb6)
  have D_5 := Lib.hid (D_4.out.on hb6)
  have S7_5 := Lib.hid (S7_4.out.on hb6)
  have S3_5 := Lib.hid (S3_4.out.on hb6)
  have X3_5 := Lib.hid (HX3.out.on hb6)
  have C3_5 := Lib.hid (HC3.out.on hb6)
  clear HB_4 T_4 D_4 S7_4 S3_4 HX3 HC3 hb6
  have S6 : Hid (Clear wc (fun _ => False) A6 T2) := Lib.hid (HA6.out.clear (Nat.le_refl _) (fun _ h => h.elim))
  clear HA6
  have HSM : Hid (Calls Try.prog 22 #[.slice A T.length c, .slice A7 T.length c7] wc fun e w' => e = .returned (.bool true) ∧ Below wc.heap.size wc w') := Lib.hid (same_yes A A7 c c7 0 w.heap.size 0 wc.heap.size T wc (by omega) (HTX.out.on HB_5.out (Nat.le_refl _)) S7_5.out.has)
  obtain ⟨x0, x1, _, _⟩ := T_5.out
  obtain ⟨d0, d1, _, _⟩ := C3_5.out
  obtain ⟨y0, y1, _, _⟩ := HY6.out
  go_wp2_with fail
  refine HSM.out.mono ?_
  rintro e w7 ⟨rfl, hb⟩
  clear x0 x1 d0 d1 y0 y1 HSM
  clear S7_5 HY6
  have HB_6 : Hid (Below w.heap.size w w7) := Lib.hid (HB_5.out.trans (hb.mono HB_5.out.size))
  have T_6 := Lib.hid (T_5.out.on hb)
  have D_6 := Lib.hid (D_5.out.on hb)
  have S3_6 := Lib.hid (S3_5.out.on hb)
  have X3_6 := Lib.hid (X3_5.out.on hb)
  have C3_6 := Lib.hid (C3_5.out.on hb)
  have X6_6 := Lib.hid (HX6'.out.on hb)
  have S6_6 := Lib.hid (S6.out.on hb)
  clear HB_5 T_5 D_5 S3_5 X3_5 C3_5 HX6' S6 hb
  by_cases he : e2 = 0
  rotate_left
  · obtain ⟨hT1, hp1, ha2⟩ := HKK.out.1 he
    subst hT1 hp1 ha2
    have he1 : (e2 == 0) = false := by rw [beq_eq_false_iff_ne]; exact he
    have he2 : (e2 != 0) = true := by simp [bne, he1]
    obtain ⟨x0, x1, _, _⟩ := T_6.out
    obtain ⟨t0, t1, _, _⟩ := X3_6.out
    obtain ⟨d0, d1, _, _⟩ := D_6.out
    obtain ⟨y0, y1, _, _⟩ := C3_6.out
    have HRS : Hid (Calls Try.prog 13 #[.agg #[.slice A3 T1.length c3, .int .i64 (P : Nat)], .agg #[.slice A T1.length c, .int .i64 (P : Nat)]] w7 fun e w' => e = .returned (.bool true) ∧ Below w7.heap.size w7 w') := Lib.hid (rsame_t A3 A c3 c 0 w7.heap.size 0 w.heap.size T1 T1 P P w7 (by omega) S3_6.out.has (HTX.out.on HB_6.out (Nat.le_refl _)) (Nat.le_refl _) HB_6.out.size true (by simp))
    go_wp2_with fail
    refine HRS.out.mono ?_
    rintro e w8 ⟨rfl, hb⟩
    clear x0 x1 t0 t1 d0 d1 y0 y1 HRS
    have HB_7 : Hid (Below w.heap.size w w8) := Lib.hid (HB_6.out.trans (hb.mono HB_6.out.size))
    have T_7 := Lib.hid (T_6.out.on hb)
    have D_7 := Lib.hid (D_6.out.on hb)
    have S3_7 := Lib.hid (S3_6.out.on hb)
    have X3_7 := Lib.hid (X3_6.out.on hb)
    have C3_7 := Lib.hid (C3_6.out.on hb)
    have X6_7 := Lib.hid (X6_6.out.on hb)
    have S6_7 := Lib.hid (S6_6.out.on hb)
    clear HB_6 T_6 D_6 S3_6 X3_6 C3_6 X6_6 S6_6 hb
    obtain ⟨d0, d1, _, _⟩ := D_7.out
    obtain ⟨y0, y1, _, _⟩ := C3_7.out
    go_wp2_with fail
    refine (awake_any _).mono ?_
    rintro e wE ⟨rfl, hbE⟩
    have HE : Hid (Below w.heap.size w wE) := Lib.hid (HB_7.out.trans (hbE.mono HB_7.out.size))
    clear hbE
    go_wp2_with fail
    go_ret
    exact ⟨rfl, HE.out⟩
  subst he
  obtain ⟨hk1, hk2, hk3, hk4⟩ := HKK.out.2 rfl
  obtain ⟨hm1, _, _, _⟩ := HKK2.out.2 rfl
  obtain ⟨q, hq⟩ := Int.eq_ofNat_of_zero_le (show (0 : Int) ≤ p1 - 1 by omega)
  have hl1 := nums_len T1 ((okT_iff T1 p1).1 hk1).1
  have hl2 := nums_len T2 ((okT_iff T2 p2).1 hm1).1
  have HCX : Hid (Calls Try.prog 14 #[.agg #[.slice A3 T1.length c3, .int .i64 p1]] w7 fun e w' => e = .returned (.int .i64 (okE true)) ∧ Below w7.heap.size w7 w') := Lib.hid (check_t A3 c3 0 w7.heap.size T1 p1 w7 (by omega) S3_6.out.has (Nat.le_refl _) true hk1)
  have HCY := Lib.hid (fun (W : World) (h : Has W 0 W.heap.size A6 T2) => check_t A6 c6 0 W.heap.size T2 p2 W (by omega) h (Nat.le_refl _) true hm1)
  have g1 : decide ((1 : Int) ≤ p1) = true := decide_eq_true hk2
  have g2 : decide (p1 ≤ (T1.length : Int)) = true := decide_eq_true hk3
  have hqn : q < T1.length := by omega
  have hgq : T1.getD q 0 = n2 := by rw [← hk4, hq]; rfl
  have wr1 : IntKind.i64.wrap (p1 - 1) = (q : Int) := by rw [hq]; exact wrap_nat q (by omega)
  have q0 : (0 : Int) ≤ (q : Int) := by omega
  have q1 : (q : Int) < (T1.length : Int) := by omega
  have HG1 := Lib.hid hgq
  clear hk4 hq hgq hk1 hm1
  obtain ⟨t0, t1, _, _⟩ := X3_6.out
  go_wp2_with fail
  refine HCX.out.mono ?_
  rintro e w8 ⟨rfl, hb⟩
  clear t0 t1 HCX
  have HB_7 : Hid (Below w.heap.size w w8) := Lib.hid (HB_6.out.trans (hb.mono HB_6.out.size))
  have T_7 := Lib.hid (T_6.out.on hb)
  have D_7 := Lib.hid (D_6.out.on hb)
  have S3_7 := Lib.hid (S3_6.out.on hb)
  have X3_7 := Lib.hid (X3_6.out.on hb)
  have C3_7 := Lib.hid (C3_6.out.on hb)
  have X6_7 := Lib.hid (X6_6.out.on hb)
  have S6_7 := Lib.hid (S6_6.out.on hb)
  clear HB_6 T_6 D_6 S3_6 X3_6 C3_6 X6_6 S6_6 hb
  obtain ⟨t0, t1, _, _⟩ := X6_7.out
  go_wp2_with fail
  refine (HCY.out _ S6_7.out.has).mono ?_
  rintro e w9 ⟨rfl, hb⟩
  clear t0 t1 HCY
  have HB_8 : Hid (Below w.heap.size w w9) := Lib.hid (HB_7.out.trans (hb.mono HB_7.out.size))
  have T_8 := Lib.hid (T_7.out.on hb)
  have D_8 := Lib.hid (D_7.out.on hb)
  have S3_8 := Lib.hid (S3_7.out.on hb)
  have X3_8 := Lib.hid (X3_7.out.on hb)
  have C3_8 := Lib.hid (C3_7.out.on hb)
  have X6_8 := Lib.hid (X6_7.out.on hb)
  have S6_8 := Lib.hid (S6_7.out.on hb)
  clear HB_7 T_7 D_7 S3_7 X3_7 C3_7 X6_7 S6_7 hb
  obtain ⟨ad, rfl, _, _, hcq⟩ := S3_8.out.has q hqn
  rw [HG1.out] at hcq
  obtain ⟨t0, t1, _, _⟩ := X3_8.out
  go_wp2_with fail
  refine (awake_any _).mono ?_
  rintro e wE ⟨rfl, hbE⟩
  have HE : Hid (Below w.heap.size w wE) := Lib.hid (HB_8.out.trans (hbE.mono HB_8.out.size))
  clear hbE
  go_wp2_with fail
  go_ret
  exact ⟨rfl, HE.out⟩

/-! ### the statement -/
theorem parOk : ∀ t ∈ (#[24, 26, 22] : Array TypeId).toList, Try.prog.readableRec t = true ∧ t < Try.prog.types.size := by
  have hall : ([24, 26, 22].all fun t => Try.prog.readableRec t && decide (t < Try.prog.types.size)) = true := by kernel_rfl
  intro t ht
  simpa using List.all_eq_true.1 hall t ht

set_option maxRecDepth 100000 in
/-- What the walk gives, for every argument. -/
theorem contract (H : Type) (enc : TypeId × Value → H) (W : World) (base : Nat) (args : Array Value) (ds gs : List (DataW H)) (before : List MemPlace)
    (hval : ∀ (j : Nat) t v, Try.f7.params[j]? = some t → args[j]? = some v → Value.okWide Try.prog W .any base t v)
    (hW : DataW.Whole enc Try.prog Try.f7.params.toList Rows.turnStaysSpec.vars false W args.toList ds gs before) :
    Calls Try.prog 7 args W fun e W' => ∃ v, e = .returned v ∧ Rows.turnStaysSpec.post enc Try.prog Try.f7 false true false false W args v W' := by
  have hW' := hW
  obtain ⟨p, q, hA0, hV, rfl, hfz, hnd⟩ := hW
  have hA : DataW.TrodAll enc Try.prog W 0 (fun _ => true) true Try.f7.params.toList args.toList ds p := hA0
  rw [Try.params7] at hA hval
  obtain ⟨v0, vs0, d0, ds0, p0, q0, hargs, rfl, rfl, h0, r0⟩ := trodAll_cons hA
  obtain ⟨v1, vs1, d1, ds1, p1, q1, rfl, rfl, rfl, h1, r1⟩ := trodAll_cons r0
  obtain ⟨v2, vs2, d2, ds2, p2, q2, rfl, rfl, rfl, h2, r2⟩ := trodAll_cons r1
  obtain ⟨rfl, rfl, rfl⟩ := trodAll_nil r2
  obtain rfl : args = #[v0, v1, v2] := by cases args; simp_all
  obtain ⟨rfl, rfl⟩ := trodVars_none hV
  obtain ⟨A, c, T, p, rfl, htc, hcm, hT⟩ := open_turn (hval 0 24 v0 rfl rfl) h0
  obtain ⟨s, a, rfl, hs, _, _⟩ := open_dice (hval 1 26 v1 rfl rfl) h1
  obtain ⟨A', c', l, rfl, hlc, hcm', hl⟩ := open_nums (hval 2 22 v2 rfl rfl) h2
  clear hA0
  refine (walk A c T p s a A' c' l W htc hcm hT hs hlc hcm' hl).mono fun e W' ⟨he, hb⟩ => ?_
  subst he
  exact ⟨_, rfl, law_post rfl (by rw [Try.params7]; exact parOk) rfl hW' rfl rfl rfl hb⟩

set_option maxRecDepth 100000 in
theorem lifted (os : Os) (started : os.Started) (H : Type) (enc : TypeId × Value → H) :
    ReturnsInHanded {} Try.checked os 7 .any (Rows.turnStaysSpec.pre6 enc Try.prog Try.f7 Rows.turnStaysRow.domain false) (Rows.turnStaysSpec.post enc Try.prog Try.f7 false true false false) := by
  refine returnsInHanded_of_change (C := Try.checked) own started (by kernel_rfl) Try.func7
    (ChangeSpec.witness6 (enc := enc) (C := Try.checked) false ⟨#[], #[.agg #[.slice none 0 0, .int .i64 0], .agg #[.string ⟨#[]⟩, .int .i64 0], .slice none 0 0], []⟩ 8 (by kernel_rfl) (by kernel_rfl) (by kernel_rfl) (by kernel_rfl)) ?_
  intro W base args ds gs before hval hW _ _
  exact contract H enc W base args ds gs before hval hW

/-- THE STATEMENT. -/
theorem said : Rows.TurnStaysSaid :=
  OpenClaim.holds_of_wide 7 Try.f7 rfl rfl rfl rfl rfl rfl rfl ⟨rfl, rfl, rfl, rfl, rfl⟩ rfl rfl rfl rfl rfl (by kernel_rfl) Try.func7 (by kernel_rfl)
    (of_decide_eq_true (by kernel_rfl)) (by unfold Func.isWrapper; first | (rw [if_pos (by decide +kernel)]; kernel_rfl) | (rw [if_neg (by decide +kernel)]; exact ⟨rfl, rfl⟩))
    (fun os started H enc _ => lifted os started H enc)
end Go.Proofs.Ytphcmjhphoacgaa.lawStays
