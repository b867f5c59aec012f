/-
  The walk of the document's Next.
-/
import Derived.Test.YtphcmjhphoacgaaNext
import Derived.Test.YtphcmjhphoacgaaRshuf
namespace Go.Proofs.Ytphcmjhphoacgaa
open Go.Sort Go.RowKit Go.Proofs.Ytphcmjhphoacgaa.Pure

theorem rdmay (s : ByteArray) (a : Int) (w : World) : Calls Try.prog 20 #[.agg #[.string s, .int .i64 a]] w fun e w' => e = .returned (.bool (okD s a)) ∧ Below w.heap.size w w' := by
  by_cases h : 0 ≤ a ∧ a ≤ (s.size : Int)
  · obtain ⟨b, rfl⟩ := Int.eq_ofNat_of_zero_le h.1
    have e : okD s b = true := by simp [okD]; omega
    rw [e]
    exact may_yes s b w (by omega)
  · have e : okD s a = false := by simp [okD]; omega
    rw [e]
    exact may_no s a w (by omega)

def RnPost (w : World) (s : ByteArray) (R : Ans) (e : Ending) (w' : World) : Prop := ∃ A2 c2, e = .returned (nxV A2 c2 s R) ∧ Has w' 0 w'.heap.size A2 R.T ∧ Below w.heap.size w w'
theorem rn_post {w w' : World} {s : ByteArray} {R : Ans} (A2 : Option Addr) (c2 : Nat) (h : Has w' 0 w'.heap.size A2 R.T) (hb : Below w.heap.size w w') : RnPost w s R (.returned (nxV A2 c2 s R)) w' := ⟨A2, c2, rfl, h, hb⟩
theorem fin_old {W lo hi : Nat} {w : World} {A : Option Addr} {T : List Int} (h : Has w lo hi A T) (hh : hi ≤ W) (hw : W ≤ w.heap.size) (v0 v1 v2 v3 : Value) :
    Has ((((w.setCell ⟨W + 1 + 1, 0, none⟩ v0).setCell ⟨W + 1 + 1, 1, none⟩ v1).setCell ⟨W + 1 + 1 + 1, 0, none⟩ v2).setCell ⟨W + 1 + 1 + 1, 1, none⟩ v3).drew 0
      ((((w.setCell ⟨W + 1 + 1, 0, none⟩ v0).setCell ⟨W + 1 + 1, 1, none⟩ v1).setCell ⟨W + 1 + 1 + 1, 0, none⟩ v2).setCell ⟨W + 1 + 1 + 1, 1, none⟩ v3).drew.heap.size A T := by
  have l1 : hi ≤ W + 1 + 1 := by omega
  have l2 : hi ≤ W + 1 + 1 + 1 := by omega
  exact (((((h.set (p := ⟨W + 1 + 1, 0, none⟩) (.inr l1) v0).set (p := ⟨W + 1 + 1, 1, none⟩) (.inr l1) v1).set (p := ⟨W + 1 + 1 + 1, 0, none⟩) (.inr l2) v2).set (p := ⟨W + 1 + 1 + 1, 1, none⟩) (.inr l2) v3).drew).wide (Nat.zero_le _) (by simp [World.setCell, World.drew]; omega)
theorem many_contains (l : List Int) (y : Int) : decide (0 < many l y) = l.contains y := by
  rw [many_count, Bool.eq_iff_iff, decide_eq_true_iff, List.count_pos_iff]
  simp

set_option maxRecDepth 100000 in
set_option maxHeartbeats 4000000 in
theorem rnext_any (s : ByteArray) (a : Int) (A A' : Option Addr) (c c' lo hi lo' hi' : Nat) (T l : List Int) (p : Int) (w : World) (hs : s.size ≤ 1000) (hT : T.length ≤ 1000) (hl : l.length ≤ 256)
    (h : Has w lo hi A T) (hh : hi ≤ w.heap.size) (h' : Has w lo' hi' A' l) (hh' : hi' ≤ w.heap.size) (R : Ans) (hR : ans s.data.toList a T p l = R) :
    Calls Try.prog 12 #[.agg #[.slice A T.length c, .int .i64 p], .agg #[.string s, .int .i64 a], .slice A' l.length c'] w fun e w' => RnPost w s R e w' := by
  have H := Lib.hid h
  have H' := Lib.hid h'
  have HR := Lib.hid hR
  obtain ⟨L1, hL1⟩ : ∃ L, okT T p = L := ⟨_, rfl⟩
  obtain ⟨L2, hL2⟩ : ∃ L, nodesB l = L := ⟨_, rfl⟩
  obtain ⟨L3, hL3⟩ : ∃ L, okD s a = L := ⟨_, rfl⟩
  have HK1 := Lib.hid (fun (W : World) (h : Has W lo hi A T) (hh : hi ≤ W.heap.size) => may_t A c lo hi T p W (by omega) h hh L1 hL1)
  have HK2 := Lib.hid (fun (W : World) (h : Has W lo' hi' A' l) => rnodes_t A' c' lo' hi' l W (by omega) h L2 hL2)
  have HK3 := Lib.hid (fun (W : World) => hL3 ▸ rdmay s a W)
  have H1 := Lib.hid hL1
  have H2 := Lib.hid hL2
  have H3 := Lib.hid hL3
  clear h h' hR hL1 hL2 hL3
  go_enter Try.func12, Try.ntmps12
  go_upto_region 1 with (fail)
  have HB : Hid (Below w.heap.size w ((((w.alloc (.cells #[.slice A T.length c, .int .i64 p] 24)).alloc (.cells #[.string s, .int .i64 a] 26)).alloc (.cells #[.slice none 0 0, .int .i64 0] 24)).alloc (.cells #[.string ⟨#[]⟩, .int .i64 0] 26))) :=
    Lib.hid (((((Below.refl _ _).alloc (Nat.le_refl _) _).alloc (by simp) _).alloc (by simp; omega) _).alloc (by simp; omega) _)
  have HX : Hid (Tb ((((w.alloc (.cells #[.slice A T.length c, .int .i64 p] 24)).alloc (.cells #[.string s, .int .i64 a] 26)).alloc (.cells #[.slice none 0 0, .int .i64 0] 24)).alloc (.cells #[.string ⟨#[]⟩, .int .i64 0] 26)) w.heap.size (.slice A T.length c) p) :=
    Lib.hid ((((Tb.new w _ _ _).alloc _).alloc _).alloc _)
  have HY : Hid (Box ((((w.alloc (.cells #[.slice A T.length c, .int .i64 p] 24)).alloc (.cells #[.string s, .int .i64 a] 26)).alloc (.cells #[.slice none 0 0, .int .i64 0] 24)).alloc (.cells #[.string ⟨#[]⟩, .int .i64 0] 26)) (w.heap.size + 1) s a) :=
    Lib.hid (by have := (((Box.new (w.alloc (.cells #[.slice A T.length c, .int .i64 p] 24)) s a 26).alloc (.cells #[.slice none 0 0, .int .i64 0] 24)).alloc (.cells #[.string ⟨#[]⟩, .int .i64 0] 26)); simpa using this)
  have HZ : Hid (Tb ((((w.alloc (.cells #[.slice A T.length c, .int .i64 p] 24)).alloc (.cells #[.string s, .int .i64 a] 26)).alloc (.cells #[.slice none 0 0, .int .i64 0] 24)).alloc (.cells #[.string ⟨#[]⟩, .int .i64 0] 26)) (w.heap.size + 2) (.slice none 0 0) 0) :=
    Lib.hid (by have := (Tb.new ((w.alloc (.cells #[.slice A T.length c, .int .i64 p] 24)).alloc (.cells #[.string s, .int .i64 a] 26)) (.slice none 0 0) 0 24).alloc (.cells #[.string ⟨#[]⟩, .int .i64 0] 26); simpa using this)
  have HV : Hid (Box ((((w.alloc (.cells #[.slice A T.length c, .int .i64 p] 24)).alloc (.cells #[.string s, .int .i64 a] 26)).alloc (.cells #[.slice none 0 0, .int .i64 0] 24)).alloc (.cells #[.string ⟨#[]⟩, .int .i64 0] 26)) (w.heap.size + 3) ⟨#[]⟩ 0) :=
    Lib.hid (by have := Box.new (((w.alloc (.cells #[.slice A T.length c, .int .i64 p] 24)).alloc (.cells #[.string s, .int .i64 a] 26)).alloc (.cells #[.slice none 0 0, .int .i64 0] 24)) ⟨#[]⟩ 0 26; simpa using this)
  have hz4 : Hid (w.heap.size + 4 ≤ ((((w.alloc (.cells #[.slice A T.length c, .int .i64 p] 24)).alloc (.cells #[.string s, .int .i64 a] 26)).alloc (.cells #[.slice none 0 0, .int .i64 0] 24)).alloc (.cells #[.string ⟨#[]⟩, .int .i64 0] 26)).heap.size) := Lib.hid (by simp)
  generalize (((w.alloc (.cells #[.slice A T.length c, .int .i64 p] 24)).alloc (.cells #[.string s, .int .i64 a] 26)).alloc (.cells #[.slice none 0 0, .int .i64 0] 24)).alloc (.cells #[.string ⟨#[]⟩, .int .i64 0] 26) = w1 at *
  have HE : Hid ((L1 && (L2 && L3)) = true → okT T p = true ∧ nodesB l = true ∧ 0 ≤ a ∧ a ≤ (s.size : Int)) := Lib.hid (fun h => by
    simp only [Bool.and_eq_true] at h
    have h3 := H3.out.trans h.2.2
    simp only [okD, Bool.and_eq_true, decide_eq_true_iff] at h3
    exact ⟨H1.out.trans h.1, H2.out.trans h.2.1, h3.1, h3.2⟩)
  have HEF : Hid ((L1 && (L2 && L3)) = false → okT T p = false ∨ nodesB l = false ∨ a < 0 ∨ (s.data.toList.length : Int) < a) := Lib.hid (fun h => by
    rcases hq1 : L1 with _ | _
    · exact .inl (H1.out.trans hq1)
    rcases hq2 : L2 with _ | _
    · exact .inr (.inl (H2.out.trans hq2))
    rw [hq1, hq2] at h
    have h3 : okD s a = false := H3.out.trans (by simpa using h)
    simp only [okD, Bool.and_eq_false_iff, decide_eq_false_iff_not] at h3
    have e : s.data.toList.length = s.size := by simp
    rw [e]
    omega)
  clear H1 H2 H3
  go_cut [26] (fun sx wx => sx = .bool (!(L1 && (L2 && L3))) ∧ Hid (Below w1.heap.size w1 wx))
  case first =>
    have HX0 := HX
    obtain ⟨x0, x1, _, _⟩ := HX.out
    obtain ⟨y0, y1, _, _⟩ := HY.out
    go_wp2_with fail
    refine (HK1.out _ (H.out.on HB.out hh) (Nat.le_trans hh HB.out.size)).mono ?_
    rintro e w5 ⟨rfl, hb5⟩
    have HC5 : Hid (Below w1.heap.size w1 w5) := Lib.hid hb5
    clear hb5 x0 x1 y0 y1
    rcases L1 with _ | _
    · go_wp2_with fail
      go_meet
      exact ⟨rfl, HC5⟩
    · go_wp2_with fail
      refine (HK2.out _ ((H'.out.on HB.out hh').on HC5.out (Nat.le_trans hh' HB.out.size))).mono ?_
      rintro e w6 ⟨rfl, hb6⟩
      have HC6 : Hid (Below w1.heap.size w1 w6) := Lib.hid (HC5.out.trans (hb6.mono HC5.out.size))
      clear hb6
      rcases L2 with _ | _
      · go_wp2_with fail
        go_meet
        exact ⟨rfl, HC6⟩
      · obtain ⟨y0, y1, _, _⟩ := HY.out.on HC6.out
        go_wp2_with fail
        refine (HK3.out _).mono ?_
        rintro e w7 ⟨rfl, hb7⟩
        have HC7 : Hid (Below w1.heap.size w1 w7) := Lib.hid (HC6.out.trans (hb7.mono HC6.out.size))
        clear hb7 y0 y1
        go_wp2_with fail
        go_meet
        exact ⟨by cases L3 <;> rfl, HC7⟩
  case rest =>
  obtain ⟨rfl, HC⟩ := hcut
  generalize (L1 && (L2 && L3)) = E at *
  have HB2 : Hid (Below w.heap.size w wc) := Lib.hid (HB.out.trans (HC.out.mono (by have := hz4.out; omega)))
  have HX2 := Lib.hid (HX.out.on HC.out)
  have HY2 := Lib.hid (HY.out.on HC.out)
  have HZ2 := Lib.hid (HZ.out.on HC.out)
  have HV2 := Lib.hid (HV.out.on HC.out)
  have hg4 : Hid (w.heap.size + 4 ≤ wc.heap.size) := Lib.hid (by have := hz4.out; have := HC.out.size; omega)
  clear HC HB HX HY HZ HV HK1 HK2 HK3 hz4
  rcases E with _ | _
  · obtain rfl : R = ⟨0, T, p, a, 1⟩ := by rw [← HR.out]; exact ans_bad _ _ _ _ _ (HEF.out rfl)
    clear HE HEF HR
    obtain ⟨x0, x1, _, _⟩ := HX2.out
    obtain ⟨y0, y1, _, _⟩ := HY2.out
    obtain ⟨u0, u1, uf0, uf1⟩ := HZ2.out
    obtain ⟨v0, v1, vf0, vf1⟩ := HV2.out
    go_wp2_with fail
    go_region
    go_wp2_with fail
    refine bodyPost_ret (v := .tuple #[.int .i64 0, .agg #[.slice A T.length c, .int .i64 p], .agg #[.string s, .int .i64 a], .int .i64 1]) (by simp [results, Try.results12, go_sem, u0, u1, v0, v1]) rfl (rn_post (R := ⟨0, T, p, a, 1⟩) A c (fin_old (H.out.on HB2.out hh) hh HB2.out.size _ _ _ _) (fin_below HB2.out _ _ _ _))
  · obtain ⟨ho, hn, ha0, ha1⟩ := HE.out rfl
    clear HE HEF
    by_cases hln : l = []
    · subst hln
      obtain rfl : R = ⟨0, T, p, a, 6⟩ := by rw [← HR.out]; exact ans_nil _ _ _ _ ho ha0 (by simpa using ha1)
      clear HR ho hn
      obtain ⟨x0, x1, _, _⟩ := HX2.out
      obtain ⟨y0, y1, _, _⟩ := HY2.out
      obtain ⟨u0, u1, uf0, uf1⟩ := HZ2.out
      obtain ⟨v0, v1, vf0, vf1⟩ := HV2.out
      go_wp2_with fail
      go_region
      go_wp2_with fail
      refine bodyPost_ret (v := .tuple #[.int .i64 0, .agg #[.slice A T.length c, .int .i64 p], .agg #[.string s, .int .i64 a], .int .i64 6]) (by simp [results, Try.results12, go_sem, u0, u1, v0, v1]) rfl (rn_post (R := ⟨0, T, p, a, 6⟩) A c (fin_old (H.out.on HB2.out hh) hh HB2.out.size _ _ _ _) (fin_below HB2.out _ _ _ _))
    · obtain ⟨P, rfl⟩ := Int.eq_ofNat_of_zero_le (show 0 ≤ p from ((okT_iff T p).1 ho).2.1)
      obtain ⟨b, rfl⟩ := Int.eq_ofNat_of_zero_le ha0
      have hP : P ≤ T.length := by have := ((okT_iff T P).1 ho).2.2; omega
      have hb' : b ≤ s.size := by omega
      have HRN : Hid (R = ⟨(nx s.data.toList l T P b).1, (nx s.data.toList l T P b).2.1, (nx s.data.toList l T P b).2.2.1, (nx s.data.toList l T P b).2.2.2, 0⟩) := Lib.hid (by rw [← HR.out]; exact ans_ok _ _ _ _ _ ho hn (by simpa using hb') hln)
      have hl0 : 0 < l.length := List.length_pos_iff.2 hln
      have hl0' : (0 : Int) < (l.length : Int) := by omega
      have e0 : ((l.length : Int) == 0) = false := by simp; omega
      have HMY := Lib.hid (fun (W : World) (y : Int) (h : Has W lo' hi' A' l) => many_any A' c' lo' hi' l y W (by omega) h)
      have HML := Lib.hid (fun (y : Int) => many_le l y)
      have HSH := Lib.hid (fun (W : World) (h : Has W lo' hi' A' l) (hh : hi' ≤ W.heap.size) => rshuffle_yes s b c' lo' hi' A' l W hs hb' hl h hh)
      clear HR ho hn ha0 ha1 hln
      obtain ⟨x0, x1, _, _⟩ := HX2.out
      obtain ⟨y0, y1, _, _⟩ := HY2.out
      obtain ⟨u0, u1, uf0, uf1⟩ := HZ2.out
      obtain ⟨v0, v1, vf0, vf1⟩ := HV2.out
      have HTX : Hid (Has wc lo hi A T) := Lib.hid (H.out.on HB2.out hh)
      have HLX : Hid (Has wc lo' hi' A' l) := Lib.hid (H'.out.on HB2.out hh')
      go_wp2_with fail
      go_loop [10] (fun i => ∃ k : Nat, i = .int .i64 k ∧ P ≤ k ∧ k ≤ T.length ∧ Hid (∀ j, P ≤ j → j < k → l.contains (T.getD j 0) = false)) (fun i => T.length - (intOf i).toNat)
      case atStart => exact ⟨P, rfl, Nat.le_refl _, hP, Lib.hid (fun j h1 h2 => by omega)⟩
      case round =>
        obtain ⟨k, rfl, hPk, hk, hno⟩ := hrel
        by_cases hlt : k < T.length
        · obtain ⟨ad, rfl, _, _, hc⟩ := HTX.out k hlt
          have k0 : (0 : Int) ≤ (k : Int) := by omega
          have k1 : (k : Int) < (T.length : Int) := by omega
          have HFO : Hid (l.contains (T.getD k 0) = true → R = ⟨T.getD k 0, T, (k : Int) + 1, b, 0⟩) := Lib.hid (fun h => by
            rw [HRN.out, nx_found s.data.toList l T P b k hPk hlt h hno.out]
            simp)
          have HNX : Hid (l.contains (T.getD k 0) = false → ∀ j, P ≤ j → j < k + 1 → l.contains (T.getD j 0) = false) := Lib.hid (fun h j h1 h2 => by
            rcases Nat.lt_or_ge j k with hj | hj
            · exact hno.out j h1 hj
            · obtain rfl : j = k := by omega
              exact h)
          have HMC := Lib.hid (many_contains l (T.getD k 0))
          have hml := HML.out (T.getD k 0)
          have HMK := Lib.hid (HMY.out wc (T.getD k 0) HLX.out)
          generalize many l (T.getD k 0) = q at *
          generalize T.getD k 0 = y at *
          go_wp2_with fail
          refine HMK.out.mono ?_
          rintro e w' ⟨rfl, rfl⟩
          rcases hm : l.contains y with _ | _
          · have HNX' := Lib.hid (HNX.out hm)
            have hq : q = 0 := by have := HMC.out; rw [hm] at this; simpa using this
            subst hq
            clear HFO HNX hm HMC HMK
            go_wp2_with fail
            go_round
            case rel =>
              refine ⟨trivial, ?_⟩
              repeat apply Exists.intro
              exact ⟨⟨k + 1, by go_num, by omega, by omega, HNX'⟩, rfl⟩
            case measure => simp [intOf]; omega
          · obtain rfl := HFO.out hm
            have hq0 : 0 < q := by have := HMC.out; rw [hm] at this; simpa using this
            have hq : decide ((0 : Int) < (q : Int)) = true := by simp; omega
            have hq' : decide (0 < q) = true := by simp; omega
            clear HFO HNX hm HRN HMC HMK
            go_wp2_with fail
            go_region
            go_wp2_with fail
            refine bodyPost_ret (v := .tuple #[.int .i64 y, .agg #[.slice (some ad) T.length c, .int .i64 ((k : Int) + 1)], .agg #[.string s, .int .i64 b], .int .i64 0]) (by simp [results, Try.results12, go_sem, u0, u1, v0, v1]) rfl (rn_post (R := ⟨y, T, (k : Int) + 1, b, 0⟩) (some ad) c (fin_old (H.out.on HB2.out hh) hh HB2.out.size _ _ _ _) (fin_below HB2.out _ _ _ _))
        · obtain rfl : k = T.length := by omega
          have e1 : decide ((T.length : Int) < (T.length : Int)) = false := by simp
          have hRe : R = ⟨(shufAll s.data.toList b l).1.getD 0 0, (shufAll s.data.toList b l).1, 1, (shufAll s.data.toList b l).2, 0⟩ := by rw [HRN.out, nx_none s.data.toList l T P b hno.out]; rfl
          have hlen := shufAll_len s.data.toList b l
          clear hno HRN HMY HML
          generalize hsf : shufAll s.data.toList b l = sf at *
          obtain ⟨order, a2⟩ := sf
          clear hsf
          simp only at hRe hlen
          subst hRe
          go_wp2_with fail
          refine (HSH.out _ (H'.out.on HB2.out hh') (Nat.le_trans hh' HB2.out.size)).mono ?_
          rintro e w11 ⟨A3, c3, rfl, _, hh3, hb⟩
          have HO3 : Hid (Has w11 wc.heap.size w11.heap.size A3 order) := Lib.hid hh3
          clear hh3 x0 x1 y0 y1 u0 u1 uf0 uf1 v0 v1 vf0 vf1
          have hz11 : Hid (wc.heap.size ≤ w11.heap.size) := Lib.hid hb.size
          clear HX2
          have HB_1 : Hid (Below w.heap.size w w11) := Lib.hid (HB2.out.trans (hb.mono HB2.out.size))
          have Y_1 := Lib.hid (HY2.out.on hb)
          have Z_1 := Lib.hid (HZ2.out.on hb)
          have V_1 := Lib.hid (HV2.out.on hb)
          clear HB2 HY2 HZ2 HV2 hb
          have hbn : Below w11.heap.size w11 (w11.alloc (.cells #[.string s, .int .i64 (a2 : Nat)] 26)) := (Below.refl _ _).alloc (Nat.le_refl _) _
          have HD := Lib.hid (Box.new w11 s (a2 : Nat) 26)
          have HO4 : Hid (Has (w11.alloc (.cells #[.string s, .int .i64 (a2 : Nat)] 26)) wc.heap.size (w11.alloc (.cells #[.string s, .int .i64 (a2 : Nat)] 26)).heap.size A3 order) := Lib.hid ((HO3.out.alloc (.cells #[.string s, .int .i64 (a2 : Nat)] 26) (Nat.le_refl _)).wide (Nat.le_refl _) (by simp))
          have HB_2 : Hid (Below w.heap.size w (w11.alloc (.cells #[.string s, .int .i64 (a2 : Nat)] 26))) := Lib.hid (HB_1.out.trans (hbn.mono HB_1.out.size))
          have Y_2 := Lib.hid (Y_1.out.on hbn)
          have Z_2 := Lib.hid (Z_1.out.on hbn)
          have V_2 := Lib.hid (V_1.out.on hbn)
          clear HB_1 Y_1 Z_1 V_1 hbn
          have hgd : w.heap.size + 4 ≤ w11.heap.size := by have := hz11.out; have := hg4.out; omega
          have n1 : ¬ w11.heap.size = w.heap.size + 2 := by omega
          have n2 : ¬ w11.heap.size = w.heap.size + 3 := by omega
          go_upto_region 11 with (fail)
          generalize w11.alloc (.cells #[.string s, .int .i64 (a2 : Nat)] 26) = w12 at *
          generalize w11.heap.size = gd at *
          clear HO3 HSH
          obtain ⟨ad, rfl, hlo3, _, hc⟩ := HO4.out 0 (by omega)
          have hg4' := hg4.out
          have hc0 : w12.cell? ad = some (.int .i64 (order.getD 0 0)) := hc
          clear hc
          obtain ⟨y, hy⟩ : ∃ y, y = order.getD 0 0 := ⟨_, rfl⟩
          rw [← hy] at hc0
          have HYO := Lib.hid hy
          clear hy
          obtain ⟨y0, y1, _, _⟩ := HD.out
          obtain ⟨u0, u1, uf0, uf1⟩ := Z_2.out
          obtain ⟨v0, v1, vf0, vf1⟩ := V_2.out
          go_region
          go_wp2_with fail
          refine bodyPost_ret (v := .tuple #[.int .i64 y, .agg #[.slice (some ad) l.length c3, .int .i64 1], .agg #[.string s, .int .i64 (a2 : Nat)], .int .i64 0]) (by simp [results, Try.results12, go_sem, u0, u1, v0, v1]) rfl ?_
          have e : Value.tuple #[.int .i64 y, .agg #[.slice (some ad) l.length c3, .int .i64 1], .agg #[.string s, .int .i64 (a2 : Nat)], .int .i64 0] = nxV (some ad) c3 s ⟨y, order, 1, a2, 0⟩ := by simp only [nxV, hlen]
          rw [e, ← HYO.out]
          exact rn_post (R := ⟨y, order, 1, a2, 0⟩) (some ad) c3 ((fin_has HO4.out hg4' _ _ _ _).wide (Nat.zero_le _) (Nat.le_refl _)) (fin_below HB_2.out _ _ _ _)
end Go.Proofs.Ytphcmjhphoacgaa
