/-
  TurnShuffles: from a turn at its end the nodes are asked in the order in which they are shuffled by the dice: the law returns true for every input.
-/
import Derived.Test.YtphcmjhphoacgaaSt
namespace Go.Proofs.Ytphcmjhphoacgaa.lawShuffles
open Go.Sort Go.ChangeShapes Go.WideShapes Go.ChangeAt Go.RowKit Go.Proofs.Ytphcmjhphoacgaa.Pure

def bad (s : ByteArray) (a : Int) (l : List Int) : Bool := !(decide (l.length ≤ 12) && (nodesB l && okD s a))

set_option maxRecDepth 100000 in
set_option maxHeartbeats 4000000 in
theorem walk (s0 : ByteArray) (a : Int) (A : Option Addr) (c : Nat) (xs0 : List Int) (w : World) (hs0 : s0.size ≤ maxLen) (hxc : xs0.length ≤ c) (hcm : c ≤ maxLen) (hx0 : Has w 0 w.heap.size A xs0) :
    Calls Try.prog 8 #[.agg #[.string s0, .int .i64 a], .slice A xs0.length c] w fun e w' => e = .returned (.bool true) ∧ Below w.heap.size w w' := by
  have HF := Lib.hid (fun W => few_any s0 a W hs0)
  have HCut := Lib.hid (fun (W : World) (h : Has W 0 w.heap.size A xs0) => fewl_any A c 0 w.heap.size xs0 W hxc hcm h)
  have HX00 := Lib.hid hx0
  have HX0 : Hid (Has w 0 w.heap.size A (cutF xs0)) := Lib.hid (hx0.take 65)
  have hxl := cutF_len xs0
  have hft := fewB_size s0
  generalize fewB s0 = s at *
  generalize hX : cutF xs0 = l at *
  clear hx0 hX hxc
  go_enter Try.func8, Try.ntmps8
  go_wp2_with fail
  refine (HF.out _).mono ?_
  rintro e w1 ⟨rfl, hb1⟩
  go_wp2_with fail
  refine (HCut.out _ (HX00.out.on (((Below.refl _ _).alloc (Nat.le_refl _) _).trans (hb1.mono (by simp))) (Nat.le_refl _))).mono ?_
  rintro e w' ⟨rfl, rfl⟩
  have HD := Lib.hid (((Box.new w s0 a 26).on hb1).put s a)
  obtain ⟨x0, x1, xf0, xf1⟩ := (Box.new w s0 a 26).on hb1
  have hz1 : w.heap.size < w1.heap.size := by have := hb1.size; simp at this; omega
  have HB1 : Hid (Below w.heap.size w ((w1.setCell ⟨w.heap.size, 0, none⟩ (.string s)).setCell ⟨w.heap.size, 1, none⟩ (.int .i64 a))) :=
    Lib.hid (((((Below.refl _ _).alloc (Nat.le_refl _) _).trans (hb1.mono (by simp))).setCell (by simp) _).setCell (by simp) _)
  clear hb1 HCut HF HX00
  go_upto_region 2 with (fail)
  clear x0 x1 xf0 xf1 hz1
  generalize (w1.setCell ⟨w.heap.size, 0, none⟩ (.string s)).setCell ⟨w.heap.size, 1, none⟩ (.int .i64 a) = w2 at *
  obtain ⟨N, hN⟩ : ∃ N, nodesB l = N := ⟨_, rfl⟩
  obtain ⟨K, hK⟩ : ∃ K, okD s a = K := ⟨_, rfl⟩
  have HNS := Lib.hid (fun (W : World) (h : Has W 0 w.heap.size A l) (hh : w.heap.size ≤ W.heap.size) => nodes_t A c 0 w.heap.size l W (by omega) h hh N hN)
  have HKS := Lib.hid (fun (W : World) => rdmay_any s a W K hK)
  have hbad : Hid (bad s a l = !(decide (l.length ≤ 12) && (N && K))) := Lib.hid (by unfold bad; rw [hN, hK])
  clear hN hK
  go_cut [31] from 19 to 31 (fun sx wx => sx = .bool (bad s a l) ∧ Hid (Below w2.heap.size w2 wx))
  case first =>
    by_cases h12 : 12 < l.length
    · have d1 : decide ((12 : Int) < (l.length : Int)) = true := by simp; omega
      have d2 : decide (12 < l.length) = true := by simp; omega
      have d3 : decide (l.length ≤ 12) = false := by simp; omega
      go_wp2_with fail
      go_meet
      exact ⟨by rw [hbad.out, d3]; rfl, Lib.hid (Below.refl _ _)⟩
    · have d1 : decide ((12 : Int) < (l.length : Int)) = false := by simp; omega
      have d2 : decide (12 < l.length) = false := by simp; omega
      have d3 : decide (l.length ≤ 12) = true := by simp; omega
      go_wp2_with fail
      refine (HNS.out _ (HX0.out.on HB1.out (Nat.le_refl _)) HB1.out.size).mono ?_
      rintro e w3 ⟨rfl, hb3⟩
      have HC3 : Hid (Below w2.heap.size w2 w3) := Lib.hid hb3
      have HD3 := Lib.hid (HD.out.on hb3)
      clear hb3
      rcases N with _ | _
      · have z1 : okE false = 1 := rfl
        go_wp2_with fail
        go_meet
        exact ⟨by rw [hbad.out, d3]; rfl, HC3⟩
      · have z0 : okE true = 0 := rfl
        obtain ⟨y0, y1, _, _⟩ := HD3.out
        go_wp2_with fail
        refine (HKS.out _).mono ?_
        rintro e w4 ⟨rfl, hb4⟩
        have HC4 : Hid (Below w2.heap.size w2 w4) := Lib.hid (HC3.out.trans (hb4.mono HC3.out.size))
        clear hb4 y0 y1
        go_wp2_with fail
        go_meet
        exact ⟨by rw [hbad.out, d3]; cases K <;> rfl, HC4⟩
  case rest =>
  obtain ⟨rfl, HC⟩ := hcut
  have HCo := HC.out
  have HB_1 : Hid (Below w.heap.size w wc) := Lib.hid (HB1.out.trans (HCo.mono HB1.out.size))
  have D_1 := Lib.hid (HD.out.on HCo)
  clear HB1 HD HCo
  have HBD : Hid (bad s a l = false → l.length ≤ 12 ∧ nodesB l = true ∧ 0 ≤ a ∧ a ≤ (s.size : Int)) := Lib.hid (fun h => by
    simp only [bad, okD, Bool.not_eq_false', Bool.and_eq_true, decide_eq_true_iff] at h
    exact ⟨h.1, h.2.1, h.2.2.1, h.2.2.2⟩)
  generalize bad s a l = B at *
  clear hbad HNS HKS HC
  rcases B with _ | _
  rotate_left
  · go_wp2_with fail
    refine (awake_any _).mono ?_
    rintro e wE ⟨rfl, hbE⟩
    have HE : Hid (Below w.heap.size w wE) := Lib.hid (HB_1.out.trans (hbE.mono HB_1.out.size))
    clear hbE
    go_wp2_with fail
    go_ret
    exact ⟨rfl, HE.out⟩
  obtain ⟨h12, hn, ha0, ha1⟩ := HBD.out rfl
  obtain ⟨b, rfl⟩ := Int.eq_ofNat_of_zero_le ha0
  have hb' : b ≤ s.size := by omega
  have HSH := Lib.hid (fun (W : World) (h : Has W 0 w.heap.size A l) (hh : w.heap.size ≤ W.heap.size) => shuffle_yes s b c 0 w.heap.size A l W (by omega) hb' (by omega) h hh)
  have hlen := shufAll_len s.data.toList b l
  clear HBD
  obtain ⟨x0, x1, xf0, xf1⟩ := D_1.out
  go_wp2_with fail
  refine (HSH.out _ (HX0.out.on HB_1.out (Nat.le_refl _)) HB_1.out.size).mono ?_
  rintro e w5 ⟨A2, c2, rfl, _, hh2, hb⟩
  clear x0 x1 xf0 xf1
  have HO : Hid (Clear w5 (fun _ => False) A2 (shufAll s.data.toList b l).1) := Lib.hid (hh2.clear (Nat.le_refl _) (fun _ h => h.elim))
  clear hh2
  have HB_2 : Hid (Below w.heap.size w w5) := Lib.hid (HB_1.out.trans (hb.mono HB_1.out.size))
  have D_2 := Lib.hid (D_1.out.on hb)
  clear HB_1 D_1 hb
  have hbn : Below w5.heap.size w5 (w5.alloc (.cells #[.string s, .int .i64 ((shufAll s.data.toList b l).2 : Nat)] 26)) := (Below.refl _ _).alloc (Nat.le_refl _) _
  have HQ := Lib.hid (Box.new w5 s ((shufAll s.data.toList b l).2 : Nat) 26)
  have HBK := HB_2
  have HB_3 : Hid (Below w.heap.size w (w5.alloc (.cells #[.string s, .int .i64 ((shufAll s.data.toList b l).2 : Nat)] 26))) := Lib.hid (HB_2.out.trans (hbn.mono HB_2.out.size))
  have D_3 := Lib.hid (D_2.out.on hbn)
  have O_3 := Lib.hid (HO.out.on hbn)
  clear HB_2 D_2 HO hbn
  have hgq : Hid (w.heap.size ≤ w5.heap.size ∧ w5.heap.size < (w5.alloc (.cells #[.string s, .int .i64 ((shufAll s.data.toList b l).2 : Nat)] 26)).heap.size) := Lib.hid ⟨HBK.out.size, by simp⟩
  go_upto_region 5 with (fail)
  generalize w5.alloc (.cells #[.string s, .int .i64 ((shufAll s.data.toList b l).2 : Nat)] 26) = w6 at *
  generalize w5.heap.size = gq at *
  clear HSH
  have e0 : ((l.length : Int) != (l.length : Int)) = false := by simp
  go_upto_region 7 with (fail)
  have hgd := D_3.out.lt
  go_cut [8, 9] (fun s8 s9 wx => ∃ gt gd, s8 = .pointer (some ⟨gt, 0, none⟩) ∧ s9 = .pointer (some ⟨gd, 0, none⟩) ∧ Hid (gt ≠ gd ∧ w6.heap.size ≤ gt ∧ w6.heap.size ≤ gd) ∧ Hid (Tb wx gt (.slice none 0 0) 0) ∧ Hid (Box wx gd s b) ∧ Hid (Below w6.heap.size w6 wx))
  case first =>
    obtain ⟨x0, x1, _, _⟩ := D_3.out
    go_region
    · go_wp2_with fail
      obtain ⟨h1, h2, h3⟩ := boxes_new w6 (.slice none 0 0) 0 s (b : Nat)
      go_meet
      exact ⟨w6.heap.size, w6.heap.size + 1, rfl, rfl, Lib.hid ⟨by omega, Nat.le_refl _, by omega⟩, Lib.hid h1.drew, Lib.hid h2.drew, Lib.hid h3.drew⟩
    · go_wp2_with fail
      obtain ⟨h1, h2, h3⟩ := boxes_wen w6 (.slice none 0 0) 0 s (b : Nat)
      go_meet
      exact ⟨w6.heap.size + 1, w6.heap.size, rfl, rfl, Lib.hid ⟨by omega, by omega, Nat.le_refl _⟩, Lib.hid h1.drew, Lib.hid h2.drew, Lib.hid h3.drew⟩
  case rest =>
  obtain ⟨gt, gd, rfl, rfl, HG, HT, HE, HC⟩ := hcut
  have HCo := HC.out
  have HO0 : Hid (Clear w6 (fun k => k = gt ∨ k = gd) A2 (shufAll s.data.toList b l).1) := Lib.hid (O_3.out.imp (fun k hk => .inr (by have := HG.out; omega)))
  clear D_3
  have hgq' : Hid (gq ≠ gt ∧ gq ≠ gd) := Lib.hid (by have := HG.out; have := hgq.out; omega)
  have hw6 : Hid (w.heap.size ≤ w6.heap.size) := Lib.hid (HB_3.out.size)
  have HB_4 : Hid (Below w.heap.size w wc) := Lib.hid (HB_3.out.trans (HCo.mono HB_3.out.size))
  have O_4 := Lib.hid (HO0.out.on HCo)
  have Q_4 := Lib.hid (HQ.out.on HCo)
  clear HB_3 HO0 HQ HCo
  have HV : Hid (Sv wc gt gd s (fun k => k = gq) ⟨[], 0, b⟩) := Lib.hid (Sv.start HT.out HE.out)
  have hG : Hid (gt ≠ gd ∧ w.heap.size ≤ gt ∧ w.heap.size ≤ gd ∧ w.heap.size ≤ gq) := Lib.hid (by have := HG.out; have := hw6.out; have := hgq.out; omega)
  clear HG HT HE HC hgq hw6 HBK
  have hqs : (s.toList == s.toList) = true := by simp
  by_cases hln : l = []
  · subst hln
    go_wp2_with fail
    go_loop [10] (fun i => i = .int .i64 0) (fun _ => 0)
    case atStart => rfl
    case round =>
      subst hrel
      go_wp2_with fail
      refine (awake_any _).mono ?_
      rintro e wE ⟨rfl, hbE⟩
      have HE : Hid (Below w.heap.size w wE) := Lib.hid (HB_4.out.trans (hbE.mono HB_4.out.size))
      clear hbE
      go_wp2_with fail
      go_ret
      exact ⟨rfl, HE.out⟩
  have hok : Hid (∀ k, OkS s.data.toList (run s.data.toList l k ⟨[], 0, b⟩)) := Lib.hid (fun k => run_ok ⟨nums_nil, Nat.le_refl _, by simpa using hb'⟩ (nodesB_nums hn) hln k)
  have HWH : Hid (∀ k, k < l.length → who s.data.toList l (run s.data.toList l k ⟨[], 0, b⟩) = (shufAll s.data.toList b l).1.getD k 0 ∧ run s.data.toList l (k + 1) ⟨[], 0, b⟩ = ⟨(shufAll s.data.toList b l).1, k + 1, (shufAll s.data.toList b l).2⟩) := Lib.hid (fun k hk => whole rfl k hk)
  have HLN := Lib.hid (fun (W : World) (st : Tn) (A3 : Option Addr) (c3 lo hi : Nat) (hst : OkS s.data.toList st) (h : Has W lo hi A3 st.T) (hh : hi ≤ W.heap.size) (h' : Has W 0 w.heap.size A l) (hh' : w.heap.size ≤ W.heap.size) => l_next s st A3 A c3 c lo hi 0 w.heap.size l W (by omega) hst hn hln h hh h' hh')
  generalize shufAll s.data.toList b l = sf at *
  obtain ⟨order, a2⟩ := sf
  simp only at hlen
  go_wp2_with fail
  go_loopw [10] (fun i wr => ∃ k : Nat, i = .int .i64 k ∧ k ≤ l.length ∧ Hid (Sv wr gt gd s (fun k => k = gq) (run s.data.toList l k ⟨[], 0, b⟩)) ∧ Hid (Box wr gq s (a2 : Nat)) ∧ Hid (Clear wr (fun k => k = gt ∨ k = gd) A2 order) ∧ Hid (Below w.heap.size w wr)) (fun i _ => l.length - (intOf i).toNat)
  case atStart => exact ⟨0, rfl, Nat.zero_le _, HV, Q_4, O_4, HB_4⟩
  case round =>
    clear HV Q_4 O_4 HB_4
    obtain ⟨k, rfl, hk, hv, hq, ho, hb⟩ := hrel
    by_cases hlt : k < l.length
    · obtain ⟨hwk, hrk⟩ := HWH.out k hlt
      have hst := hok.out k
      have HRK := Lib.hid hrk
      clear hrk
      obtain ⟨loO, hiO, hO1, _, hO3⟩ := ho.out
      obtain ⟨ado, rfl, _, _, hco⟩ := hO3 k (by omega)
      have HCO := Lib.hid hco
      have HCL : Hid (ado.block < wr.heap.size) := Lib.hid (by have := World.block_lt_of_cell? wr _ hco; rwa [block_add] at this)
      clear hO1 hO3 hco
      have HKN := Lib.hid (fun W A3 c3 lo hi => HLN.out W _ A3 c3 lo hi hst)
      rw [hwk] at HKN
      obtain ⟨st', hst'⟩ : ∃ st', st' = stp s.data.toList l (run s.data.toList l k ⟨[], 0, b⟩) := ⟨_, rfl⟩
      rw [← hst'] at HKN
      have HS' : Hid (st' = run s.data.toList l (k + 1) ⟨[], 0, b⟩) := Lib.hid hst'
      have HSA : Hid (st'.a = a2) := Lib.hid (by rw [HS'.out, HRK.out])
      clear hst' hwk hst HRK
      generalize run s.data.toList l k ⟨[], 0, b⟩ = st at *
      obtain ⟨y, hy⟩ : ∃ y, y = order.getD k 0 := ⟨_, rfl⟩
      rw [← hy] at HCO HKN
      clear hy
      have k0 : (0 : Int) ≤ (k : Int) := by omega
      have k1 : (k : Int) < (l.length : Int) := by omega
      obtain ⟨A3, c3, hT, hD, hC⟩ := hv.out
      obtain ⟨t0, t1, tf0, tf1⟩ := hT
      obtain ⟨y0, y1, yf0, yf1⟩ := hD
      obtain ⟨lo, hi, hC1, _, hC3⟩ := hC
      have hgt := hv.out.lt
      go_wp2_with fail
      refine (HKN.out wr A3 c3 lo hi hC3 hC1 (HX0.out.on hb.out (Nat.le_refl _)) hb.out.size).mono ?_
      rintro e w7 ⟨A4, c4, rfl, hh4, hb7⟩
      have HH4 : Hid (Clear w7 (fun k => k = gt ∨ k = gd ∨ k = gq) A4 st'.T) := Lib.hid (hh4.clear (Nat.le_refl _) (fun k hk => .inl (by have := hq.out.lt; omega)))
      have HCO7 := Lib.hid (cell_on HCO.out hb7)
      clear t0 t1 tf0 tf1 y0 y1 yf0 yf1 hC1 hC3 HKN hh4 HCO HCL
      have hz7 := Lib.hid hb7.size
      have HB_5 : Hid (Below w.heap.size w w7) := Lib.hid (hb.out.trans (hb7.mono hb.out.size))
      have V_5 := Lib.hid (hv.out.on hb7)
      have Q_5 := Lib.hid (hq.out.on hb7)
      have O_5 := Lib.hid (ho.out.on hb7)
      clear hb hv hq ho hb7
      obtain ⟨hT', hD', hbn⟩ := boxes_new w7 (.slice A4 st'.T.length c4) (st'.p : Nat) s (st'.a : Nat)
      have HT' := Lib.hid hT'
      have HD' := Lib.hid hD'
      have HH5 := Lib.hid (HH4.out.on hbn)
      have HCO8 := Lib.hid (cell_on HCO7.out hbn)
      clear hT' hD' HH4 HCO7
      have HB_6 : Hid (Below w.heap.size w ((w7.alloc (.cells #[.slice A4 st'.T.length c4, .int .i64 (st'.p : Nat)] 24)).alloc (.cells #[.string s, .int .i64 (st'.a : Nat)] 26))) := Lib.hid (HB_5.out.trans (hbn.mono HB_5.out.size))
      have V_6 := Lib.hid (V_5.out.on hbn)
      have Q_6 := Lib.hid (Q_5.out.on hbn)
      have O_6 := Lib.hid (O_5.out.on hbn)
      clear HB_5 V_5 Q_5 O_5 hbn
      go_upto_region 12 with (fail)
      generalize (w7.alloc (.cells #[.slice A4 st'.T.length c4, .int .i64 (st'.p : Nat)] 24)).alloc (.cells #[.string s, .int .i64 (st'.a : Nat)] 26) = w8 at *
      generalize w7.heap.size = g1 at *
      obtain ⟨z0, z1, _, _⟩ := Q_6.out
      obtain ⟨d0, d1, df0, df1⟩ := HD'.out
      have hco := HCO8.out
      have hqa : ((st'.a : Int) == (a2 : Int)) = true := by rw [HSA.out]; simp
      have hyy : (y != y) = false := by simp
      have hq2 : (st'.a == a2) = true := by rw [HSA.out]; simp
      go_upto_region 14 with (fail)
      clear z0 z1 hqa hq2 hyy hco
      obtain ⟨A5, c5, hT5, hD5, hC5⟩ := V_6.out
      have HT5 := Lib.hid hT5
      have HD5 := Lib.hid hD5
      obtain ⟨t0, t1, tf0, tf1⟩ := hT5
      obtain ⟨y0, y1, yf0, yf1⟩ := hD5
      obtain ⟨e0', e1', _, _⟩ := HT'.out
      clear hC5
      have hg := hG.out
      have hz := hz7.out
      have n1 : ¬ gt = g1 := by omega
      have n2 : ¬ gt = g1 + 1 := by omega
      have n3 : ¬ gd = g1 := by omega
      have n4 : ¬ gd = g1 + 1 := by omega
      have n5 : ¬ g1 = gt := by omega
      have n6 : ¬ g1 + 1 = gt := by omega
      have n7 : ¬ g1 = gd := by omega
      have n8 : ¬ g1 + 1 = gd := by omega
      have n9 : ¬ gt = gd := hg.1
      have n10 : ¬ gd = gt := fun e => hg.1 e.symm
      go_region
      go_wp2_with fail
      go_roundw
      case rel => exact ⟨k + 1, by go_num, by omega, Lib.hid (by rw [← HS'.out]; exact Sv.put HT5.out HD5.out hg.1 A4 c4 HH5.out), Lib.hid (Q_6.out.four hgq'.out.1 hgq'.out.2 _ _ _ _), Lib.hid (O_6.out.four (.inl rfl) (.inr rfl) _ _ _ _), Lib.hid (below_four HB_6.out hg.2.1 hg.2.2.1 _ _ _ _)⟩
      case measure => simp [intOf]; omega
    · obtain rfl : k = l.length := by omega
      have e1 : decide ((l.length : Int) < (l.length : Int)) = false := by simp
      go_wp2_with fail
      refine (awake_any _).mono ?_
      rintro e wE ⟨rfl, hbE⟩
      have HE : Hid (Below w.heap.size w wE) := Lib.hid (hb.out.trans (hbE.mono hb.out.size))
      clear hbE
      go_wp2_with fail
      go_ret
      exact ⟨rfl, HE.out⟩

/-! ### the statement -/
theorem parOk : ∀ t ∈ (#[26, 22] : Array TypeId).toList, Try.prog.readableRec t = true ∧ t < Try.prog.types.size := by
  have hall : ([26, 22].all fun t => Try.prog.readableRec t && decide (t < Try.prog.types.size)) = true := by kernel_rfl
  intro t ht
  simpa using List.all_eq_true.1 hall t ht

set_option maxRecDepth 100000 in
/-- What the walk gives, for every argument. -/
theorem contract (H : Type) (enc : TypeId × Value → H) (W : World) (base : Nat) (args : Array Value) (ds gs : List (DataW H)) (before : List MemPlace)
    (hval : ∀ (j : Nat) t v, Try.f8.params[j]? = some t → args[j]? = some v → Value.okWide Try.prog W .any base t v)
    (hW : DataW.Whole enc Try.prog Try.f8.params.toList Rows.turnShufflesSpec.vars false W args.toList ds gs before) :
    Calls Try.prog 8 args W fun e W' => ∃ v, e = .returned v ∧ Rows.turnShufflesSpec.post enc Try.prog Try.f8 false true false false W args v W' := by
  have hW' := hW
  obtain ⟨p, q, hA0, hV, rfl, hfz, hnd⟩ := hW
  have hA : DataW.TrodAll enc Try.prog W 0 (fun _ => true) true Try.f8.params.toList args.toList ds p := hA0
  rw [Try.params8] at hA hval
  obtain ⟨v0, vs0, d0, ds0, p0, q0, hargs, rfl, rfl, h0, r0⟩ := trodAll_cons hA
  obtain ⟨v1, vs1, d1, ds1, p1, q1, rfl, rfl, rfl, h1, r1⟩ := trodAll_cons r0
  obtain ⟨rfl, rfl, rfl⟩ := trodAll_nil r1
  obtain rfl : args = #[v0, v1] := by cases args; simp_all
  obtain ⟨rfl, rfl⟩ := trodVars_none hV
  obtain ⟨s, a, rfl, hs, _, _⟩ := open_dice (hval 0 26 v0 rfl rfl) h0
  obtain ⟨A, c, xs, rfl, hxc, hcm, hx⟩ := open_nums (hval 1 22 v1 rfl rfl) h1
  clear hA0
  refine (walk s a A c xs W hs hxc hcm hx).mono fun e W' ⟨he, hb⟩ => ?_
  subst he
  exact ⟨_, rfl, law_post rfl (by rw [Try.params8]; exact parOk) rfl hW' rfl rfl rfl hb⟩

set_option maxRecDepth 100000 in
theorem lifted (os : Os) (started : os.Started) (H : Type) (enc : TypeId × Value → H) :
    ReturnsInHanded {} Try.checked os 8 .any (Rows.turnShufflesSpec.pre6 enc Try.prog Try.f8 Rows.turnShufflesRow.domain false) (Rows.turnShufflesSpec.post enc Try.prog Try.f8 false true false false) := by
  refine returnsInHanded_of_change (C := Try.checked) own started (by kernel_rfl) Try.func8
    (ChangeSpec.witness6 (enc := enc) (C := Try.checked) false ⟨#[], #[.agg #[.string ⟨#[]⟩, .int .i64 0], .slice none 0 0], []⟩ 8 (by kernel_rfl) (by kernel_rfl) (by kernel_rfl) (by kernel_rfl)) ?_
  intro W base args ds gs before hval hW _ _
  exact contract H enc W base args ds gs before hval hW

/-- THE STATEMENT. -/
theorem said : Rows.TurnShufflesSaid :=
  OpenClaim.holds_of_wide 8 Try.f8 rfl rfl rfl rfl rfl rfl rfl ⟨rfl, rfl, rfl, rfl, rfl⟩ rfl rfl rfl rfl rfl (by kernel_rfl) Try.func8 (by kernel_rfl)
    (of_decide_eq_true (by kernel_rfl)) (by unfold Func.isWrapper; first | (rw [if_pos (by decide +kernel)]; kernel_rfl) | (rw [if_neg (by decide +kernel)]; exact ⟨rfl, rfl⟩))
    (fun os started H enc _ => lifted os started H enc)
end Go.Proofs.Ytphcmjhphoacgaa.lawShuffles
