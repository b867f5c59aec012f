/-
  The walks of Parse, of the program and of the document.
-/
import Derived.Test.YtlpnhpnigljlnaaDoorPk
import Derived.Test.YtlpnhpnigljlnaaDoorTailZ
import Derived.Test.YtlpnhpnigljlnaaDoorPlanC
namespace Go.Proofs.YtlpnhpnigljlnaaDoor
open Go.Sort Go.RowKit Go.Proofs.YtlpnhpnigljlnaaDoor.Pure Go.Proofs.YtlpnhpnigljlnaaDoor.Crc

theorem tab_set {w : World} (h : Tab w) {p : Addr} (hp : ¬ p.block = 0) (v : Value) : Tab (w.setCell p v) := fun i hi => by
  rw [World.cell?_setCell_other _ _ _ _ (fun e => hp (by rw [e]))]
  exact h i hi
set_option maxRecDepth 100000 in
set_option maxHeartbeats 2000000 in
theorem parse_any (t : ByteArray) (w : World) (hs : t.size ≤ 140737488351232) (ht : Tab w) : Calls Tryd.prog 10 #[.string t] w fun e w' => e = .returned (.tuple #[.agg #[.int .u64 (parS t).q, .int .u64 (parS t).b, .int .u64 (parS t).i, .int .u64 (parS t).e, .int .i64 (parS t).u], .int .i64 (parE t : Nat)]) ∧ Below w.heap.size w w' := by
  have HOP := Lib.hid (fun (W : World) (hT : Tab W) => open_any t W hs hT)
  have HR1 : Hid (SvW (w.alloc (.cells #[.int .u64 0, .int .u64 0, .int .u64 0, .int .u64 0, .int .i64 0] 26)) w.heap.size nilD) := Lib.hid (SvW.new w nilD _)
  have HB1 : Hid (Below w.heap.size w (w.alloc (.cells #[.int .u64 0, .int .u64 0, .int .u64 0, .int .u64 0, .int .i64 0] 26))) := Lib.hid ((Below.refl _ _).alloc (Nat.le_refl _) _)
  have HT1 := Lib.hid (ht.on HB1.out)
  by_cases hk : opnK t = 0
  rotate_left
  · obtain ⟨hpe, hpn⟩ := opn_bad hk
    have hps : parS t = nilD := by unfold parS; rw [hpn]; rfl
    rw [hps, hpe]
    have k0 : ((opnK t : Int) != 0) = true := by simpa using hk
    have k1 : (opnK t != 0) = true := by simpa using hk
    generalize opnK t = K at *
    generalize opnX t = X at *
    clear hpe hpn hps hk
    go_enter Tryd.func10, Tryd.ntmps10
    go_upto_region 1 with (fail)
    generalize w.alloc (.cells #[.int .u64 0, .int .u64 0, .int .u64 0, .int .u64 0, .int .i64 0] 26) = w1 at *
    go_wp2_with fail
    refine (HOP.out _ HT1.out).mono ?_
    rintro e w2 ⟨rfl, hb2⟩
    have HB2 := Lib.hid (HB1.out.trans (hb2.mono HB1.out.size))
    obtain ⟨⟨r0, r1, r2, r3, r4⟩, rf⟩ := HR1.out.on hb2
    simp only [nilD] at r0 r1 r2 r3 r4
    clear hb2 HR1 HB1 HT1 HOP
    go_wp2_with fail
    exact bodyPost_ret (v := .tuple #[.agg #[.int .u64 nilD.q, .int .u64 nilD.b, .int .u64 nilD.i, .int .u64 nilD.e, .int .i64 nilD.u], .int .i64 (K : Nat)]) (by simp [results, Tryd.results10, go_sem, r0, r1, r2, r3, r4, nilD]) rfl ⟨rfl, (((((HB2.out.setCell (Nat.le_refl _) _).setCell (Nat.le_refl _) _).setCell (Nat.le_refl _) _).setCell (Nat.le_refl _) _).setCell (Nat.le_refl _) _)⟩
  · obtain ⟨hX, hX4, hp2⟩ := opn_ok hk
    rw [hk, hX] at HOP
    have HP2 := Lib.hid hp2
    have HG0 := Lib.hid (got_nil (opnB t).data.toList)
    have HGB : Hid (∀ (l : List Nat) (p : Nat), Got (opnB t).data.toList l p → l.length ≤ 5 → ¬ (takeL ((opnB t).data.toList.drop p) 0 0).2.2 = 0 → parC t = none) := Lib.hid (fun l p hg h5 hn => parC_no (hg.bad h5 hn))
    have HGF := Lib.hid (fun (l : List Nat) (p : Nat) (h : Got (opnB t).data.toList l p) => h.far (t := t))
    have HGS := Lib.hid (fun (l : List Nat) (p : Nat) (h : Got (opnB t).data.toList l p) => h.same (t := t))
    have HGO := Lib.hid (fun (l : List Nat) (p : Nat) (h : Got (opnB t).data.toList l p) => h.other (t := t))
    have HX := Lib.hid hX4
    generalize opnB t = X at *
    clear hX hp2 hk hX4
    obtain ⟨RS, hRS⟩ : ∃ r, r = parS t := ⟨_, rfl⟩
    obtain ⟨RE, hRE⟩ : ∃ r, r = parE t := ⟨_, rfl⟩
    rw [← hRS, ← hRE]
    have HNone : Hid (parC t = none → RS = nilD ∧ RE = 2) := Lib.hid (fun hn => ⟨by rw [hRS]; unfold parS; rw [hn]; rfl, by rw [hRE]; exact HP2.out hn⟩)
    have HSome : Hid (∀ s, parC t = some s → RS = s ∧ RE = 0) := Lib.hid (fun s hn => ⟨by rw [hRS]; unfold parS; rw [hn]; rfl, by rw [hRE]; exact parE_some hn⟩)
    clear hRS hRE HP2
    go_enter Tryd.func10, Tryd.ntmps10
    go_upto_region 1 with (fail)
    generalize w.alloc (.cells #[.int .u64 0, .int .u64 0, .int .u64 0, .int .u64 0, .int .i64 0] 26) = w1 at *
    go_wp2_with fail
    refine (HOP.out _ HT1.out).mono ?_
    rintro e w2 ⟨rfl, hb2⟩
    have HB2 := Lib.hid (HB1.out.trans (hb2.mono HB1.out.size))
    have HR2 := Lib.hid (HR1.out.on hb2)
    have HT2 := Lib.hid (HT1.out.on hb2)
    clear hb2 HR1 HB1 HT1 HOP
    have hz2 := HB2.out.size
    have hbn : Below w2.heap.size w2 (w2.alloc (.cells #[.int .u64 0, .int .u64 0, .int .u64 0, .int .u64 0, .int .u64 0, .int .u64 0] 56)) := (Below.refl _ _).alloc (Nat.le_refl _) _
    have HN3 := Lib.hid (NuA.new w2 56)
    have HR3 := Lib.hid (HR2.out.on hbn)
    have HT3 := Lib.hid (HT2.out.on hbn)
    have HB3 := Lib.hid (HB2.out.trans (hbn.mono hz2))
    have hg2 := HR2.out.lt
    have htab := HT2.out.pos
    obtain ⟨g, hg⟩ : ∃ g, w2.heap.size = g := ⟨_, rfl⟩
    rw [hg] at HN3 hg2 htab
    clear hbn HR2 HB2 HT2
    go_upto_region 5 with (fail)
    generalize w2.alloc (.cells #[.int .u64 0, .int .u64 0, .int .u64 0, .int .u64 0, .int .u64 0, .int .u64 0] 56) = w3 at *
    clear hg hz2
    go_wp2_with fail
    go_loopw [21, 7] (fun i a wr => ∃ (k p : Nat) (l : List Nat), i = .int .i64 (k : Nat) ∧ a = .int .i64 (p : Nat) ∧ k ≤ 6 ∧ Hid (l.length = k) ∧ Hid (Got X.data.toList l p) ∧ Hid (NuA wr g l) ∧ Hid (SvW wr w.heap.size nilD) ∧ Hid (Tab wr) ∧ Hid (Below w.heap.size w wr)) (fun i _ _ => 6 - (intOf i).toNat)
    case atStart => exact ⟨0, 0, [], rfl, rfl, Nat.zero_le _, Lib.hid rfl, HG0, HN3, HR3, HT3, HB3⟩
    case round =>
      clear HG0 HN3 HR3 HB3 HT3
      obtain ⟨k, p, l, rfl, rfl, hk, hl, hgt, hn, hr, ht, hb⟩ := hrel
      by_cases hlt : k < 6
      · have hp : p ≤ X.size := by have := hgt.out.le; simpa using this
        have HC := Lib.hid (fun W => take_in X p W (by have := HX.out; unfold maxLen; omega) hp)
        have HMo := Lib.hid (fun (m q : Nat) (h : takeL (X.data.toList.drop p) 0 0 = (m, q, 0)) => hgt.out.more h)
        have HBd := Lib.hid (HGB.out l p hgt.out (by have := hl.out; omega))
        obtain ⟨⟨m, q, f⟩, hr3⟩ : ∃ r, takeL (X.data.toList.drop p) 0 0 = r := ⟨_, rfl⟩
        rw [hr3] at HC HMo HBd
        have hck := hn.out.1 k hlt
        have hfk := hn.out.2 k
        have HP := Lib.hid (hn.out.put m (by have := hl.out; omega))
        rw [hl.out] at HP
        have hne : g ≠ w.heap.size := by omega
        have HRp := Lib.hid (hr.out.apart (p := ⟨g, k, none⟩) hne (.int .u64 (m : Nat)))
        have hgl := hn.out.lt
        have HBp := Lib.hid (hb.out.setCell (p := ⟨g, k, none⟩) (by show w.heap.size ≤ g; omega) (.int .u64 (m : Nat)))
        have HTp := Lib.hid (tab_set ht.out (p := ⟨g, k, none⟩) (by have := htab; show ¬ g = _; omega) (.int .u64 (m : Nat)))
        unfold takeV at HC
        simp only at HC HBd HMo
        have k0 : (0 : Int) ≤ (k : Int) := by omega
        have k1 : (k : Int) < 6 := by omega
        have k2 : decide ((k : Int) < 6) = true := decide_eq_true k1
        have k3 : decide (k < 6) = true := decide_eq_true hlt
        by_cases hf : f = 0
        · subst hf
          rw [if_pos rfl] at HC
          have HGn := Lib.hid (HMo.out m q rfl)
          generalize p + q = pq at *
          clear hr3 HMo HBd hgt hr hb hn ht hne
          go_wp2_with fail
          refine (HC.out _).mono ?_
          rintro e w5 ⟨rfl, rfl⟩
          go_wp2_with fail
          go_roundw
          case rel => exact ⟨k + 1, pq, l ++ [m], by go_num, rfl, by omega, Lib.hid (by rw [List.length_append, hl.out]; rfl), HGn, HP, HRp, HTp, HBp⟩
          case measure => simp [intOf]; omega
        · have hpn := HBd.out hf
          have HE := Lib.hid (HNone.out hpn)
          rw [if_neg hf] at HC
          have f0 : ((f : Int) != 0) = true := by simpa using hf
          have f1 : (f != 0) = true := by simpa using hf
          obtain ⟨⟨r0, r1, r2, r3, r4⟩, rf⟩ := HRp.out
          simp only [nilD] at r0 r1 r2 r3 r4
          clear hr3 HMo HBd hgt hr hb hn ht HP HRp hpn hf HNone HSome
          go_wp2_with fail
          refine (HC.out _).mono ?_
          rintro e w5 ⟨rfl, rfl⟩
          go_wp2_with fail
          exact bodyPost_ret (v := .tuple #[.agg #[.int .u64 nilD.q, .int .u64 nilD.b, .int .u64 nilD.i, .int .u64 nilD.e, .int .i64 nilD.u], .int .i64 2]) (by simp [results, Tryd.results10, go_sem, r0, r1, r2, r3, r4, nilD]) rfl ⟨by rw [HE.out.1, HE.out.2]; rfl, (((((HBp.out.setCell (Nat.le_refl _) _).setCell (Nat.le_refl _) _).setCell (Nat.le_refl _) _).setCell (Nat.le_refl _) _).setCell (Nat.le_refl _) _)⟩
      · obtain rfl : k = 6 := by omega
        clear hlt hk
        have k2 : decide ((6 : Int) < 6) = false := by decide
        have c1 := hn.out.1 1 (by decide)
        have c2 := hn.out.1 2 (by decide)
        have c3 := hn.out.1 3 (by decide)
        have c4 := hn.out.1 4 (by decide)
        have c5 := hn.out.1 5 (by decide)
        have HFa := Lib.hid (HGF.out l p hgt.out hl.out)
        have HSa := Lib.hid (HGS.out l p hgt.out hl.out)
        have HOa := Lib.hid (HGO.out l p hgt.out hl.out)
        have HOs := Lib.hid (hgt.out.svO hl.out)
        have hg5 := hgt.out.g5 hl.out
        have HSay : Hid (∀ n : Int, sayD l n = ⟨l.getD 1 0, l.getD 2 0, l.getD 3 0, l.getD 4 0, n⟩) := Lib.hid (fun n => rfl)
        generalize l.getD 1 0 = N1 at *
        generalize l.getD 2 0 = N2 at *
        generalize l.getD 3 0 = N3 at *
        generalize l.getD 4 0 = N4 at *
        generalize l.getD 5 0 = N5 at *
        clear hn hgt hl HGF HGS HGO HGB
        by_cases hf : 64 < N5
        · have hpn := HFa.out hf
          have HE := Lib.hid (HNone.out hpn)
          obtain ⟨V, hV0, hm⟩ := far_wrap hf hg5
          have hV : wrap64 (wrap64 (N5 : Int) - 1) = V := by rw [← IntWalk.i64_left, ← IntWalk.i64_left]; exact hV0
          have HL := Lib.hid (fun W => lay_no ⟨N1, N2, N3, N4, V⟩ W hm)
          simp only at HL
          have hbn : Below wr.heap.size wr (wr.alloc (.cells #[.int .u64 (N1 : Nat), .int .u64 (N2 : Nat), .int .u64 (N3 : Nat), .int .u64 (N4 : Nat), .int .i64 V] 26)) := (Below.refl _ _).alloc (Nat.le_refl _) _
          have HSn := Lib.hid (SvA.new wr ⟨N1, N2, N3, N4, V⟩ 26)
          simp only at HSn
          have HRn := Lib.hid (hr.out.on hbn)
          have HBn := Lib.hid (hb.out.trans (hbn.mono hb.out.size))
          clear hbn hpn hm hf HFa HSa HOa HOs HSay hg5 ht hr hb HNone HSome
          go_upto_region 14 with (fail)
          generalize wr.alloc (.cells #[.int .u64 (N1 : Nat), .int .u64 (N2 : Nat), .int .u64 (N3 : Nat), .int .u64 (N4 : Nat), .int .i64 V] 26) = w6 at *
          obtain ⟨a0, a1, a2, a3, a4⟩ := HSn.out
          simp only at a0 a1 a2 a3 a4
          clear hV hV0 c1 c2 c3 c4 c5
          go_wp2_with fail
          refine (HL.out _).mono ?_
          rintro e w7 ⟨rfl, hb7⟩
          have HB7 := Lib.hid (HBn.out.trans (hb7.mono HBn.out.size))
          obtain ⟨⟨r0, r1, r2, r3, r4⟩, rf⟩ := HRn.out.on hb7
          simp only [nilD] at r0 r1 r2 r3 r4
          clear hb7 HRn HBn a0 a1 a2 a3 a4 HSn
          go_wp2_with fail
          exact bodyPost_ret (v := .tuple #[.agg #[.int .u64 nilD.q, .int .u64 nilD.b, .int .u64 nilD.i, .int .u64 nilD.e, .int .i64 nilD.u], .int .i64 2]) (by simp [results, Tryd.results10, go_sem, r0, r1, r2, r3, r4, nilD]) rfl ⟨by rw [HE.out.1, HE.out.2]; rfl, (((((HB7.out.setCell (Nat.le_refl _) _).setCell (Nat.le_refl _) _).setCell (Nat.le_refl _) _).setCell (Nat.le_refl _) _).setCell (Nat.le_refl _) _)⟩
        · have hf : N5 ≤ 64 := by omega
          have ho := HOs.out hf
          have HSm := Lib.hid (HSa.out hf)
          have HOt := HOa
          rw [HSay.out] at ho
          rw [HSay.out] at HSm
          rw [HSay.out] at HOt
          obtain ⟨V, hV⟩ : ∃ V : Int, (N5 : Int) - 1 = V := ⟨_, rfl⟩
          rw [hV] at ho HSm HOt
          have HL := Lib.hid (fun (W : World) (hT : Tab W) => lay_yes ⟨N1, N2, N3, N4, V⟩ W ho hT)
          simp only at HL
          have v1 : IntKind.i64.wrap (N5 : Int) = (N5 : Int) := IntWalk.i64_in _ (by omega)
          have v2 : IntKind.i64.wrap ((N5 : Int) - 1) = V := by rw [← hV]; exact IntWalk.i64_in _ (by omega)
          have q5 : decide (64 < (N5 : Int)) = false := decide_eq_false (by omega)
          have q6 : decide (64 < N5) = false := decide_eq_false (by omega)
          have hbn : Below wr.heap.size wr (wr.alloc (.cells #[.int .u64 (N1 : Nat), .int .u64 (N2 : Nat), .int .u64 (N3 : Nat), .int .u64 (N4 : Nat), .int .i64 V] 26)) := (Below.refl _ _).alloc (Nat.le_refl _) _
          have HSn := Lib.hid (SvA.new wr ⟨N1, N2, N3, N4, V⟩ 26)
          simp only at HSn
          have HRn := Lib.hid (hr.out.on hbn)
          have HBn := Lib.hid (hb.out.trans (hbn.mono hb.out.size))
          have HTn := Lib.hid (ht.out.on hbn)
          clear hbn ho hf HFa HSa HOa HOs HSay hg5 ht hr hb hV
          go_upto_region 14 with (fail)
          generalize wr.alloc (.cells #[.int .u64 (N1 : Nat), .int .u64 (N2 : Nat), .int .u64 (N3 : Nat), .int .u64 (N4 : Nat), .int .i64 V] 26) = w6 at *
          have HA6 := HSn
          obtain ⟨a0, a1, a2, a3, a4⟩ := HSn.out
          simp only at a0 a1 a2 a3 a4
          clear v1 v2 q5 q6 c1 c2 c3 c4 c5
          by_cases he : layC ⟨N1, N2, N3, N4, V⟩ = t
          · have hps := HSm.out he
            have HE := Lib.hid (HSome.out _ hps)
            rw [he] at HL
            have y1 : (t.toList == t.toList) = true := by simp
            clear hps he HSm HOt HNone HSome
            go_wp2_with fail
            refine (HL.out _ HTn.out).mono ?_
            rintro e w7 ⟨rfl, hb7⟩
            have HB7 := Lib.hid (HBn.out.trans (hb7.mono HBn.out.size))
            obtain ⟨⟨r0, r1, r2, r3, r4⟩, rf⟩ := HRn.out.on hb7
            simp only [nilD] at r0 r1 r2 r3 r4
            clear a0 a1 a2 a3 a4
            obtain ⟨a0, a1, a2, a3, a4⟩ := HA6.out.on hb7
            simp only at a0 a1 a2 a3 a4
            clear hb7 HRn HBn HA6
            go_wp2_with fail
            exact bodyPost_ret (v := .tuple #[.agg #[.int .u64 (⟨N1, N2, N3, N4, V⟩ : Sv).q, .int .u64 (⟨N1, N2, N3, N4, V⟩ : Sv).b, .int .u64 (⟨N1, N2, N3, N4, V⟩ : Sv).i, .int .u64 (⟨N1, N2, N3, N4, V⟩ : Sv).e, .int .i64 (⟨N1, N2, N3, N4, V⟩ : Sv).u], .int .i64 0]) (by simp [results, Tryd.results10, go_sem, r0, r1, r2, r3, r4]) rfl ⟨by rw [HE.out.1, HE.out.2]; rfl, (((((HB7.out.setCell (Nat.le_refl _) _).setCell (Nat.le_refl _) _).setCell (Nat.le_refl _) _).setCell (Nat.le_refl _) _).setCell (Nat.le_refl _) _)⟩
          · have hpn := HOt.out he
            have HE := Lib.hid (HNone.out hpn)
            have y1 : ((layC ⟨N1, N2, N3, N4, V⟩).toList == t.toList) = false := by rw [beq_eq_false_iff_ne]; exact fun h => he (text_eq h)
            generalize layC ⟨N1, N2, N3, N4, V⟩ = R at *
            clear hpn he HSm HOt HNone HSome
            go_wp2_with fail
            refine (HL.out _ HTn.out).mono ?_
            rintro e w7 ⟨rfl, hb7⟩
            have HB7 := Lib.hid (HBn.out.trans (hb7.mono HBn.out.size))
            obtain ⟨⟨r0, r1, r2, r3, r4⟩, rf⟩ := HRn.out.on hb7
            simp only [nilD] at r0 r1 r2 r3 r4
            clear hb7 HRn HBn HA6
            go_wp2_with fail
            exact bodyPost_ret (v := .tuple #[.agg #[.int .u64 nilD.q, .int .u64 nilD.b, .int .u64 nilD.i, .int .u64 nilD.e, .int .i64 nilD.u], .int .i64 2]) (by simp [results, Tryd.results10, go_sem, r0, r1, r2, r3, r4, nilD]) rfl ⟨by rw [HE.out.1, HE.out.2]; rfl, (((((HB7.out.setCell (Nat.le_refl _) _).setCell (Nat.le_refl _) _).setCell (Nat.le_refl _) _).setCell (Nat.le_refl _) _).setCell (Nat.le_refl _) _)⟩
set_option maxRecDepth 100000 in
set_option maxHeartbeats 2000000 in
theorem rparse_any (t : ByteArray) (w : World) (hs : t.size ≤ 140737488351232) : Calls Tryd.prog 11 #[.string t] w fun e w' => e = .returned (.tuple #[.agg #[.int .u64 (parS t).q, .int .u64 (parS t).b, .int .u64 (parS t).i, .int .u64 (parS t).e, .int .i64 (parS t).u], .int .i64 (parE t : Nat)]) ∧ Below w.heap.size w w' := by
  have HOP := Lib.hid (fun (W : World) => ropen_any t W hs)
  have HR1 : Hid (SvW (w.alloc (.cells #[.int .u64 0, .int .u64 0, .int .u64 0, .int .u64 0, .int .i64 0] 26)) w.heap.size nilD) := Lib.hid (SvW.new w nilD _)
  have HB1 : Hid (Below w.heap.size w (w.alloc (.cells #[.int .u64 0, .int .u64 0, .int .u64 0, .int .u64 0, .int .i64 0] 26))) := Lib.hid ((Below.refl _ _).alloc (Nat.le_refl _) _)
  by_cases hk : opnK t = 0
  rotate_left
  · obtain ⟨hpe, hpn⟩ := opn_bad hk
    have hps : parS t = nilD := by unfold parS; rw [hpn]; rfl
    rw [hps, hpe]
    have k0 : ((opnK t : Int) != 0) = true := by simpa using hk
    have k1 : (opnK t != 0) = true := by simpa using hk
    generalize opnK t = K at *
    generalize opnX t = X at *
    clear hpe hpn hps hk
    go_enter Tryd.func11, Tryd.ntmps11
    go_upto_region 1 with (fail)
    generalize w.alloc (.cells #[.int .u64 0, .int .u64 0, .int .u64 0, .int .u64 0, .int .i64 0] 26) = w1 at *
    go_wp2_with fail
    refine (HOP.out _).mono ?_
    rintro e w2 ⟨rfl, hb2⟩
    have HB2 := Lib.hid (HB1.out.trans (hb2.mono HB1.out.size))
    obtain ⟨⟨r0, r1, r2, r3, r4⟩, rf⟩ := HR1.out.on hb2
    simp only [nilD] at r0 r1 r2 r3 r4
    clear hb2 HR1 HB1 HOP
    go_wp2_with fail
    exact bodyPost_ret (v := .tuple #[.agg #[.int .u64 nilD.q, .int .u64 nilD.b, .int .u64 nilD.i, .int .u64 nilD.e, .int .i64 nilD.u], .int .i64 (K : Nat)]) (by simp [results, Tryd.results11, go_sem, r0, r1, r2, r3, r4, nilD]) rfl ⟨rfl, (((((HB2.out.setCell (Nat.le_refl _) _).setCell (Nat.le_refl _) _).setCell (Nat.le_refl _) _).setCell (Nat.le_refl _) _).setCell (Nat.le_refl _) _)⟩
  · obtain ⟨hX, hX4, hp2⟩ := opn_ok hk
    rw [hk, hX] at HOP
    have HP2 := Lib.hid hp2
    have HG0 := Lib.hid (got_nil (opnB t).data.toList)
    have HGB : Hid (∀ (l : List Nat) (p : Nat), Got (opnB t).data.toList l p → l.length ≤ 5 → ¬ (takeL ((opnB t).data.toList.drop p) 0 0).2.2 = 0 → parC t = none) := Lib.hid (fun l p hg h5 hn => parC_no (hg.bad h5 hn))
    have HGF := Lib.hid (fun (l : List Nat) (p : Nat) (h : Got (opnB t).data.toList l p) => h.far (t := t))
    have HGS := Lib.hid (fun (l : List Nat) (p : Nat) (h : Got (opnB t).data.toList l p) => h.same (t := t))
    have HGO := Lib.hid (fun (l : List Nat) (p : Nat) (h : Got (opnB t).data.toList l p) => h.other (t := t))
    have HX := Lib.hid hX4
    generalize opnB t = X at *
    clear hX hp2 hk hX4
    obtain ⟨RS, hRS⟩ : ∃ r, r = parS t := ⟨_, rfl⟩
    obtain ⟨RE, hRE⟩ : ∃ r, r = parE t := ⟨_, rfl⟩
    rw [← hRS, ← hRE]
    have HNone : Hid (parC t = none → RS = nilD ∧ RE = 2) := Lib.hid (fun hn => ⟨by rw [hRS]; unfold parS; rw [hn]; rfl, by rw [hRE]; exact HP2.out hn⟩)
    have HSome : Hid (∀ s, parC t = some s → RS = s ∧ RE = 0) := Lib.hid (fun s hn => ⟨by rw [hRS]; unfold parS; rw [hn]; rfl, by rw [hRE]; exact parE_some hn⟩)
    clear hRS hRE HP2
    go_enter Tryd.func11, Tryd.ntmps11
    go_upto_region 1 with (fail)
    generalize w.alloc (.cells #[.int .u64 0, .int .u64 0, .int .u64 0, .int .u64 0, .int .i64 0] 26) = w1 at *
    go_wp2_with fail
    refine (HOP.out _).mono ?_
    rintro e w2 ⟨rfl, hb2⟩
    have HB2 := Lib.hid (HB1.out.trans (hb2.mono HB1.out.size))
    have HR2 := Lib.hid (HR1.out.on hb2)
    clear hb2 HR1 HB1 HOP
    have hz2 := HB2.out.size
    have hbn : Below w2.heap.size w2 (w2.alloc (.cells #[.int .u64 0, .int .u64 0, .int .u64 0, .int .u64 0, .int .u64 0, .int .u64 0] 56)) := (Below.refl _ _).alloc (Nat.le_refl _) _
    have HN3 := Lib.hid (NuA.new w2 56)
    have HR3 := Lib.hid (HR2.out.on hbn)
    have HB3 := Lib.hid (HB2.out.trans (hbn.mono hz2))
    have hg2 := HR2.out.lt
    obtain ⟨g, hg⟩ : ∃ g, w2.heap.size = g := ⟨_, rfl⟩
    rw [hg] at HN3 hg2
    clear hbn HR2 HB2
    go_upto_region 5 with (fail)
    generalize w2.alloc (.cells #[.int .u64 0, .int .u64 0, .int .u64 0, .int .u64 0, .int .u64 0, .int .u64 0] 56) = w3 at *
    clear hg hz2
    go_wp2_with fail
    go_loopw [8, 7] (fun i a wr => ∃ (k p : Nat) (l : List Nat), i = .int .i64 (k : Nat) ∧ a = .int .i64 (p : Nat) ∧ k ≤ 6 ∧ Hid (l.length = k) ∧ Hid (Got X.data.toList l p) ∧ Hid (NuA wr g l) ∧ Hid (SvW wr w.heap.size nilD) ∧ Hid (Below w.heap.size w wr)) (fun i _ _ => 6 - (intOf i).toNat)
    case atStart => exact ⟨0, 0, [], rfl, rfl, Nat.zero_le _, Lib.hid rfl, HG0, HN3, HR3, HB3⟩
    case round =>
      clear HG0 HN3 HR3 HB3
      obtain ⟨k, p, l, rfl, rfl, hk, hl, hgt, hn, hr, hb⟩ := hrel
      by_cases hlt : k < 6
      · have hp : p ≤ X.size := by have := hgt.out.le; simpa using this
        have HC := Lib.hid (fun W => rtake_in X p W (by have := HX.out; omega) hp)
        have HMo := Lib.hid (fun (m q : Nat) (h : takeL (X.data.toList.drop p) 0 0 = (m, q, 0)) => hgt.out.more h)
        have HBd := Lib.hid (HGB.out l p hgt.out (by have := hl.out; omega))
        obtain ⟨⟨m, q, f⟩, hr3⟩ : ∃ r, takeL (X.data.toList.drop p) 0 0 = r := ⟨_, rfl⟩
        rw [hr3] at HC HMo HBd
        have hck := hn.out.1 k hlt
        have hfk := hn.out.2 k
        have HP := Lib.hid (hn.out.put m (by have := hl.out; omega))
        rw [hl.out] at HP
        have hne : g ≠ w.heap.size := by omega
        have HRp := Lib.hid (hr.out.apart (p := ⟨g, k, none⟩) hne (.int .u64 (m : Nat)))
        have hgl := hn.out.lt
        have HBp := Lib.hid (hb.out.setCell (p := ⟨g, k, none⟩) (by show w.heap.size ≤ g; omega) (.int .u64 (m : Nat)))
        unfold takeV at HC
        simp only at HC HBd HMo
        have k0 : (0 : Int) ≤ (k : Int) := by omega
        have k1 : (k : Int) < 6 := by omega
        have k2 : decide ((k : Int) < 6) = true := decide_eq_true k1
        have k3 : decide (k < 6) = true := decide_eq_true hlt
        by_cases hf : f = 0
        · subst hf
          rw [if_pos rfl] at HC
          have HGn := Lib.hid (HMo.out m q rfl)
          generalize p + q = pq at *
          clear hr3 HMo HBd hgt hr hb hn hne
          go_wp2_with fail
          refine (HC.out _).mono ?_
          rintro e w5 ⟨rfl, rfl⟩
          go_wp2_with fail
          go_roundw
          case rel => exact ⟨k + 1, pq, l ++ [m], by go_num, rfl, by omega, Lib.hid (by rw [List.length_append, hl.out]; rfl), HGn, HP, HRp, HBp⟩
          case measure => simp [intOf]; omega
        · have hpn := HBd.out hf
          have HE := Lib.hid (HNone.out hpn)
          rw [if_neg hf] at HC
          have f0 : ((f : Int) != 0) = true := by simpa using hf
          have f1 : (f != 0) = true := by simpa using hf
          have HR0 := hr
          obtain ⟨⟨r0, r1, r2, r3, r4⟩, rf⟩ := hr.out
          simp only [nilD] at r0 r1 r2 r3 r4
          clear hr3 HMo HBd hgt hr hn HP HRp hpn hf HNone HSome
          go_wp2_with fail
          refine (HC.out _).mono ?_
          rintro e w5 ⟨rfl, rfl⟩
          go_wp2_with fail
          exact bodyPost_ret (v := .tuple #[.agg #[.int .u64 nilD.q, .int .u64 nilD.b, .int .u64 nilD.i, .int .u64 nilD.e, .int .i64 nilD.u], .int .i64 2]) (by simp [results, Tryd.results11, go_sem, r0, r1, r2, r3, r4, nilD]) rfl ⟨by rw [HE.out.1, HE.out.2]; rfl, (((((hb.out.setCell (Nat.le_refl _) _).setCell (Nat.le_refl _) _).setCell (Nat.le_refl _) _).setCell (Nat.le_refl _) _).setCell (Nat.le_refl _) _)⟩
      · obtain rfl : k = 6 := by omega
        clear hlt hk
        have k2 : decide ((6 : Int) < 6) = false := by decide
        have c1 := hn.out.1 1 (by decide)
        have c2 := hn.out.1 2 (by decide)
        have c3 := hn.out.1 3 (by decide)
        have c4 := hn.out.1 4 (by decide)
        have c5 := hn.out.1 5 (by decide)
        have HFa := Lib.hid (HGF.out l p hgt.out hl.out)
        have HSa := Lib.hid (HGS.out l p hgt.out hl.out)
        have HOa := Lib.hid (HGO.out l p hgt.out hl.out)
        have HOs := Lib.hid (hgt.out.svO hl.out)
        have hg5 := hgt.out.g5 hl.out
        have HSay : Hid (∀ n : Int, sayD l n = ⟨l.getD 1 0, l.getD 2 0, l.getD 3 0, l.getD 4 0, n⟩) := Lib.hid (fun n => rfl)
        generalize l.getD 1 0 = N1 at *
        generalize l.getD 2 0 = N2 at *
        generalize l.getD 3 0 = N3 at *
        generalize l.getD 4 0 = N4 at *
        generalize l.getD 5 0 = N5 at *
        clear hn hgt hl HGF HGS HGO HGB
        by_cases hf : 64 < N5
        · have hpn := HFa.out hf
          have HE := Lib.hid (HNone.out hpn)
          have q5 : decide (64 < (N5 : Int)) = true := decide_eq_true (by omega)
          have q6 : decide (64 < N5) = true := decide_eq_true hf
          obtain ⟨⟨r0, r1, r2, r3, r4⟩, rf⟩ := hr.out
          simp only [nilD] at r0 r1 r2 r3 r4
          clear hpn hf HFa HSa HOa HOs HSay hg5 hr HNone HSome
          go_wp2_with fail
          exact bodyPost_ret (v := .tuple #[.agg #[.int .u64 nilD.q, .int .u64 nilD.b, .int .u64 nilD.i, .int .u64 nilD.e, .int .i64 nilD.u], .int .i64 2]) (by simp [results, Tryd.results11, go_sem, r0, r1, r2, r3, r4, nilD]) rfl ⟨by rw [HE.out.1, HE.out.2]; rfl, (((((hb.out.setCell (Nat.le_refl _) _).setCell (Nat.le_refl _) _).setCell (Nat.le_refl _) _).setCell (Nat.le_refl _) _).setCell (Nat.le_refl _) _)⟩
        · have hf : N5 ≤ 64 := by omega
          have ho := HOs.out hf
          have HSm := Lib.hid (HSa.out hf)
          have HOt := HOa
          rw [HSay.out] at ho
          rw [HSay.out] at HSm
          rw [HSay.out] at HOt
          obtain ⟨V, hV⟩ : ∃ V : Int, (N5 : Int) - 1 = V := ⟨_, rfl⟩
          rw [hV] at ho HSm HOt
          have HL := Lib.hid (fun (W : World) => rlay_yes ⟨N1, N2, N3, N4, V⟩ W ho)
          simp only at HL
          have v1 : IntKind.i64.wrap (N5 : Int) = (N5 : Int) := IntWalk.i64_in _ (by omega)
          have v2 : IntKind.i64.wrap ((N5 : Int) - 1) = V := by rw [← hV]; exact IntWalk.i64_in _ (by omega)
          have q5 : decide (64 < (N5 : Int)) = false := decide_eq_false (by omega)
          have q6 : decide (64 < N5) = false := decide_eq_false (by omega)
          have hbn : Below wr.heap.size wr (wr.alloc (.cells #[.int .u64 (N1 : Nat), .int .u64 (N2 : Nat), .int .u64 (N3 : Nat), .int .u64 (N4 : Nat), .int .i64 V] 26)) := (Below.refl _ _).alloc (Nat.le_refl _) _
          have HSn := Lib.hid (SvA.new wr ⟨N1, N2, N3, N4, V⟩ 26)
          simp only at HSn
          have HRn := Lib.hid (hr.out.on hbn)
          have HBn := Lib.hid (hb.out.trans (hbn.mono hb.out.size))
          clear hbn ho hf HFa HSa HOa HOs HSay hg5 hr hb hV
          go_upto_region 17 with (fail)
          generalize wr.alloc (.cells #[.int .u64 (N1 : Nat), .int .u64 (N2 : Nat), .int .u64 (N3 : Nat), .int .u64 (N4 : Nat), .int .i64 V] 26) = w6 at *
          have HA6 := HSn
          obtain ⟨a0, a1, a2, a3, a4⟩ := HSn.out
          simp only at a0 a1 a2 a3 a4
          clear v1 v2 q5 q6 c1 c2 c3 c4 c5
          by_cases he : layC ⟨N1, N2, N3, N4, V⟩ = t
          · have hps := HSm.out he
            have HE := Lib.hid (HSome.out _ hps)
            rw [he] at HL
            have y1 : (t.toList == t.toList) = true := by simp
            clear hps he HSm HOt HNone HSome
            go_wp2_with fail
            refine (HL.out _).mono ?_
            rintro e w7 ⟨rfl, hb7⟩
            have HB7 := Lib.hid (HBn.out.trans (hb7.mono HBn.out.size))
            obtain ⟨⟨r0, r1, r2, r3, r4⟩, rf⟩ := HRn.out.on hb7
            simp only [nilD] at r0 r1 r2 r3 r4
            clear a0 a1 a2 a3 a4
            obtain ⟨a0, a1, a2, a3, a4⟩ := HA6.out.on hb7
            simp only at a0 a1 a2 a3 a4
            clear hb7 HRn HBn HA6
            go_wp2_with fail
            exact bodyPost_ret (v := .tuple #[.agg #[.int .u64 (⟨N1, N2, N3, N4, V⟩ : Sv).q, .int .u64 (⟨N1, N2, N3, N4, V⟩ : Sv).b, .int .u64 (⟨N1, N2, N3, N4, V⟩ : Sv).i, .int .u64 (⟨N1, N2, N3, N4, V⟩ : Sv).e, .int .i64 (⟨N1, N2, N3, N4, V⟩ : Sv).u], .int .i64 0]) (by simp [results, Tryd.results11, go_sem, r0, r1, r2, r3, r4]) rfl ⟨by rw [HE.out.1, HE.out.2]; rfl, (((((HB7.out.setCell (Nat.le_refl _) _).setCell (Nat.le_refl _) _).setCell (Nat.le_refl _) _).setCell (Nat.le_refl _) _).setCell (Nat.le_refl _) _)⟩
          · have hpn := HOt.out he
            have HE := Lib.hid (HNone.out hpn)
            have y1 : ((layC ⟨N1, N2, N3, N4, V⟩).toList == t.toList) = false := by rw [beq_eq_false_iff_ne]; exact fun h => he (text_eq h)
            generalize layC ⟨N1, N2, N3, N4, V⟩ = R at *
            clear hpn he HSm HOt HNone HSome
            go_wp2_with fail
            refine (HL.out _).mono ?_
            rintro e w7 ⟨rfl, hb7⟩
            have HB7 := Lib.hid (HBn.out.trans (hb7.mono HBn.out.size))
            obtain ⟨⟨r0, r1, r2, r3, r4⟩, rf⟩ := HRn.out.on hb7
            simp only [nilD] at r0 r1 r2 r3 r4
            clear hb7 HRn HBn HA6
            go_wp2_with fail
            exact bodyPost_ret (v := .tuple #[.agg #[.int .u64 nilD.q, .int .u64 nilD.b, .int .u64 nilD.i, .int .u64 nilD.e, .int .i64 nilD.u], .int .i64 2]) (by simp [results, Tryd.results11, go_sem, r0, r1, r2, r3, r4, nilD]) rfl ⟨by rw [HE.out.1, HE.out.2]; rfl, (((((HB7.out.setCell (Nat.le_refl _) _).setCell (Nat.le_refl _) _).setCell (Nat.le_refl _) _).setCell (Nat.le_refl _) _).setCell (Nat.le_refl _) _)⟩
end Go.Proofs.YtlpnhpnigljlnaaDoor
