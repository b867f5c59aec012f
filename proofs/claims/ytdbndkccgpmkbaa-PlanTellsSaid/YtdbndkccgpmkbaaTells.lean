/-
  PlanTells: which moves may be, what differs, what is moved, and back, or why not, as the document says: the law returns true for every input.
-/
import Derived.Test.YtdbndkccgpmkbaaFl
import Derived.Test.YtdbndkccgpmkbaaRd
namespace Go.Proofs.Ytdbndkccgpmkbaa.lawTells
open Go.ChangeMaps (open_string)
open Go.Sort Go.ChangeShapes Go.WideShapes Go.ChangeAt Go.RowKit Go.Joins Go.Proofs.Ytdbndkccgpmkbaa.Pure

set_option maxRecDepth 100000 in
set_option maxHeartbeats 4000000 in
theorem w_a0 (A : Option Addr) (ca : Nat) (a0 : List Pu) (B : Option Addr) (cb : Nat) (b0 : List Pu) (L : Option Addr) (cl : Nat) (l0 : List Mv) (w : World) (hca : a0.length ≤ ca) (hma : ca ≤ maxLen) (ha : Us w A a0) (sa : ShrtU a0) (hcb : b0.length ≤ cb) (hmb : cb ≤ maxLen) (hb : Us w B b0) (sb : ShrtU b0) (hcl : l0.length ≤ cl) (hml : cl ≤ maxLen) (hl : Vs w L l0) (sl : FitV l0) (h1 : putB (a0.take 101) = false) (h2 : putB (b0.take 101) = false) (h3 : movB (l0.take 101) = false) :
    Calls Try.prog 3 #[.slice A a0.length ca, .slice B b0.length cb, .slice L l0.length cl] w fun e w' => e = .returned (.bool true) ∧ Below w.heap.size w w' := by
  have HPa := Lib.hid (puts_any A ca a0 w hca hma ha)
  rw [← take_len a0] at HPa
  have Ha_0 := Lib.hid (ha.take 101)
  have Sa := (sa.take 101).map
  have hla : (a0.take 101).length ≤ 101 := by rw [take_len]; omega
  have HPb := Lib.hid (puts_any B cb b0 w hcb hmb hb)
  rw [← take_len b0] at HPb
  have Hb_0 := Lib.hid (hb.take 101)
  have Sb := (sb.take 101).map
  have hlb : (b0.take 101).length ≤ 101 := by rw [take_len]; omega
  have HPl := Lib.hid (moves_any L cl l0 w hcl hml hl)
  rw [← take_len l0] at HPl
  have Hl_0 := Lib.hid (hl.take 101)
  have Sl := (sl.take 101).map
  have hll : (l0.take 101).length ≤ 101 := by rw [take_len]; omega
  generalize a0.take 101 = a at *
  generalize b0.take 101 = b at *
  generalize l0.take 101 = l at *
  generalize a0.length = na at *
  generalize b0.length = nb at *
  generalize l0.length = nl at *
  have B_0 := Lib.hid (Below.refl w.heap.size w)
  clear hca hma ha sa
  clear hcb hmb hb sb
  clear hcl hml hl sl
  have HD := Lib.hid (fun (A B : Option Addr) (ca cb : Nat) (W : World) (hA : Us W A a) (hB : Us W B b) => diff_any A B ca cb a b W (by omega) (by omega) hA hB Sa Sb)
  have HA := Lib.hid (fun (A B : Option Addr) (ca cb : Nat) (W : World) (hA : Us W A a) (hB : Vs W B l) => apply_any A B ca cb a l W (by omega) (by omega) hA hB Sa Sl)
  have HK := Lib.hid (fun (A : Option Addr) (ca : Nat) (W : World) (hA : Vs W A l) => back_any A ca l W (by omega) hA Sl)
  have HCK := Lib.hid (fun (A : Option Addr) (c : Nat) (W : World) (h : Vs W A l) => chkV_any A c l W (by omega) h Sl false h3)
  have HMM := Lib.hid (fun (A : Option Addr) (c : Nat) (W : World) (h : Vs W A l) => rmayV_any A c l W (by omega) h Sl false h3)
  have HPA := Lib.hid (fun (A : Option Addr) (c : Nat) (W : World) (h : Us W A a) => rmay_any A c a W (by omega) h Sa false h1)
  have HPB := Lib.hid (fun (A : Option Addr) (c : Nat) (W : World) (h : Us W A b) => rmay_any A c b W (by omega) h Sb false h2)
  have ok1 : okE false = 1 := rfl
  have e1 : dE a b = 1 := by unfold dE; rw [h1, h2]; rfl
  have e2 : dR a b = [] := dR_of (by rw [e1]; decide)
  rw [e1, e2] at HD
  have e3 : bE l = 1 := by unfold bE; rw [h3]; rfl
  have e4 : bR l = [] := by unfold bR; rw [h3]; rfl
  rw [e3, e4] at HK
  have e5 : aE a l = 1 := by unfold aE; rw [h1, h3]; rfl
  have e6 : aR a l = [] := aR_of (by rw [e5]; decide)
  rw [e5, e6] at HA
  clear Sa Sb Sl h1 h2 h3 e1 e2 e3 e4 e5 e6 hla hlb
  go_enter Try.func3, Try.ntmps3
  go_wp2_with fail
  refine HPa.out.mono ?_
  rintro e w0 ⟨rfl, rfl⟩
  go_wp2_with fail
  refine HPb.out.mono ?_
  rintro e w0 ⟨rfl, rfl⟩
  go_wp2_with fail
  refine HPl.out.mono ?_
  rintro e w0 ⟨rfl, rfl⟩
  clear HPa HPb HPl
  go_wp2_with fail
  refine (HD.out _ _ _ _ _ Ha_0.out Hb_0.out).mono ?_
  rintro e w2 ⟨v2, rfl, ho, hb⟩
  have a_1 := Lib.hid (Ha_0.out.on hb)
  have b_1 := Lib.hid (Hb_0.out.on hb)
  have l_1 := Lib.hid (Hl_0.out.on hb)
  have B_1 := Lib.hid (B_0.out.trans (hb.mono B_0.out.size))
  clear Ha_0 Hb_0 Hl_0 B_0
  obtain ⟨Ad, kd, rfl, hkd, hu⟩ := ho.lst
  have d_2 := Lib.hid (hu)
  clear ho hu
  clear hb
  go_wp2_with fail
  refine (HA.out _ _ _ _ _ a_1.out l_1.out).mono ?_
  rintro e w3 ⟨v3, rfl, ho, hb⟩
  have a_3 := Lib.hid (a_1.out.on hb)
  have b_3 := Lib.hid (b_1.out.on hb)
  have l_3 := Lib.hid (l_1.out.on hb)
  have B_3 := Lib.hid (B_1.out.trans (hb.mono B_1.out.size))
  have d_3 := Lib.hid (d_2.out.on hb)
  clear a_1 b_1 l_1 B_1 d_2
  obtain ⟨Ax, kx, rfl, hkx, hu⟩ := ho.lst
  have x_4 := Lib.hid (hu)
  clear ho hu
  clear hb
  go_wp2_with fail
  refine (HK.out _ _ _ l_3.out).mono ?_
  rintro e w4 ⟨v4, rfl, ho, hb⟩
  have a_5 := Lib.hid (a_3.out.on hb)
  have b_5 := Lib.hid (b_3.out.on hb)
  have l_5 := Lib.hid (l_3.out.on hb)
  have B_5 := Lib.hid (B_3.out.trans (hb.mono B_3.out.size))
  have d_5 := Lib.hid (d_3.out.on hb)
  have x_5 := Lib.hid (x_4.out.on hb)
  clear a_3 b_3 l_3 B_3 d_3 x_4
  obtain ⟨Ay, ky, rfl, hky, hu⟩ := ho.lst
  have y_6 := Lib.hid (hu)
  clear ho hu
  clear hb
  go_wp2_with fail
  refine (HCK.out _ _ _ l_5.out).mono ?_
  rintro e w5 ⟨rfl, hb⟩
  have a_7 := Lib.hid (a_5.out.on hb)
  have b_7 := Lib.hid (b_5.out.on hb)
  have l_7 := Lib.hid (l_5.out.on hb)
  have B_7 := Lib.hid (B_5.out.trans (hb.mono B_5.out.size))
  have d_7 := Lib.hid (d_5.out.on hb)
  have x_7 := Lib.hid (x_5.out.on hb)
  have y_7 := Lib.hid (y_6.out.on hb)
  clear a_5 b_5 l_5 B_5 d_5 x_5 y_6
  clear hb
  go_wp2_with fail
  refine (HMM.out _ _ _ l_7.out).mono ?_
  rintro e w6 ⟨rfl, hb⟩
  have a_8 := Lib.hid (a_7.out.on hb)
  have b_8 := Lib.hid (b_7.out.on hb)
  have l_8 := Lib.hid (l_7.out.on hb)
  have B_8 := Lib.hid (B_7.out.trans (hb.mono B_7.out.size))
  have d_8 := Lib.hid (d_7.out.on hb)
  have x_8 := Lib.hid (x_7.out.on hb)
  have y_8 := Lib.hid (y_7.out.on hb)
  clear a_7 b_7 l_7 B_7 d_7 x_7 y_7
  clear hb
  go_wp2_with fail
  refine (HPA.out _ _ _ a_8.out).mono ?_
  rintro e w7 ⟨rfl, hb⟩
  have a_9 := Lib.hid (a_8.out.on hb)
  have b_9 := Lib.hid (b_8.out.on hb)
  have l_9 := Lib.hid (l_8.out.on hb)
  have B_9 := Lib.hid (B_8.out.trans (hb.mono B_8.out.size))
  have d_9 := Lib.hid (d_8.out.on hb)
  have x_9 := Lib.hid (x_8.out.on hb)
  have y_9 := Lib.hid (y_8.out.on hb)
  clear a_8 b_8 l_8 B_8 d_8 x_8 y_8
  clear hb
  clear b_9
  clear d_9
  go_wp2_with fail
  refine (HMM.out _ _ _ l_9.out).mono ?_
  rintro e w11 ⟨rfl, hb⟩
  have a_10 := Lib.hid (a_9.out.on hb)
  have l_10 := Lib.hid (l_9.out.on hb)
  have B_10 := Lib.hid (B_9.out.trans (hb.mono B_9.out.size))
  have x_10 := Lib.hid (x_9.out.on hb)
  have y_10 := Lib.hid (y_9.out.on hb)
  clear a_9 l_9 B_9 x_9 y_9
  clear hb
  go_wp2_with fail
  refine (awake_any _).mono ?_
  rintro e w99 ⟨rfl, hb99⟩
  go_wp2_with fail
  go_ret
  exact ⟨rfl, B_10.out.trans (hb99.mono B_10.out.size)⟩

set_option maxRecDepth 100000 in
set_option maxHeartbeats 4000000 in
theorem w_a1 (A : Option Addr) (ca : Nat) (a0 : List Pu) (B : Option Addr) (cb : Nat) (b0 : List Pu) (L : Option Addr) (cl : Nat) (l0 : List Mv) (w : World) (hca : a0.length ≤ ca) (hma : ca ≤ maxLen) (ha : Us w A a0) (sa : ShrtU a0) (hcb : b0.length ≤ cb) (hmb : cb ≤ maxLen) (hb : Us w B b0) (sb : ShrtU b0) (hcl : l0.length ≤ cl) (hml : cl ≤ maxLen) (hl : Vs w L l0) (sl : FitV l0) (h1 : putB (a0.take 101) = false) (h2 : putB (b0.take 101) = false) (h3 : movB (l0.take 101) = true) :
    Calls Try.prog 3 #[.slice A a0.length ca, .slice B b0.length cb, .slice L l0.length cl] w fun e w' => e = .returned (.bool true) ∧ Below w.heap.size w w' := by
  have HPa := Lib.hid (puts_any A ca a0 w hca hma ha)
  rw [← take_len a0] at HPa
  have Ha_0 := Lib.hid (ha.take 101)
  have Sa := (sa.take 101).map
  have hla : (a0.take 101).length ≤ 101 := by rw [take_len]; omega
  have HPb := Lib.hid (puts_any B cb b0 w hcb hmb hb)
  rw [← take_len b0] at HPb
  have Hb_0 := Lib.hid (hb.take 101)
  have Sb := (sb.take 101).map
  have hlb : (b0.take 101).length ≤ 101 := by rw [take_len]; omega
  have HPl := Lib.hid (moves_any L cl l0 w hcl hml hl)
  rw [← take_len l0] at HPl
  have Hl_0 := Lib.hid (hl.take 101)
  have Sl := (sl.take 101).map
  have hll : (l0.take 101).length ≤ 101 := by rw [take_len]; omega
  generalize a0.take 101 = a at *
  generalize b0.take 101 = b at *
  generalize l0.take 101 = l at *
  generalize a0.length = na at *
  generalize b0.length = nb at *
  generalize l0.length = nl at *
  have B_0 := Lib.hid (Below.refl w.heap.size w)
  clear hca hma ha sa
  clear hcb hmb hb sb
  clear hcl hml hl sl
  have HD := Lib.hid (fun (A B : Option Addr) (ca cb : Nat) (W : World) (hA : Us W A a) (hB : Us W B b) => diff_any A B ca cb a b W (by omega) (by omega) hA hB Sa Sb)
  have HA := Lib.hid (fun (A B : Option Addr) (ca cb : Nat) (W : World) (hA : Us W A a) (hB : Vs W B l) => apply_any A B ca cb a l W (by omega) (by omega) hA hB Sa Sl)
  have HK := Lib.hid (fun (A : Option Addr) (ca : Nat) (W : World) (hA : Vs W A l) => back_any A ca l W (by omega) hA Sl)
  have HCK := Lib.hid (fun (A : Option Addr) (c : Nat) (W : World) (h : Vs W A l) => chkV_any A c l W (by omega) h Sl true h3)
  have HMM := Lib.hid (fun (A : Option Addr) (c : Nat) (W : World) (h : Vs W A l) => rmayV_any A c l W (by omega) h Sl true h3)
  have HPA := Lib.hid (fun (A : Option Addr) (c : Nat) (W : World) (h : Us W A a) => rmay_any A c a W (by omega) h Sa false h1)
  have HPB := Lib.hid (fun (A : Option Addr) (c : Nat) (W : World) (h : Us W A b) => rmay_any A c b W (by omega) h Sb false h2)
  have ok1 : okE true = 0 := rfl
  have e1 : dE a b = 1 := by unfold dE; rw [h1, h2]; rfl
  have e2 : dR a b = [] := dR_of (by rw [e1]; decide)
  rw [e1, e2] at HD
  have e3 : bE l = 0 := by unfold bE; rw [if_pos h3]
  have e4 : bR l = backP l := by unfold bR; rw [if_pos h3]
  rw [e3, e4] at HK
  have e5 : aE a l = 1 := by unfold aE; rw [h1, h3]; rfl
  have e6 : aR a l = [] := aR_of (by rw [e5]; decide)
  rw [e5, e6] at HA
  have hkl : (backP l).length ≤ 101 := by rw [backP_len]; omega
  have HSB := Lib.hid (fun (A B : Option Addr) (ca cb : Nat) (W : World) (hA : Vs W A (backP l)) (hB : Vs W B (backP l)) => same_mvs A B ca cb _ _ W (by omega) hA hB true (by simp))
  have HBE : Hid ((l.take l.length).map backM = backP l) := Lib.hid (by rw [List.take_length]; rfl)
  have HNX := Lib.hid (back_next l)
  have HLN : Hid (∀ k, ((l.take k).map backM).length ≤ k) := Lib.hid (fun k => by simp; omega)
  generalize backP l = K at *
  clear Sa Sb Sl h1 h2 h3 e1 e2 e3 e4 e5 e6 hkl hla hlb
  go_enter Try.func3, Try.ntmps3
  go_wp2_with fail
  refine HPa.out.mono ?_
  rintro e w0 ⟨rfl, rfl⟩
  go_wp2_with fail
  refine HPb.out.mono ?_
  rintro e w0 ⟨rfl, rfl⟩
  go_wp2_with fail
  refine HPl.out.mono ?_
  rintro e w0 ⟨rfl, rfl⟩
  clear HPa HPb HPl
  go_wp2_with fail
  refine (HD.out _ _ _ _ _ Ha_0.out Hb_0.out).mono ?_
  rintro e w2 ⟨v2, rfl, ho, hb⟩
  have a_1 := Lib.hid (Ha_0.out.on hb)
  have b_1 := Lib.hid (Hb_0.out.on hb)
  have l_1 := Lib.hid (Hl_0.out.on hb)
  have B_1 := Lib.hid (B_0.out.trans (hb.mono B_0.out.size))
  clear Ha_0 Hb_0 Hl_0 B_0
  obtain ⟨Ad, kd, rfl, hkd, hu⟩ := ho.lst
  have d_2 := Lib.hid (hu)
  clear ho hu
  clear hb
  go_wp2_with fail
  refine (HA.out _ _ _ _ _ a_1.out l_1.out).mono ?_
  rintro e w3 ⟨v3, rfl, ho, hb⟩
  have a_3 := Lib.hid (a_1.out.on hb)
  have b_3 := Lib.hid (b_1.out.on hb)
  have l_3 := Lib.hid (l_1.out.on hb)
  have B_3 := Lib.hid (B_1.out.trans (hb.mono B_1.out.size))
  have d_3 := Lib.hid (d_2.out.on hb)
  clear a_1 b_1 l_1 B_1 d_2
  obtain ⟨Ax, kx, rfl, hkx, hu⟩ := ho.lst
  have x_4 := Lib.hid (hu)
  clear ho hu
  clear hb
  go_wp2_with fail
  refine (HK.out _ _ _ l_3.out).mono ?_
  rintro e w4 ⟨v4, rfl, ho, hb⟩
  have a_5 := Lib.hid (a_3.out.on hb)
  have b_5 := Lib.hid (b_3.out.on hb)
  have l_5 := Lib.hid (l_3.out.on hb)
  have B_5 := Lib.hid (B_3.out.trans (hb.mono B_3.out.size))
  have d_5 := Lib.hid (d_3.out.on hb)
  have x_5 := Lib.hid (x_4.out.on hb)
  clear a_3 b_3 l_3 B_3 d_3 x_4
  obtain ⟨Ay, ky, rfl, hky, hu⟩ := ho.lst
  have y_6 := Lib.hid (hu)
  clear ho hu
  clear hb
  go_wp2_with fail
  refine (HCK.out _ _ _ l_5.out).mono ?_
  rintro e w5 ⟨rfl, hb⟩
  have a_7 := Lib.hid (a_5.out.on hb)
  have b_7 := Lib.hid (b_5.out.on hb)
  have l_7 := Lib.hid (l_5.out.on hb)
  have B_7 := Lib.hid (B_5.out.trans (hb.mono B_5.out.size))
  have d_7 := Lib.hid (d_5.out.on hb)
  have x_7 := Lib.hid (x_5.out.on hb)
  have y_7 := Lib.hid (y_6.out.on hb)
  clear a_5 b_5 l_5 B_5 d_5 x_5 y_6
  clear hb
  go_wp2_with fail
  refine (HMM.out _ _ _ l_7.out).mono ?_
  rintro e w6 ⟨rfl, hb⟩
  have a_8 := Lib.hid (a_7.out.on hb)
  have b_8 := Lib.hid (b_7.out.on hb)
  have l_8 := Lib.hid (l_7.out.on hb)
  have B_8 := Lib.hid (B_7.out.trans (hb.mono B_7.out.size))
  have d_8 := Lib.hid (d_7.out.on hb)
  have x_8 := Lib.hid (x_7.out.on hb)
  have y_8 := Lib.hid (y_7.out.on hb)
  clear a_7 b_7 l_7 B_7 d_7 x_7 y_7
  clear hb
  go_wp2_with fail
  refine (HPA.out _ _ _ a_8.out).mono ?_
  rintro e w7 ⟨rfl, hb⟩
  have a_9 := Lib.hid (a_8.out.on hb)
  have b_9 := Lib.hid (b_8.out.on hb)
  have l_9 := Lib.hid (l_8.out.on hb)
  have B_9 := Lib.hid (B_8.out.trans (hb.mono B_8.out.size))
  have d_9 := Lib.hid (d_8.out.on hb)
  have x_9 := Lib.hid (x_8.out.on hb)
  have y_9 := Lib.hid (y_8.out.on hb)
  clear a_8 b_8 l_8 B_8 d_8 x_8 y_8
  clear hb
  clear b_9
  clear d_9
  go_wp2_with fail
  refine (HMM.out _ _ _ l_9.out).mono ?_
  rintro e w11 ⟨rfl, hb⟩
  have a_10 := Lib.hid (a_9.out.on hb)
  have l_10 := Lib.hid (l_9.out.on hb)
  have B_10 := Lib.hid (B_9.out.trans (hb.mono B_9.out.size))
  have x_10 := Lib.hid (x_9.out.on hb)
  have y_10 := Lib.hid (y_9.out.on hb)
  clear a_9 l_9 B_9 x_9 y_9
  clear hb
  go_wp2_with fail
  go_loopw [14, 15] (fun v i wr => ∃ k : Nat, i = .int .i64 k ∧ k ≤ l.length ∧ Hid (OwnV wr w11.heap.size v ((l.take k).map backM)) ∧ Hid (Below w11.heap.size w11 wr)) (fun _ i _ => l.length - (intOf i).toNat)
  case atStart => exact ⟨0, rfl, Nat.zero_le _, Lib.hid (OwnV.nil _ _), Lib.hid (Below.refl _ _)⟩
  case round =>
    obtain ⟨wq, ewq⟩ : ∃ wq, wq = wr := ⟨_, rfl⟩
    subst ewq
    obtain ⟨k, rfl, hk, HO, hb⟩ := hrel
    by_cases hlt : k < l.length
    · have k0 : (0 : Int) ≤ (k : Int) := by omega
      have k1 : (k : Int) < (l.length : Int) := by omega
      have k2 : decide ((k : Int) < (l.length : Int)) = true := decide_eq_true k1
      obtain ⟨ad, eL, hlo, m⟩ := (l_10.out.on hb.out) k hlt
      have hlo1 : ad.block < w11.heap.size := by
        obtain ⟨ad', e', h', _⟩ := l_10.out k hlt
        rw [eL] at e'
        obtain rfl := Option.some.inj e'
        exact h'
      obtain ⟨m0, m1, m2⟩ := m.flat
      have HNX1 := Lib.hid (HNX.out k hlt)
      have HLN1 := Lib.hid (HLN.out k)
      generalize (l.take k).map backM = Y at *
      generalize mv l k = mm at *
      obtain ⟨mt, mf, mg⟩ := mm
      simp only at m0 m1 m2
      subst eL
      clear m
      go_upto_region 19 with (fail)
      refine z_enter [(0, true), (1, true), (2, true), (3, true), (4, true), (5, true), (6, true), (7, true), (8, true), (9, true), (10, true), (11, true), (12, true), (13, true), (14, true), (15, true), (16, true), (17, false), (18, false), (19, true)] (fun W => W.cell? (ad.add (k * 3)) = some (.string mt) ∧ W.cell? ⟨(ad.add (k * 3)).block, (ad.add (k * 3)).off + 1, none⟩ = some (.int .i64 mf) ∧ W.cell? ⟨(ad.add (k * 3)).block, (ad.add (k * 3)).off + 2, none⟩ = some (.int .i64 mg)) (by kernel_rfl) (by kernel_rfl) (by kernel_rfl) (fun _ _ d _ _ h => by cases d <;> exact h) ⟨m0, m1, m2⟩ ?_
      simp only [pickL, List.drop_succ_cons, List.drop_zero]
      iterate 17 (first | (refine' z_yes ?_ (by rfl) ?_ ?_; rotate_left; (intro w' hS; (try dsimp only at hS); go_simp; try (with_reducible rfl)); simp only [Act.put, List.setIfInBounds_toArray, List.set_cons_zero, List.set_cons_succ]) | (refine z_no (by rfl) ?_; simp only [Act.put, List.setIfInBounds_toArray, List.set_cons_zero, List.set_cons_succ]))
      obtain ⟨wd, hwd⟩ : ∃ wd, wq.drew = wd := ⟨_, rfl⟩
      have hbd : Below wq.heap.size wq wd := by rw [← hwd]; exact (Below.refl _ _).drew
      rw [hwd]
      have n0 := (hbd.cell (World.block_lt_of_cell? _ _ m0)).trans m0
      have n1 := (hbd.cell (World.block_lt_of_cell? _ _ m1)).trans m1
      have n2 := (hbd.cell (World.block_lt_of_cell? _ _ m2)).trans m2
      have HOd := Lib.hid (HO.out.on hbd)
      have HBd := Lib.hid (hb.out.trans (hbd.mono hb.out.size))
      clear hwd hbd HO hb m0 m1 m2 hlo
      refine z_mem ?_
      intro KK hK
      go_simp
      have hbe : Below wd.heap.size wd (wd.alloc (.cells #[.string mt, .int .i64 mg, .int .i64 mf] 39)) := (Below.refl _ _).alloc (Nat.le_refl _) _
      have o0 := (hbe.cell (World.block_lt_of_cell? _ _ n0)).trans n0
      have o1 := (hbe.cell (World.block_lt_of_cell? _ _ n1)).trans n1
      have o2 := (hbe.cell (World.block_lt_of_cell? _ _ n2)).trans n2
      have HVs : Hid (Vs (wd.alloc (.cells #[.string mt, .int .i64 mg, .int .i64 mf] 39)) (some ⟨wd.heap.size, 0, none⟩) [⟨mt, mg, mf⟩]) := Lib.hid (Vs.one wd ⟨mt, mg, mf⟩ _)
      have HOe := Lib.hid (HOd.out.on hbe)
      have HBe := Lib.hid (HBd.out.trans (hbe.mono HBd.out.size))
      refine hK.out _ _ ⟨o0, o1, o2⟩ ?_
      clear hK hbe n0 n1 n2 HOd HBd
      obtain ⟨we, hwe⟩ : ∃ we, wd.alloc (.cells #[.string mt, .int .i64 mg, .int .i64 mf] 39) = we := ⟨_, rfl⟩
      rw [hwe] at o0 o1 o2 HVs HOe HBe ⊢
      clear hwe
      refine z_mem ?_
      intro KK hK
      rw [if_pos (by rfl)]
      refine wp_appendV _ _ rfl w11.heap.size u14 Y rfl HOe.out (some ⟨wd.heap.size, 0, none⟩) 1 [⟨mt, mg, mf⟩] rfl HVs.out (by have := HLN1.out; simp; omega) HBe.out.size ?_
      intro v' w50 ho5 hg5 _
      have hbl : some (ad.add (k * 3)).block ≠ Value.ownBlock u14 := by intro e; have := (HOe.out.ge _ e.symm).1; rw [block_add] at this; omega
      have r0 := (World.cell?_of_block (hg5.block _ (World.block_lt_of_cell? _ _ o0) hbl)).trans o0
      have r1 := (World.cell?_of_block (a := ⟨(ad.add (k * 3)).block, (ad.add (k * 3)).off + 1, none⟩) (hg5.block _ (World.block_lt_of_cell? _ _ o1) hbl)).trans o1
      have r2 := (World.cell?_of_block (a := ⟨(ad.add (k * 3)).block, (ad.add (k * 3)).off + 2, none⟩) (hg5.block _ (World.block_lt_of_cell? _ _ o2) hbl)).trans o2
      have HB5 := Lib.hid (below_grownV HBe.out HOe.out hg5 HBe.out.size (Nat.le_refl _))
      have HO5 : Hid (OwnV w50 w11.heap.size v' ((l.take (k + 1)).map backM)) := Lib.hid (by rw [HNX1.out]; exact ho5)
      clear ho5 hg5 hbl
      refine hK.out _ _ ⟨r0, r1, r2⟩ ?_
      clear hK o0 o1 o2 r0 r1 r2 HOe HBe HVs
      simp only [Act.put, List.setIfInBounds_toArray, List.set_cons_zero, List.set_cons_succ]
      iterate 1 (first | (refine' z_yes ?_ (by rfl) ?_ ?_; rotate_left; (intro w' hS; (try dsimp only at hS); go_simp; try (with_reducible rfl)); simp only [Act.put, List.setIfInBounds_toArray, List.set_cons_zero, List.set_cons_succ]) | (refine z_no (by rfl) ?_; simp only [Act.put, List.setIfInBounds_toArray, List.set_cons_zero, List.set_cons_succ]))
      refine z_nil ?_
      go_wp2_with fail
      go_roundw
      case rel => exact ⟨k + 1, by go_num, by omega, HO5, HB5⟩
      case measure => simp [intOf]; omega
    · obtain rfl : k = l.length := by omega
      have d0 : decide ((l.length : Int) < (l.length : Int)) = false := by simp
      rw [HBE.out] at HO
      obtain ⟨AK, cK, rfl, hcK, hK0⟩ := HO.out.lst
      have HKK := Lib.hid hK0
      have hbb := hb.out
      clear HO hb hK0 HBE HNX HLN
      have a_11 := Lib.hid (a_10.out.on hbb)
      have l_11 := Lib.hid (l_10.out.on hbb)
      have B_11 := Lib.hid (B_10.out.trans (hbb.mono B_10.out.size))
      have x_11 := Lib.hid (x_10.out.on hbb)
      have y_11 := Lib.hid (y_10.out.on hbb)
      clear a_10 l_10 B_10 x_10 y_10
      clear hbb
      go_wp2_with fail
      refine (HSB.out _ _ _ _ _ y_11.out HKK.out).mono ?_
      rintro e w12 ⟨rfl, hb⟩
      clear y_11
      have a_12 := Lib.hid (a_11.out.on hb)
      have l_12 := Lib.hid (l_11.out.on hb)
      have B_12 := Lib.hid (B_11.out.trans (hb.mono B_11.out.size))
      have x_12 := Lib.hid (x_11.out.on hb)
      clear a_11 l_11 B_11 x_11
      clear hb
      clear HKK
      go_wp2_with fail
      refine (HPA.out _ _ _ a_12.out).mono ?_
      rintro e w13 ⟨rfl, hb⟩
      have a_13 := Lib.hid (a_12.out.on hb)
      have l_13 := Lib.hid (l_12.out.on hb)
      have B_13 := Lib.hid (B_12.out.trans (hb.mono B_12.out.size))
      have x_13 := Lib.hid (x_12.out.on hb)
      clear a_12 l_12 B_12 x_12
      clear hb
      go_wp2_with fail
      refine (awake_any _).mono ?_
      rintro e w99 ⟨rfl, hb99⟩
      go_wp2_with fail
      go_ret
      exact ⟨rfl, B_13.out.trans (hb99.mono B_13.out.size)⟩

set_option maxRecDepth 100000 in
set_option maxHeartbeats 4000000 in
theorem w_a2 (A : Option Addr) (ca : Nat) (a0 : List Pu) (B : Option Addr) (cb : Nat) (b0 : List Pu) (L : Option Addr) (cl : Nat) (l0 : List Mv) (w : World) (hca : a0.length ≤ ca) (hma : ca ≤ maxLen) (ha : Us w A a0) (sa : ShrtU a0) (hcb : b0.length ≤ cb) (hmb : cb ≤ maxLen) (hb : Us w B b0) (sb : ShrtU b0) (hcl : l0.length ≤ cl) (hml : cl ≤ maxLen) (hl : Vs w L l0) (sl : FitV l0) (h1 : putB (a0.take 101) = false) (h2 : putB (b0.take 101) = true) (h3 : movB (l0.take 101) = false) :
    Calls Try.prog 3 #[.slice A a0.length ca, .slice B b0.length cb, .slice L l0.length cl] w fun e w' => e = .returned (.bool true) ∧ Below w.heap.size w w' := by
  have HPa := Lib.hid (puts_any A ca a0 w hca hma ha)
  rw [← take_len a0] at HPa
  have Ha_0 := Lib.hid (ha.take 101)
  have Sa := (sa.take 101).map
  have hla : (a0.take 101).length ≤ 101 := by rw [take_len]; omega
  have HPb := Lib.hid (puts_any B cb b0 w hcb hmb hb)
  rw [← take_len b0] at HPb
  have Hb_0 := Lib.hid (hb.take 101)
  have Sb := (sb.take 101).map
  have hlb : (b0.take 101).length ≤ 101 := by rw [take_len]; omega
  have HPl := Lib.hid (moves_any L cl l0 w hcl hml hl)
  rw [← take_len l0] at HPl
  have Hl_0 := Lib.hid (hl.take 101)
  have Sl := (sl.take 101).map
  have hll : (l0.take 101).length ≤ 101 := by rw [take_len]; omega
  generalize a0.take 101 = a at *
  generalize b0.take 101 = b at *
  generalize l0.take 101 = l at *
  generalize a0.length = na at *
  generalize b0.length = nb at *
  generalize l0.length = nl at *
  have B_0 := Lib.hid (Below.refl w.heap.size w)
  clear hca hma ha sa
  clear hcb hmb hb sb
  clear hcl hml hl sl
  have HD := Lib.hid (fun (A B : Option Addr) (ca cb : Nat) (W : World) (hA : Us W A a) (hB : Us W B b) => diff_any A B ca cb a b W (by omega) (by omega) hA hB Sa Sb)
  have HA := Lib.hid (fun (A B : Option Addr) (ca cb : Nat) (W : World) (hA : Us W A a) (hB : Vs W B l) => apply_any A B ca cb a l W (by omega) (by omega) hA hB Sa Sl)
  have HK := Lib.hid (fun (A : Option Addr) (ca : Nat) (W : World) (hA : Vs W A l) => back_any A ca l W (by omega) hA Sl)
  have HCK := Lib.hid (fun (A : Option Addr) (c : Nat) (W : World) (h : Vs W A l) => chkV_any A c l W (by omega) h Sl false h3)
  have HMM := Lib.hid (fun (A : Option Addr) (c : Nat) (W : World) (h : Vs W A l) => rmayV_any A c l W (by omega) h Sl false h3)
  have HPA := Lib.hid (fun (A : Option Addr) (c : Nat) (W : World) (h : Us W A a) => rmay_any A c a W (by omega) h Sa false h1)
  have HPB := Lib.hid (fun (A : Option Addr) (c : Nat) (W : World) (h : Us W A b) => rmay_any A c b W (by omega) h Sb true h2)
  have ok1 : okE false = 1 := rfl
  have e1 : dE a b = 1 := by unfold dE; rw [h1, h2]; rfl
  have e2 : dR a b = [] := dR_of (by rw [e1]; decide)
  rw [e1, e2] at HD
  have e3 : bE l = 1 := by unfold bE; rw [h3]; rfl
  have e4 : bR l = [] := by unfold bR; rw [h3]; rfl
  rw [e3, e4] at HK
  have e5 : aE a l = 1 := by unfold aE; rw [h1, h3]; rfl
  have e6 : aR a l = [] := aR_of (by rw [e5]; decide)
  rw [e5, e6] at HA
  clear Sa Sb Sl h1 h2 h3 e1 e2 e3 e4 e5 e6 hla hlb
  go_enter Try.func3, Try.ntmps3
  go_wp2_with fail
  refine HPa.out.mono ?_
  rintro e w0 ⟨rfl, rfl⟩
  go_wp2_with fail
  refine HPb.out.mono ?_
  rintro e w0 ⟨rfl, rfl⟩
  go_wp2_with fail
  refine HPl.out.mono ?_
  rintro e w0 ⟨rfl, rfl⟩
  clear HPa HPb HPl
  go_wp2_with fail
  refine (HD.out _ _ _ _ _ Ha_0.out Hb_0.out).mono ?_
  rintro e w2 ⟨v2, rfl, ho, hb⟩
  have a_1 := Lib.hid (Ha_0.out.on hb)
  have b_1 := Lib.hid (Hb_0.out.on hb)
  have l_1 := Lib.hid (Hl_0.out.on hb)
  have B_1 := Lib.hid (B_0.out.trans (hb.mono B_0.out.size))
  clear Ha_0 Hb_0 Hl_0 B_0
  obtain ⟨Ad, kd, rfl, hkd, hu⟩ := ho.lst
  have d_2 := Lib.hid (hu)
  clear ho hu
  clear hb
  go_wp2_with fail
  refine (HA.out _ _ _ _ _ a_1.out l_1.out).mono ?_
  rintro e w3 ⟨v3, rfl, ho, hb⟩
  have a_3 := Lib.hid (a_1.out.on hb)
  have b_3 := Lib.hid (b_1.out.on hb)
  have l_3 := Lib.hid (l_1.out.on hb)
  have B_3 := Lib.hid (B_1.out.trans (hb.mono B_1.out.size))
  have d_3 := Lib.hid (d_2.out.on hb)
  clear a_1 b_1 l_1 B_1 d_2
  obtain ⟨Ax, kx, rfl, hkx, hu⟩ := ho.lst
  have x_4 := Lib.hid (hu)
  clear ho hu
  clear hb
  go_wp2_with fail
  refine (HK.out _ _ _ l_3.out).mono ?_
  rintro e w4 ⟨v4, rfl, ho, hb⟩
  have a_5 := Lib.hid (a_3.out.on hb)
  have b_5 := Lib.hid (b_3.out.on hb)
  have l_5 := Lib.hid (l_3.out.on hb)
  have B_5 := Lib.hid (B_3.out.trans (hb.mono B_3.out.size))
  have d_5 := Lib.hid (d_3.out.on hb)
  have x_5 := Lib.hid (x_4.out.on hb)
  clear a_3 b_3 l_3 B_3 d_3 x_4
  obtain ⟨Ay, ky, rfl, hky, hu⟩ := ho.lst
  have y_6 := Lib.hid (hu)
  clear ho hu
  clear hb
  go_wp2_with fail
  refine (HCK.out _ _ _ l_5.out).mono ?_
  rintro e w5 ⟨rfl, hb⟩
  have a_7 := Lib.hid (a_5.out.on hb)
  have b_7 := Lib.hid (b_5.out.on hb)
  have l_7 := Lib.hid (l_5.out.on hb)
  have B_7 := Lib.hid (B_5.out.trans (hb.mono B_5.out.size))
  have d_7 := Lib.hid (d_5.out.on hb)
  have x_7 := Lib.hid (x_5.out.on hb)
  have y_7 := Lib.hid (y_6.out.on hb)
  clear a_5 b_5 l_5 B_5 d_5 x_5 y_6
  clear hb
  go_wp2_with fail
  refine (HMM.out _ _ _ l_7.out).mono ?_
  rintro e w6 ⟨rfl, hb⟩
  have a_8 := Lib.hid (a_7.out.on hb)
  have b_8 := Lib.hid (b_7.out.on hb)
  have l_8 := Lib.hid (l_7.out.on hb)
  have B_8 := Lib.hid (B_7.out.trans (hb.mono B_7.out.size))
  have d_8 := Lib.hid (d_7.out.on hb)
  have x_8 := Lib.hid (x_7.out.on hb)
  have y_8 := Lib.hid (y_7.out.on hb)
  clear a_7 b_7 l_7 B_7 d_7 x_7 y_7
  clear hb
  go_wp2_with fail
  refine (HPA.out _ _ _ a_8.out).mono ?_
  rintro e w7 ⟨rfl, hb⟩
  have a_9 := Lib.hid (a_8.out.on hb)
  have b_9 := Lib.hid (b_8.out.on hb)
  have l_9 := Lib.hid (l_8.out.on hb)
  have B_9 := Lib.hid (B_8.out.trans (hb.mono B_8.out.size))
  have d_9 := Lib.hid (d_8.out.on hb)
  have x_9 := Lib.hid (x_8.out.on hb)
  have y_9 := Lib.hid (y_8.out.on hb)
  clear a_8 b_8 l_8 B_8 d_8 x_8 y_8
  clear hb
  clear b_9
  clear d_9
  go_wp2_with fail
  refine (HMM.out _ _ _ l_9.out).mono ?_
  rintro e w11 ⟨rfl, hb⟩
  have a_10 := Lib.hid (a_9.out.on hb)
  have l_10 := Lib.hid (l_9.out.on hb)
  have B_10 := Lib.hid (B_9.out.trans (hb.mono B_9.out.size))
  have x_10 := Lib.hid (x_9.out.on hb)
  have y_10 := Lib.hid (y_9.out.on hb)
  clear a_9 l_9 B_9 x_9 y_9
  clear hb
  go_wp2_with fail
  refine (awake_any _).mono ?_
  rintro e w99 ⟨rfl, hb99⟩
  go_wp2_with fail
  go_ret
  exact ⟨rfl, B_10.out.trans (hb99.mono B_10.out.size)⟩

set_option maxRecDepth 100000 in
set_option maxHeartbeats 4000000 in
theorem w_a3 (A : Option Addr) (ca : Nat) (a0 : List Pu) (B : Option Addr) (cb : Nat) (b0 : List Pu) (L : Option Addr) (cl : Nat) (l0 : List Mv) (w : World) (hca : a0.length ≤ ca) (hma : ca ≤ maxLen) (ha : Us w A a0) (sa : ShrtU a0) (hcb : b0.length ≤ cb) (hmb : cb ≤ maxLen) (hb : Us w B b0) (sb : ShrtU b0) (hcl : l0.length ≤ cl) (hml : cl ≤ maxLen) (hl : Vs w L l0) (sl : FitV l0) (h1 : putB (a0.take 101) = false) (h2 : putB (b0.take 101) = true) (h3 : movB (l0.take 101) = true) :
    Calls Try.prog 3 #[.slice A a0.length ca, .slice B b0.length cb, .slice L l0.length cl] w fun e w' => e = .returned (.bool true) ∧ Below w.heap.size w w' := by
  have HPa := Lib.hid (puts_any A ca a0 w hca hma ha)
  rw [← take_len a0] at HPa
  have Ha_0 := Lib.hid (ha.take 101)
  have Sa := (sa.take 101).map
  have hla : (a0.take 101).length ≤ 101 := by rw [take_len]; omega
  have HPb := Lib.hid (puts_any B cb b0 w hcb hmb hb)
  rw [← take_len b0] at HPb
  have Hb_0 := Lib.hid (hb.take 101)
  have Sb := (sb.take 101).map
  have hlb : (b0.take 101).length ≤ 101 := by rw [take_len]; omega
  have HPl := Lib.hid (moves_any L cl l0 w hcl hml hl)
  rw [← take_len l0] at HPl
  have Hl_0 := Lib.hid (hl.take 101)
  have Sl := (sl.take 101).map
  have hll : (l0.take 101).length ≤ 101 := by rw [take_len]; omega
  generalize a0.take 101 = a at *
  generalize b0.take 101 = b at *
  generalize l0.take 101 = l at *
  generalize a0.length = na at *
  generalize b0.length = nb at *
  generalize l0.length = nl at *
  have B_0 := Lib.hid (Below.refl w.heap.size w)
  clear hca hma ha sa
  clear hcb hmb hb sb
  clear hcl hml hl sl
  have HD := Lib.hid (fun (A B : Option Addr) (ca cb : Nat) (W : World) (hA : Us W A a) (hB : Us W B b) => diff_any A B ca cb a b W (by omega) (by omega) hA hB Sa Sb)
  have HA := Lib.hid (fun (A B : Option Addr) (ca cb : Nat) (W : World) (hA : Us W A a) (hB : Vs W B l) => apply_any A B ca cb a l W (by omega) (by omega) hA hB Sa Sl)
  have HK := Lib.hid (fun (A : Option Addr) (ca : Nat) (W : World) (hA : Vs W A l) => back_any A ca l W (by omega) hA Sl)
  have HCK := Lib.hid (fun (A : Option Addr) (c : Nat) (W : World) (h : Vs W A l) => chkV_any A c l W (by omega) h Sl true h3)
  have HMM := Lib.hid (fun (A : Option Addr) (c : Nat) (W : World) (h : Vs W A l) => rmayV_any A c l W (by omega) h Sl true h3)
  have HPA := Lib.hid (fun (A : Option Addr) (c : Nat) (W : World) (h : Us W A a) => rmay_any A c a W (by omega) h Sa false h1)
  have HPB := Lib.hid (fun (A : Option Addr) (c : Nat) (W : World) (h : Us W A b) => rmay_any A c b W (by omega) h Sb true h2)
  have ok1 : okE true = 0 := rfl
  have e1 : dE a b = 1 := by unfold dE; rw [h1, h2]; rfl
  have e2 : dR a b = [] := dR_of (by rw [e1]; decide)
  rw [e1, e2] at HD
  have e3 : bE l = 0 := by unfold bE; rw [if_pos h3]
  have e4 : bR l = backP l := by unfold bR; rw [if_pos h3]
  rw [e3, e4] at HK
  have e5 : aE a l = 1 := by unfold aE; rw [h1, h3]; rfl
  have e6 : aR a l = [] := aR_of (by rw [e5]; decide)
  rw [e5, e6] at HA
  have hkl : (backP l).length ≤ 101 := by rw [backP_len]; omega
  have HSB := Lib.hid (fun (A B : Option Addr) (ca cb : Nat) (W : World) (hA : Vs W A (backP l)) (hB : Vs W B (backP l)) => same_mvs A B ca cb _ _ W (by omega) hA hB true (by simp))
  have HBE : Hid ((l.take l.length).map backM = backP l) := Lib.hid (by rw [List.take_length]; rfl)
  have HNX := Lib.hid (back_next l)
  have HLN : Hid (∀ k, ((l.take k).map backM).length ≤ k) := Lib.hid (fun k => by simp; omega)
  generalize backP l = K at *
  clear Sa Sb Sl h1 h2 h3 e1 e2 e3 e4 e5 e6 hkl hla hlb
  go_enter Try.func3, Try.ntmps3
  go_wp2_with fail
  refine HPa.out.mono ?_
  rintro e w0 ⟨rfl, rfl⟩
  go_wp2_with fail
  refine HPb.out.mono ?_
  rintro e w0 ⟨rfl, rfl⟩
  go_wp2_with fail
  refine HPl.out.mono ?_
  rintro e w0 ⟨rfl, rfl⟩
  clear HPa HPb HPl
  go_wp2_with fail
  refine (HD.out _ _ _ _ _ Ha_0.out Hb_0.out).mono ?_
  rintro e w2 ⟨v2, rfl, ho, hb⟩
  have a_1 := Lib.hid (Ha_0.out.on hb)
  have b_1 := Lib.hid (Hb_0.out.on hb)
  have l_1 := Lib.hid (Hl_0.out.on hb)
  have B_1 := Lib.hid (B_0.out.trans (hb.mono B_0.out.size))
  clear Ha_0 Hb_0 Hl_0 B_0
  obtain ⟨Ad, kd, rfl, hkd, hu⟩ := ho.lst
  have d_2 := Lib.hid (hu)
  clear ho hu
  clear hb
  go_wp2_with fail
  refine (HA.out _ _ _ _ _ a_1.out l_1.out).mono ?_
  rintro e w3 ⟨v3, rfl, ho, hb⟩
  have a_3 := Lib.hid (a_1.out.on hb)
  have b_3 := Lib.hid (b_1.out.on hb)
  have l_3 := Lib.hid (l_1.out.on hb)
  have B_3 := Lib.hid (B_1.out.trans (hb.mono B_1.out.size))
  have d_3 := Lib.hid (d_2.out.on hb)
  clear a_1 b_1 l_1 B_1 d_2
  obtain ⟨Ax, kx, rfl, hkx, hu⟩ := ho.lst
  have x_4 := Lib.hid (hu)
  clear ho hu
  clear hb
  go_wp2_with fail
  refine (HK.out _ _ _ l_3.out).mono ?_
  rintro e w4 ⟨v4, rfl, ho, hb⟩
  have a_5 := Lib.hid (a_3.out.on hb)
  have b_5 := Lib.hid (b_3.out.on hb)
  have l_5 := Lib.hid (l_3.out.on hb)
  have B_5 := Lib.hid (B_3.out.trans (hb.mono B_3.out.size))
  have d_5 := Lib.hid (d_3.out.on hb)
  have x_5 := Lib.hid (x_4.out.on hb)
  clear a_3 b_3 l_3 B_3 d_3 x_4
  obtain ⟨Ay, ky, rfl, hky, hu⟩ := ho.lst
  have y_6 := Lib.hid (hu)
  clear ho hu
  clear hb
  go_wp2_with fail
  refine (HCK.out _ _ _ l_5.out).mono ?_
  rintro e w5 ⟨rfl, hb⟩
  have a_7 := Lib.hid (a_5.out.on hb)
  have b_7 := Lib.hid (b_5.out.on hb)
  have l_7 := Lib.hid (l_5.out.on hb)
  have B_7 := Lib.hid (B_5.out.trans (hb.mono B_5.out.size))
  have d_7 := Lib.hid (d_5.out.on hb)
  have x_7 := Lib.hid (x_5.out.on hb)
  have y_7 := Lib.hid (y_6.out.on hb)
  clear a_5 b_5 l_5 B_5 d_5 x_5 y_6
  clear hb
  go_wp2_with fail
  refine (HMM.out _ _ _ l_7.out).mono ?_
  rintro e w6 ⟨rfl, hb⟩
  have a_8 := Lib.hid (a_7.out.on hb)
  have b_8 := Lib.hid (b_7.out.on hb)
  have l_8 := Lib.hid (l_7.out.on hb)
  have B_8 := Lib.hid (B_7.out.trans (hb.mono B_7.out.size))
  have d_8 := Lib.hid (d_7.out.on hb)
  have x_8 := Lib.hid (x_7.out.on hb)
  have y_8 := Lib.hid (y_7.out.on hb)
  clear a_7 b_7 l_7 B_7 d_7 x_7 y_7
  clear hb
  go_wp2_with fail
  refine (HPA.out _ _ _ a_8.out).mono ?_
  rintro e w7 ⟨rfl, hb⟩
  have a_9 := Lib.hid (a_8.out.on hb)
  have b_9 := Lib.hid (b_8.out.on hb)
  have l_9 := Lib.hid (l_8.out.on hb)
  have B_9 := Lib.hid (B_8.out.trans (hb.mono B_8.out.size))
  have d_9 := Lib.hid (d_8.out.on hb)
  have x_9 := Lib.hid (x_8.out.on hb)
  have y_9 := Lib.hid (y_8.out.on hb)
  clear a_8 b_8 l_8 B_8 d_8 x_8 y_8
  clear hb
  clear b_9
  clear d_9
  go_wp2_with fail
  refine (HMM.out _ _ _ l_9.out).mono ?_
  rintro e w11 ⟨rfl, hb⟩
  have a_10 := Lib.hid (a_9.out.on hb)
  have l_10 := Lib.hid (l_9.out.on hb)
  have B_10 := Lib.hid (B_9.out.trans (hb.mono B_9.out.size))
  have x_10 := Lib.hid (x_9.out.on hb)
  have y_10 := Lib.hid (y_9.out.on hb)
  clear a_9 l_9 B_9 x_9 y_9
  clear hb
  go_wp2_with fail
  go_loopw [14, 15] (fun v i wr => ∃ k : Nat, i = .int .i64 k ∧ k ≤ l.length ∧ Hid (OwnV wr w11.heap.size v ((l.take k).map backM)) ∧ Hid (Below w11.heap.size w11 wr)) (fun _ i _ => l.length - (intOf i).toNat)
  case atStart => exact ⟨0, rfl, Nat.zero_le _, Lib.hid (OwnV.nil _ _), Lib.hid (Below.refl _ _)⟩
  case round =>
    obtain ⟨wq, ewq⟩ : ∃ wq, wq = wr := ⟨_, rfl⟩
    subst ewq
    obtain ⟨k, rfl, hk, HO, hb⟩ := hrel
    by_cases hlt : k < l.length
    · have k0 : (0 : Int) ≤ (k : Int) := by omega
      have k1 : (k : Int) < (l.length : Int) := by omega
      have k2 : decide ((k : Int) < (l.length : Int)) = true := decide_eq_true k1
      obtain ⟨ad, eL, hlo, m⟩ := (l_10.out.on hb.out) k hlt
      have hlo1 : ad.block < w11.heap.size := by
        obtain ⟨ad', e', h', _⟩ := l_10.out k hlt
        rw [eL] at e'
        obtain rfl := Option.some.inj e'
        exact h'
      obtain ⟨m0, m1, m2⟩ := m.flat
      have HNX1 := Lib.hid (HNX.out k hlt)
      have HLN1 := Lib.hid (HLN.out k)
      generalize (l.take k).map backM = Y at *
      generalize mv l k = mm at *
      obtain ⟨mt, mf, mg⟩ := mm
      simp only at m0 m1 m2
      subst eL
      clear m
      go_upto_region 19 with (fail)
      refine z_enter [(0, true), (1, true), (2, true), (3, true), (4, true), (5, true), (6, true), (7, true), (8, true), (9, true), (10, true), (11, true), (12, true), (13, true), (14, true), (15, true), (16, true), (17, false), (18, false), (19, true)] (fun W => W.cell? (ad.add (k * 3)) = some (.string mt) ∧ W.cell? ⟨(ad.add (k * 3)).block, (ad.add (k * 3)).off + 1, none⟩ = some (.int .i64 mf) ∧ W.cell? ⟨(ad.add (k * 3)).block, (ad.add (k * 3)).off + 2, none⟩ = some (.int .i64 mg)) (by kernel_rfl) (by kernel_rfl) (by kernel_rfl) (fun _ _ d _ _ h => by cases d <;> exact h) ⟨m0, m1, m2⟩ ?_
      simp only [pickL, List.drop_succ_cons, List.drop_zero]
      iterate 17 (first | (refine' z_yes ?_ (by rfl) ?_ ?_; rotate_left; (intro w' hS; (try dsimp only at hS); go_simp; try (with_reducible rfl)); simp only [Act.put, List.setIfInBounds_toArray, List.set_cons_zero, List.set_cons_succ]) | (refine z_no (by rfl) ?_; simp only [Act.put, List.setIfInBounds_toArray, List.set_cons_zero, List.set_cons_succ]))
      obtain ⟨wd, hwd⟩ : ∃ wd, wq.drew = wd := ⟨_, rfl⟩
      have hbd : Below wq.heap.size wq wd := by rw [← hwd]; exact (Below.refl _ _).drew
      rw [hwd]
      have n0 := (hbd.cell (World.block_lt_of_cell? _ _ m0)).trans m0
      have n1 := (hbd.cell (World.block_lt_of_cell? _ _ m1)).trans m1
      have n2 := (hbd.cell (World.block_lt_of_cell? _ _ m2)).trans m2
      have HOd := Lib.hid (HO.out.on hbd)
      have HBd := Lib.hid (hb.out.trans (hbd.mono hb.out.size))
      clear hwd hbd HO hb m0 m1 m2 hlo
      refine z_mem ?_
      intro KK hK
      go_simp
      have hbe : Below wd.heap.size wd (wd.alloc (.cells #[.string mt, .int .i64 mg, .int .i64 mf] 39)) := (Below.refl _ _).alloc (Nat.le_refl _) _
      have o0 := (hbe.cell (World.block_lt_of_cell? _ _ n0)).trans n0
      have o1 := (hbe.cell (World.block_lt_of_cell? _ _ n1)).trans n1
      have o2 := (hbe.cell (World.block_lt_of_cell? _ _ n2)).trans n2
      have HVs : Hid (Vs (wd.alloc (.cells #[.string mt, .int .i64 mg, .int .i64 mf] 39)) (some ⟨wd.heap.size, 0, none⟩) [⟨mt, mg, mf⟩]) := Lib.hid (Vs.one wd ⟨mt, mg, mf⟩ _)
      have HOe := Lib.hid (HOd.out.on hbe)
      have HBe := Lib.hid (HBd.out.trans (hbe.mono HBd.out.size))
      refine hK.out _ _ ⟨o0, o1, o2⟩ ?_
      clear hK hbe n0 n1 n2 HOd HBd
      obtain ⟨we, hwe⟩ : ∃ we, wd.alloc (.cells #[.string mt, .int .i64 mg, .int .i64 mf] 39) = we := ⟨_, rfl⟩
      rw [hwe] at o0 o1 o2 HVs HOe HBe ⊢
      clear hwe
      refine z_mem ?_
      intro KK hK
      rw [if_pos (by rfl)]
      refine wp_appendV _ _ rfl w11.heap.size u14 Y rfl HOe.out (some ⟨wd.heap.size, 0, none⟩) 1 [⟨mt, mg, mf⟩] rfl HVs.out (by have := HLN1.out; simp; omega) HBe.out.size ?_
      intro v' w50 ho5 hg5 _
      have hbl : some (ad.add (k * 3)).block ≠ Value.ownBlock u14 := by intro e; have := (HOe.out.ge _ e.symm).1; rw [block_add] at this; omega
      have r0 := (World.cell?_of_block (hg5.block _ (World.block_lt_of_cell? _ _ o0) hbl)).trans o0
      have r1 := (World.cell?_of_block (a := ⟨(ad.add (k * 3)).block, (ad.add (k * 3)).off + 1, none⟩) (hg5.block _ (World.block_lt_of_cell? _ _ o1) hbl)).trans o1
      have r2 := (World.cell?_of_block (a := ⟨(ad.add (k * 3)).block, (ad.add (k * 3)).off + 2, none⟩) (hg5.block _ (World.block_lt_of_cell? _ _ o2) hbl)).trans o2
      have HB5 := Lib.hid (below_grownV HBe.out HOe.out hg5 HBe.out.size (Nat.le_refl _))
      have HO5 : Hid (OwnV w50 w11.heap.size v' ((l.take (k + 1)).map backM)) := Lib.hid (by rw [HNX1.out]; exact ho5)
      clear ho5 hg5 hbl
      refine hK.out _ _ ⟨r0, r1, r2⟩ ?_
      clear hK o0 o1 o2 r0 r1 r2 HOe HBe HVs
      simp only [Act.put, List.setIfInBounds_toArray, List.set_cons_zero, List.set_cons_succ]
      iterate 1 (first | (refine' z_yes ?_ (by rfl) ?_ ?_; rotate_left; (intro w' hS; (try dsimp only at hS); go_simp; try (with_reducible rfl)); simp only [Act.put, List.setIfInBounds_toArray, List.set_cons_zero, List.set_cons_succ]) | (refine z_no (by rfl) ?_; simp only [Act.put, List.setIfInBounds_toArray, List.set_cons_zero, List.set_cons_succ]))
      refine z_nil ?_
      go_wp2_with fail
      go_roundw
      case rel => exact ⟨k + 1, by go_num, by omega, HO5, HB5⟩
      case measure => simp [intOf]; omega
    · obtain rfl : k = l.length := by omega
      have d0 : decide ((l.length : Int) < (l.length : Int)) = false := by simp
      rw [HBE.out] at HO
      obtain ⟨AK, cK, rfl, hcK, hK0⟩ := HO.out.lst
      have HKK := Lib.hid hK0
      have hbb := hb.out
      clear HO hb hK0 HBE HNX HLN
      have a_11 := Lib.hid (a_10.out.on hbb)
      have l_11 := Lib.hid (l_10.out.on hbb)
      have B_11 := Lib.hid (B_10.out.trans (hbb.mono B_10.out.size))
      have x_11 := Lib.hid (x_10.out.on hbb)
      have y_11 := Lib.hid (y_10.out.on hbb)
      clear a_10 l_10 B_10 x_10 y_10
      clear hbb
      go_wp2_with fail
      refine (HSB.out _ _ _ _ _ y_11.out HKK.out).mono ?_
      rintro e w12 ⟨rfl, hb⟩
      clear y_11
      have a_12 := Lib.hid (a_11.out.on hb)
      have l_12 := Lib.hid (l_11.out.on hb)
      have B_12 := Lib.hid (B_11.out.trans (hb.mono B_11.out.size))
      have x_12 := Lib.hid (x_11.out.on hb)
      clear a_11 l_11 B_11 x_11
      clear hb
      clear HKK
      go_wp2_with fail
      refine (HPA.out _ _ _ a_12.out).mono ?_
      rintro e w13 ⟨rfl, hb⟩
      have a_13 := Lib.hid (a_12.out.on hb)
      have l_13 := Lib.hid (l_12.out.on hb)
      have B_13 := Lib.hid (B_12.out.trans (hb.mono B_12.out.size))
      have x_13 := Lib.hid (x_12.out.on hb)
      clear a_12 l_12 B_12 x_12
      clear hb
      go_wp2_with fail
      refine (awake_any _).mono ?_
      rintro e w99 ⟨rfl, hb99⟩
      go_wp2_with fail
      go_ret
      exact ⟨rfl, B_13.out.trans (hb99.mono B_13.out.size)⟩

set_option maxRecDepth 100000 in
set_option maxHeartbeats 4000000 in
theorem w_b0 (A : Option Addr) (ca : Nat) (a0 : List Pu) (B : Option Addr) (cb : Nat) (b0 : List Pu) (L : Option Addr) (cl : Nat) (l0 : List Mv) (w : World) (hca : a0.length ≤ ca) (hma : ca ≤ maxLen) (ha : Us w A a0) (sa : ShrtU a0) (hcb : b0.length ≤ cb) (hmb : cb ≤ maxLen) (hb : Us w B b0) (sb : ShrtU b0) (hcl : l0.length ≤ cl) (hml : cl ≤ maxLen) (hl : Vs w L l0) (sl : FitV l0) (h1 : putB (a0.take 101) = true) (h2 : putB (b0.take 101) = false) (h3 : movB (l0.take 101) = false) :
    Calls Try.prog 3 #[.slice A a0.length ca, .slice B b0.length cb, .slice L l0.length cl] w fun e w' => e = .returned (.bool true) ∧ Below w.heap.size w w' := by
  have HPa := Lib.hid (puts_any A ca a0 w hca hma ha)
  rw [← take_len a0] at HPa
  have Ha_0 := Lib.hid (ha.take 101)
  have Sa := (sa.take 101).map
  have hla : (a0.take 101).length ≤ 101 := by rw [take_len]; omega
  have HPb := Lib.hid (puts_any B cb b0 w hcb hmb hb)
  rw [← take_len b0] at HPb
  have Hb_0 := Lib.hid (hb.take 101)
  have Sb := (sb.take 101).map
  have hlb : (b0.take 101).length ≤ 101 := by rw [take_len]; omega
  have HPl := Lib.hid (moves_any L cl l0 w hcl hml hl)
  rw [← take_len l0] at HPl
  have Hl_0 := Lib.hid (hl.take 101)
  have Sl := (sl.take 101).map
  have hll : (l0.take 101).length ≤ 101 := by rw [take_len]; omega
  generalize a0.take 101 = a at *
  generalize b0.take 101 = b at *
  generalize l0.take 101 = l at *
  generalize a0.length = na at *
  generalize b0.length = nb at *
  generalize l0.length = nl at *
  have B_0 := Lib.hid (Below.refl w.heap.size w)
  clear hca hma ha sa
  clear hcb hmb hb sb
  clear hcl hml hl sl
  have HD := Lib.hid (fun (A B : Option Addr) (ca cb : Nat) (W : World) (hA : Us W A a) (hB : Us W B b) => diff_any A B ca cb a b W (by omega) (by omega) hA hB Sa Sb)
  have HA := Lib.hid (fun (A B : Option Addr) (ca cb : Nat) (W : World) (hA : Us W A a) (hB : Vs W B l) => apply_any A B ca cb a l W (by omega) (by omega) hA hB Sa Sl)
  have HK := Lib.hid (fun (A : Option Addr) (ca : Nat) (W : World) (hA : Vs W A l) => back_any A ca l W (by omega) hA Sl)
  have HCK := Lib.hid (fun (A : Option Addr) (c : Nat) (W : World) (h : Vs W A l) => chkV_any A c l W (by omega) h Sl false h3)
  have HMM := Lib.hid (fun (A : Option Addr) (c : Nat) (W : World) (h : Vs W A l) => rmayV_any A c l W (by omega) h Sl false h3)
  have HPA := Lib.hid (fun (A : Option Addr) (c : Nat) (W : World) (h : Us W A a) => rmay_any A c a W (by omega) h Sa true h1)
  have HPB := Lib.hid (fun (A : Option Addr) (c : Nat) (W : World) (h : Us W A b) => rmay_any A c b W (by omega) h Sb false h2)
  have ok1 : okE false = 1 := rfl
  have e1 : dE a b = 1 := by unfold dE; rw [h1, h2]; rfl
  have e2 : dR a b = [] := dR_of (by rw [e1]; decide)
  rw [e1, e2] at HD
  have e3 : bE l = 1 := by unfold bE; rw [h3]; rfl
  have e4 : bR l = [] := by unfold bR; rw [h3]; rfl
  rw [e3, e4] at HK
  have e5 : aE a l = 1 := by unfold aE; rw [h1, h3]; rfl
  have e6 : aR a l = [] := aR_of (by rw [e5]; decide)
  rw [e5, e6] at HA
  clear Sa Sb Sl h1 h2 h3 e1 e2 e3 e4 e5 e6 hla hlb
  go_enter Try.func3, Try.ntmps3
  go_wp2_with fail
  refine HPa.out.mono ?_
  rintro e w0 ⟨rfl, rfl⟩
  go_wp2_with fail
  refine HPb.out.mono ?_
  rintro e w0 ⟨rfl, rfl⟩
  go_wp2_with fail
  refine HPl.out.mono ?_
  rintro e w0 ⟨rfl, rfl⟩
  clear HPa HPb HPl
  go_wp2_with fail
  refine (HD.out _ _ _ _ _ Ha_0.out Hb_0.out).mono ?_
  rintro e w2 ⟨v2, rfl, ho, hb⟩
  have a_1 := Lib.hid (Ha_0.out.on hb)
  have b_1 := Lib.hid (Hb_0.out.on hb)
  have l_1 := Lib.hid (Hl_0.out.on hb)
  have B_1 := Lib.hid (B_0.out.trans (hb.mono B_0.out.size))
  clear Ha_0 Hb_0 Hl_0 B_0
  obtain ⟨Ad, kd, rfl, hkd, hu⟩ := ho.lst
  have d_2 := Lib.hid (hu)
  clear ho hu
  clear hb
  go_wp2_with fail
  refine (HA.out _ _ _ _ _ a_1.out l_1.out).mono ?_
  rintro e w3 ⟨v3, rfl, ho, hb⟩
  have a_3 := Lib.hid (a_1.out.on hb)
  have b_3 := Lib.hid (b_1.out.on hb)
  have l_3 := Lib.hid (l_1.out.on hb)
  have B_3 := Lib.hid (B_1.out.trans (hb.mono B_1.out.size))
  have d_3 := Lib.hid (d_2.out.on hb)
  clear a_1 b_1 l_1 B_1 d_2
  obtain ⟨Ax, kx, rfl, hkx, hu⟩ := ho.lst
  have x_4 := Lib.hid (hu)
  clear ho hu
  clear hb
  go_wp2_with fail
  refine (HK.out _ _ _ l_3.out).mono ?_
  rintro e w4 ⟨v4, rfl, ho, hb⟩
  have a_5 := Lib.hid (a_3.out.on hb)
  have b_5 := Lib.hid (b_3.out.on hb)
  have l_5 := Lib.hid (l_3.out.on hb)
  have B_5 := Lib.hid (B_3.out.trans (hb.mono B_3.out.size))
  have d_5 := Lib.hid (d_3.out.on hb)
  have x_5 := Lib.hid (x_4.out.on hb)
  clear a_3 b_3 l_3 B_3 d_3 x_4
  obtain ⟨Ay, ky, rfl, hky, hu⟩ := ho.lst
  have y_6 := Lib.hid (hu)
  clear ho hu
  clear hb
  go_wp2_with fail
  refine (HCK.out _ _ _ l_5.out).mono ?_
  rintro e w5 ⟨rfl, hb⟩
  have a_7 := Lib.hid (a_5.out.on hb)
  have b_7 := Lib.hid (b_5.out.on hb)
  have l_7 := Lib.hid (l_5.out.on hb)
  have B_7 := Lib.hid (B_5.out.trans (hb.mono B_5.out.size))
  have d_7 := Lib.hid (d_5.out.on hb)
  have x_7 := Lib.hid (x_5.out.on hb)
  have y_7 := Lib.hid (y_6.out.on hb)
  clear a_5 b_5 l_5 B_5 d_5 x_5 y_6
  clear hb
  go_wp2_with fail
  refine (HMM.out _ _ _ l_7.out).mono ?_
  rintro e w6 ⟨rfl, hb⟩
  have a_8 := Lib.hid (a_7.out.on hb)
  have b_8 := Lib.hid (b_7.out.on hb)
  have l_8 := Lib.hid (l_7.out.on hb)
  have B_8 := Lib.hid (B_7.out.trans (hb.mono B_7.out.size))
  have d_8 := Lib.hid (d_7.out.on hb)
  have x_8 := Lib.hid (x_7.out.on hb)
  have y_8 := Lib.hid (y_7.out.on hb)
  clear a_7 b_7 l_7 B_7 d_7 x_7 y_7
  clear hb
  go_wp2_with fail
  refine (HPA.out _ _ _ a_8.out).mono ?_
  rintro e w7 ⟨rfl, hb⟩
  have a_9 := Lib.hid (a_8.out.on hb)
  have b_9 := Lib.hid (b_8.out.on hb)
  have l_9 := Lib.hid (l_8.out.on hb)
  have B_9 := Lib.hid (B_8.out.trans (hb.mono B_8.out.size))
  have d_9 := Lib.hid (d_8.out.on hb)
  have x_9 := Lib.hid (x_8.out.on hb)
  have y_9 := Lib.hid (y_8.out.on hb)
  clear a_8 b_8 l_8 B_8 d_8 x_8 y_8
  clear hb
  go_wp2_with fail
  refine (HPB.out _ _ _ b_9.out).mono ?_
  rintro e w8 ⟨rfl, hb⟩
  have a_10 := Lib.hid (a_9.out.on hb)
  have b_10 := Lib.hid (b_9.out.on hb)
  have l_10 := Lib.hid (l_9.out.on hb)
  have B_10 := Lib.hid (B_9.out.trans (hb.mono B_9.out.size))
  have d_10 := Lib.hid (d_9.out.on hb)
  have x_10 := Lib.hid (x_9.out.on hb)
  have y_10 := Lib.hid (y_9.out.on hb)
  clear a_9 b_9 l_9 B_9 d_9 x_9 y_9
  clear hb
  clear b_10
  clear d_10
  go_wp2_with fail
  refine (HMM.out _ _ _ l_10.out).mono ?_
  rintro e w11 ⟨rfl, hb⟩
  have a_11 := Lib.hid (a_10.out.on hb)
  have l_11 := Lib.hid (l_10.out.on hb)
  have B_11 := Lib.hid (B_10.out.trans (hb.mono B_10.out.size))
  have x_11 := Lib.hid (x_10.out.on hb)
  have y_11 := Lib.hid (y_10.out.on hb)
  clear a_10 l_10 B_10 x_10 y_10
  clear hb
  go_wp2_with fail
  refine (awake_any _).mono ?_
  rintro e w99 ⟨rfl, hb99⟩
  go_wp2_with fail
  go_ret
  exact ⟨rfl, B_11.out.trans (hb99.mono B_11.out.size)⟩

set_option maxRecDepth 100000 in
set_option maxHeartbeats 4000000 in
theorem w_b1 (A : Option Addr) (ca : Nat) (a0 : List Pu) (B : Option Addr) (cb : Nat) (b0 : List Pu) (L : Option Addr) (cl : Nat) (l0 : List Mv) (w : World) (hca : a0.length ≤ ca) (hma : ca ≤ maxLen) (ha : Us w A a0) (sa : ShrtU a0) (hcb : b0.length ≤ cb) (hmb : cb ≤ maxLen) (hb : Us w B b0) (sb : ShrtU b0) (hcl : l0.length ≤ cl) (hml : cl ≤ maxLen) (hl : Vs w L l0) (sl : FitV l0) (h1 : putB (a0.take 101) = true) (h2 : putB (b0.take 101) = false) (h3 : movB (l0.take 101) = true) :
    Calls Try.prog 3 #[.slice A a0.length ca, .slice B b0.length cb, .slice L l0.length cl] w fun e w' => e = .returned (.bool true) ∧ Below w.heap.size w w' := by
  have HPa := Lib.hid (puts_any A ca a0 w hca hma ha)
  rw [← take_len a0] at HPa
  have Ha_0 := Lib.hid (ha.take 101)
  have Sa := (sa.take 101).map
  have hla : (a0.take 101).length ≤ 101 := by rw [take_len]; omega
  have HPb := Lib.hid (puts_any B cb b0 w hcb hmb hb)
  rw [← take_len b0] at HPb
  have Hb_0 := Lib.hid (hb.take 101)
  have Sb := (sb.take 101).map
  have hlb : (b0.take 101).length ≤ 101 := by rw [take_len]; omega
  have HPl := Lib.hid (moves_any L cl l0 w hcl hml hl)
  rw [← take_len l0] at HPl
  have Hl_0 := Lib.hid (hl.take 101)
  have Sl := (sl.take 101).map
  have hll : (l0.take 101).length ≤ 101 := by rw [take_len]; omega
  generalize a0.take 101 = a at *
  generalize b0.take 101 = b at *
  generalize l0.take 101 = l at *
  generalize a0.length = na at *
  generalize b0.length = nb at *
  generalize l0.length = nl at *
  have B_0 := Lib.hid (Below.refl w.heap.size w)
  clear hca hma ha sa
  clear hcb hmb hb sb
  clear hcl hml hl sl
  have HD := Lib.hid (fun (A B : Option Addr) (ca cb : Nat) (W : World) (hA : Us W A a) (hB : Us W B b) => diff_any A B ca cb a b W (by omega) (by omega) hA hB Sa Sb)
  have HA := Lib.hid (fun (A B : Option Addr) (ca cb : Nat) (W : World) (hA : Us W A a) (hB : Vs W B l) => apply_any A B ca cb a l W (by omega) (by omega) hA hB Sa Sl)
  have HK := Lib.hid (fun (A : Option Addr) (ca : Nat) (W : World) (hA : Vs W A l) => back_any A ca l W (by omega) hA Sl)
  have HCK := Lib.hid (fun (A : Option Addr) (c : Nat) (W : World) (h : Vs W A l) => chkV_any A c l W (by omega) h Sl true h3)
  have HMM := Lib.hid (fun (A : Option Addr) (c : Nat) (W : World) (h : Vs W A l) => rmayV_any A c l W (by omega) h Sl true h3)
  have HPA := Lib.hid (fun (A : Option Addr) (c : Nat) (W : World) (h : Us W A a) => rmay_any A c a W (by omega) h Sa true h1)
  have HPB := Lib.hid (fun (A : Option Addr) (c : Nat) (W : World) (h : Us W A b) => rmay_any A c b W (by omega) h Sb false h2)
  have ok1 : okE true = 0 := rfl
  have e1 : dE a b = 1 := by unfold dE; rw [h1, h2]; rfl
  have e2 : dR a b = [] := dR_of (by rw [e1]; decide)
  rw [e1, e2] at HD
  have e3 : bE l = 0 := by unfold bE; rw [if_pos h3]
  have e4 : bR l = backP l := by unfold bR; rw [if_pos h3]
  rw [e3, e4] at HK
  have HOM := (movB_iff l).1 h3
  have HRA := Lib.hid (fun (A B : Option Addr) (ca cb : Nat) (W : World) (hA : Us W A a) (hB : Vs W B l) => rapply_any A B ca cb a l W (by omega) (by omega) hA hB HOM.rise _ rfl)
  have e5 : aE a l = if staB a l then 8 else if decide (100 < (apP a l).length) then 9 else 0 := by unfold aE; rw [h1, h3]; rfl
  have e6 : (if staB a l || decide (100 < (apP a l).length) then [] else apP a l) = aR a l := by
      unfold aR
      rw [e5]
      cases staB a l <;> cases decide (100 < (apP a l).length) <;> rfl
  rw [← e5, e6] at HRA
  have hxl := aR_len a l
  have HSX := Lib.hid (fun (A B : Option Addr) (ca cb : Nat) (W : World) (hA : Us W A (aR a l)) (hB : Us W B (aR a l)) => same_puts A B ca cb _ _ W hxl hA hB true (by simp))
  have qE : (aE a l == aE a l) = true := by simp
  generalize aR a l = X at *
  generalize aE a l = E at *
  have hkl : (backP l).length ≤ 101 := by rw [backP_len]; omega
  have HSB := Lib.hid (fun (A B : Option Addr) (ca cb : Nat) (W : World) (hA : Vs W A (backP l)) (hB : Vs W B (backP l)) => same_mvs A B ca cb _ _ W (by omega) hA hB true (by simp))
  have HBE : Hid ((l.take l.length).map backM = backP l) := Lib.hid (by rw [List.take_length]; rfl)
  have HNX := Lib.hid (back_next l)
  have HLN : Hid (∀ k, ((l.take k).map backM).length ≤ k) := Lib.hid (fun k => by simp; omega)
  generalize backP l = K at *
  clear Sa Sb Sl h1 h2 h3 e1 e2 e3 e4 HOM e5 e6 hxl hkl hla hlb
  go_enter Try.func3, Try.ntmps3
  go_wp2_with fail
  refine HPa.out.mono ?_
  rintro e w0 ⟨rfl, rfl⟩
  go_wp2_with fail
  refine HPb.out.mono ?_
  rintro e w0 ⟨rfl, rfl⟩
  go_wp2_with fail
  refine HPl.out.mono ?_
  rintro e w0 ⟨rfl, rfl⟩
  clear HPa HPb HPl
  go_wp2_with fail
  refine (HD.out _ _ _ _ _ Ha_0.out Hb_0.out).mono ?_
  rintro e w2 ⟨v2, rfl, ho, hb⟩
  have a_1 := Lib.hid (Ha_0.out.on hb)
  have b_1 := Lib.hid (Hb_0.out.on hb)
  have l_1 := Lib.hid (Hl_0.out.on hb)
  have B_1 := Lib.hid (B_0.out.trans (hb.mono B_0.out.size))
  clear Ha_0 Hb_0 Hl_0 B_0
  obtain ⟨Ad, kd, rfl, hkd, hu⟩ := ho.lst
  have d_2 := Lib.hid (hu)
  clear ho hu
  clear hb
  go_wp2_with fail
  refine (HA.out _ _ _ _ _ a_1.out l_1.out).mono ?_
  rintro e w3 ⟨v3, rfl, ho, hb⟩
  have a_3 := Lib.hid (a_1.out.on hb)
  have b_3 := Lib.hid (b_1.out.on hb)
  have l_3 := Lib.hid (l_1.out.on hb)
  have B_3 := Lib.hid (B_1.out.trans (hb.mono B_1.out.size))
  have d_3 := Lib.hid (d_2.out.on hb)
  clear a_1 b_1 l_1 B_1 d_2
  obtain ⟨Ax, kx, rfl, hkx, hu⟩ := ho.lst
  have x_4 := Lib.hid (hu)
  clear ho hu
  clear hb
  go_wp2_with fail
  refine (HK.out _ _ _ l_3.out).mono ?_
  rintro e w4 ⟨v4, rfl, ho, hb⟩
  have a_5 := Lib.hid (a_3.out.on hb)
  have b_5 := Lib.hid (b_3.out.on hb)
  have l_5 := Lib.hid (l_3.out.on hb)
  have B_5 := Lib.hid (B_3.out.trans (hb.mono B_3.out.size))
  have d_5 := Lib.hid (d_3.out.on hb)
  have x_5 := Lib.hid (x_4.out.on hb)
  clear a_3 b_3 l_3 B_3 d_3 x_4
  obtain ⟨Ay, ky, rfl, hky, hu⟩ := ho.lst
  have y_6 := Lib.hid (hu)
  clear ho hu
  clear hb
  go_wp2_with fail
  refine (HCK.out _ _ _ l_5.out).mono ?_
  rintro e w5 ⟨rfl, hb⟩
  have a_7 := Lib.hid (a_5.out.on hb)
  have b_7 := Lib.hid (b_5.out.on hb)
  have l_7 := Lib.hid (l_5.out.on hb)
  have B_7 := Lib.hid (B_5.out.trans (hb.mono B_5.out.size))
  have d_7 := Lib.hid (d_5.out.on hb)
  have x_7 := Lib.hid (x_5.out.on hb)
  have y_7 := Lib.hid (y_6.out.on hb)
  clear a_5 b_5 l_5 B_5 d_5 x_5 y_6
  clear hb
  go_wp2_with fail
  refine (HMM.out _ _ _ l_7.out).mono ?_
  rintro e w6 ⟨rfl, hb⟩
  have a_8 := Lib.hid (a_7.out.on hb)
  have b_8 := Lib.hid (b_7.out.on hb)
  have l_8 := Lib.hid (l_7.out.on hb)
  have B_8 := Lib.hid (B_7.out.trans (hb.mono B_7.out.size))
  have d_8 := Lib.hid (d_7.out.on hb)
  have x_8 := Lib.hid (x_7.out.on hb)
  have y_8 := Lib.hid (y_7.out.on hb)
  clear a_7 b_7 l_7 B_7 d_7 x_7 y_7
  clear hb
  go_wp2_with fail
  refine (HPA.out _ _ _ a_8.out).mono ?_
  rintro e w7 ⟨rfl, hb⟩
  have a_9 := Lib.hid (a_8.out.on hb)
  have b_9 := Lib.hid (b_8.out.on hb)
  have l_9 := Lib.hid (l_8.out.on hb)
  have B_9 := Lib.hid (B_8.out.trans (hb.mono B_8.out.size))
  have d_9 := Lib.hid (d_8.out.on hb)
  have x_9 := Lib.hid (x_8.out.on hb)
  have y_9 := Lib.hid (y_8.out.on hb)
  clear a_8 b_8 l_8 B_8 d_8 x_8 y_8
  clear hb
  go_wp2_with fail
  refine (HPB.out _ _ _ b_9.out).mono ?_
  rintro e w8 ⟨rfl, hb⟩
  have a_10 := Lib.hid (a_9.out.on hb)
  have b_10 := Lib.hid (b_9.out.on hb)
  have l_10 := Lib.hid (l_9.out.on hb)
  have B_10 := Lib.hid (B_9.out.trans (hb.mono B_9.out.size))
  have d_10 := Lib.hid (d_9.out.on hb)
  have x_10 := Lib.hid (x_9.out.on hb)
  have y_10 := Lib.hid (y_9.out.on hb)
  clear a_9 b_9 l_9 B_9 d_9 x_9 y_9
  clear hb
  clear b_10
  clear d_10
  go_wp2_with fail
  refine (HMM.out _ _ _ l_10.out).mono ?_
  rintro e w11 ⟨rfl, hb⟩
  have a_11 := Lib.hid (a_10.out.on hb)
  have l_11 := Lib.hid (l_10.out.on hb)
  have B_11 := Lib.hid (B_10.out.trans (hb.mono B_10.out.size))
  have x_11 := Lib.hid (x_10.out.on hb)
  have y_11 := Lib.hid (y_10.out.on hb)
  clear a_10 l_10 B_10 x_10 y_10
  clear hb
  go_wp2_with fail
  go_loopw [14, 15] (fun v i wr => ∃ k : Nat, i = .int .i64 k ∧ k ≤ l.length ∧ Hid (OwnV wr w11.heap.size v ((l.take k).map backM)) ∧ Hid (Below w11.heap.size w11 wr)) (fun _ i _ => l.length - (intOf i).toNat)
  case atStart => exact ⟨0, rfl, Nat.zero_le _, Lib.hid (OwnV.nil _ _), Lib.hid (Below.refl _ _)⟩
  case round =>
    obtain ⟨wq, ewq⟩ : ∃ wq, wq = wr := ⟨_, rfl⟩
    subst ewq
    obtain ⟨k, rfl, hk, HO, hb⟩ := hrel
    by_cases hlt : k < l.length
    · have k0 : (0 : Int) ≤ (k : Int) := by omega
      have k1 : (k : Int) < (l.length : Int) := by omega
      have k2 : decide ((k : Int) < (l.length : Int)) = true := decide_eq_true k1
      obtain ⟨ad, eL, hlo, m⟩ := (l_11.out.on hb.out) k hlt
      have hlo1 : ad.block < w11.heap.size := by
        obtain ⟨ad', e', h', _⟩ := l_11.out k hlt
        rw [eL] at e'
        obtain rfl := Option.some.inj e'
        exact h'
      obtain ⟨m0, m1, m2⟩ := m.flat
      have HNX1 := Lib.hid (HNX.out k hlt)
      have HLN1 := Lib.hid (HLN.out k)
      generalize (l.take k).map backM = Y at *
      generalize mv l k = mm at *
      obtain ⟨mt, mf, mg⟩ := mm
      simp only at m0 m1 m2
      subst eL
      clear m
      go_upto_region 19 with (fail)
      refine z_enter [(0, true), (1, true), (2, true), (3, true), (4, true), (5, true), (6, true), (7, true), (8, true), (9, true), (10, true), (11, true), (12, true), (13, true), (14, true), (15, true), (16, true), (17, false), (18, false), (19, true)] (fun W => W.cell? (ad.add (k * 3)) = some (.string mt) ∧ W.cell? ⟨(ad.add (k * 3)).block, (ad.add (k * 3)).off + 1, none⟩ = some (.int .i64 mf) ∧ W.cell? ⟨(ad.add (k * 3)).block, (ad.add (k * 3)).off + 2, none⟩ = some (.int .i64 mg)) (by kernel_rfl) (by kernel_rfl) (by kernel_rfl) (fun _ _ d _ _ h => by cases d <;> exact h) ⟨m0, m1, m2⟩ ?_
      simp only [pickL, List.drop_succ_cons, List.drop_zero]
      iterate 17 (first | (refine' z_yes ?_ (by rfl) ?_ ?_; rotate_left; (intro w' hS; (try dsimp only at hS); go_simp; try (with_reducible rfl)); simp only [Act.put, List.setIfInBounds_toArray, List.set_cons_zero, List.set_cons_succ]) | (refine z_no (by rfl) ?_; simp only [Act.put, List.setIfInBounds_toArray, List.set_cons_zero, List.set_cons_succ]))
      obtain ⟨wd, hwd⟩ : ∃ wd, wq.drew = wd := ⟨_, rfl⟩
      have hbd : Below wq.heap.size wq wd := by rw [← hwd]; exact (Below.refl _ _).drew
      rw [hwd]
      have n0 := (hbd.cell (World.block_lt_of_cell? _ _ m0)).trans m0
      have n1 := (hbd.cell (World.block_lt_of_cell? _ _ m1)).trans m1
      have n2 := (hbd.cell (World.block_lt_of_cell? _ _ m2)).trans m2
      have HOd := Lib.hid (HO.out.on hbd)
      have HBd := Lib.hid (hb.out.trans (hbd.mono hb.out.size))
      clear hwd hbd HO hb m0 m1 m2 hlo
      refine z_mem ?_
      intro KK hK
      go_simp
      have hbe : Below wd.heap.size wd (wd.alloc (.cells #[.string mt, .int .i64 mg, .int .i64 mf] 39)) := (Below.refl _ _).alloc (Nat.le_refl _) _
      have o0 := (hbe.cell (World.block_lt_of_cell? _ _ n0)).trans n0
      have o1 := (hbe.cell (World.block_lt_of_cell? _ _ n1)).trans n1
      have o2 := (hbe.cell (World.block_lt_of_cell? _ _ n2)).trans n2
      have HVs : Hid (Vs (wd.alloc (.cells #[.string mt, .int .i64 mg, .int .i64 mf] 39)) (some ⟨wd.heap.size, 0, none⟩) [⟨mt, mg, mf⟩]) := Lib.hid (Vs.one wd ⟨mt, mg, mf⟩ _)
      have HOe := Lib.hid (HOd.out.on hbe)
      have HBe := Lib.hid (HBd.out.trans (hbe.mono HBd.out.size))
      refine hK.out _ _ ⟨o0, o1, o2⟩ ?_
      clear hK hbe n0 n1 n2 HOd HBd
      obtain ⟨we, hwe⟩ : ∃ we, wd.alloc (.cells #[.string mt, .int .i64 mg, .int .i64 mf] 39) = we := ⟨_, rfl⟩
      rw [hwe] at o0 o1 o2 HVs HOe HBe ⊢
      clear hwe
      refine z_mem ?_
      intro KK hK
      rw [if_pos (by rfl)]
      refine wp_appendV _ _ rfl w11.heap.size u14 Y rfl HOe.out (some ⟨wd.heap.size, 0, none⟩) 1 [⟨mt, mg, mf⟩] rfl HVs.out (by have := HLN1.out; simp; omega) HBe.out.size ?_
      intro v' w50 ho5 hg5 _
      have hbl : some (ad.add (k * 3)).block ≠ Value.ownBlock u14 := by intro e; have := (HOe.out.ge _ e.symm).1; rw [block_add] at this; omega
      have r0 := (World.cell?_of_block (hg5.block _ (World.block_lt_of_cell? _ _ o0) hbl)).trans o0
      have r1 := (World.cell?_of_block (a := ⟨(ad.add (k * 3)).block, (ad.add (k * 3)).off + 1, none⟩) (hg5.block _ (World.block_lt_of_cell? _ _ o1) hbl)).trans o1
      have r2 := (World.cell?_of_block (a := ⟨(ad.add (k * 3)).block, (ad.add (k * 3)).off + 2, none⟩) (hg5.block _ (World.block_lt_of_cell? _ _ o2) hbl)).trans o2
      have HB5 := Lib.hid (below_grownV HBe.out HOe.out hg5 HBe.out.size (Nat.le_refl _))
      have HO5 : Hid (OwnV w50 w11.heap.size v' ((l.take (k + 1)).map backM)) := Lib.hid (by rw [HNX1.out]; exact ho5)
      clear ho5 hg5 hbl
      refine hK.out _ _ ⟨r0, r1, r2⟩ ?_
      clear hK o0 o1 o2 r0 r1 r2 HOe HBe HVs
      simp only [Act.put, List.setIfInBounds_toArray, List.set_cons_zero, List.set_cons_succ]
      iterate 1 (first | (refine' z_yes ?_ (by rfl) ?_ ?_; rotate_left; (intro w' hS; (try dsimp only at hS); go_simp; try (with_reducible rfl)); simp only [Act.put, List.setIfInBounds_toArray, List.set_cons_zero, List.set_cons_succ]) | (refine z_no (by rfl) ?_; simp only [Act.put, List.setIfInBounds_toArray, List.set_cons_zero, List.set_cons_succ]))
      refine z_nil ?_
      go_wp2_with fail
      go_roundw
      case rel => exact ⟨k + 1, by go_num, by omega, HO5, HB5⟩
      case measure => simp [intOf]; omega
    · obtain rfl : k = l.length := by omega
      have d0 : decide ((l.length : Int) < (l.length : Int)) = false := by simp
      rw [HBE.out] at HO
      obtain ⟨AK, cK, rfl, hcK, hK0⟩ := HO.out.lst
      have HKK := Lib.hid hK0
      have hbb := hb.out
      clear HO hb hK0 HBE HNX HLN
      have a_12 := Lib.hid (a_11.out.on hbb)
      have l_12 := Lib.hid (l_11.out.on hbb)
      have B_12 := Lib.hid (B_11.out.trans (hbb.mono B_11.out.size))
      have x_12 := Lib.hid (x_11.out.on hbb)
      have y_12 := Lib.hid (y_11.out.on hbb)
      clear a_11 l_11 B_11 x_11 y_11
      clear hbb
      go_wp2_with fail
      refine (HSB.out _ _ _ _ _ y_12.out HKK.out).mono ?_
      rintro e w12 ⟨rfl, hb⟩
      clear y_12
      have a_13 := Lib.hid (a_12.out.on hb)
      have l_13 := Lib.hid (l_12.out.on hb)
      have B_13 := Lib.hid (B_12.out.trans (hb.mono B_12.out.size))
      have x_13 := Lib.hid (x_12.out.on hb)
      clear a_12 l_12 B_12 x_12
      clear hb
      clear HKK
      go_wp2_with fail
      refine (HPA.out _ _ _ a_13.out).mono ?_
      rintro e w13 ⟨rfl, hb⟩
      have a_14 := Lib.hid (a_13.out.on hb)
      have l_14 := Lib.hid (l_13.out.on hb)
      have B_14 := Lib.hid (B_13.out.trans (hb.mono B_13.out.size))
      have x_14 := Lib.hid (x_13.out.on hb)
      clear a_13 l_13 B_13 x_13
      clear hb
      go_wp2_with fail
      refine (HRA.out _ _ _ _ _ a_14.out l_14.out).mono ?_
      rintro e w14 ⟨v14, rfl, ho, hb⟩
      clear a_14
      clear l_14
      have B_15 := Lib.hid (B_14.out.trans (hb.mono B_14.out.size))
      have x_15 := Lib.hid (x_14.out.on hb)
      clear B_14 x_14
      obtain ⟨Az, kz, rfl, hkz, hu⟩ := ho.lst
      have z_16 := Lib.hid (hu)
      clear ho hu
      clear hb
      go_wp2_with fail
      refine (HSX.out _ _ _ _ _ x_15.out z_16.out).mono ?_
      rintro e w15 ⟨rfl, hb⟩
      clear x_15
      clear z_16
      have B_17 := Lib.hid (B_15.out.trans (hb.mono B_15.out.size))
      clear B_15
      clear hb
      go_wp2_with fail
      refine (awake_any _).mono ?_
      rintro e w99 ⟨rfl, hb99⟩
      go_wp2_with fail
      go_ret
      exact ⟨rfl, B_17.out.trans (hb99.mono B_17.out.size)⟩

set_option maxRecDepth 100000 in
set_option maxHeartbeats 4000000 in
theorem w_c0 (A : Option Addr) (ca : Nat) (a0 : List Pu) (B : Option Addr) (cb : Nat) (b0 : List Pu) (L : Option Addr) (cl : Nat) (l0 : List Mv) (w : World) (hca : a0.length ≤ ca) (hma : ca ≤ maxLen) (ha : Us w A a0) (sa : ShrtU a0) (hcb : b0.length ≤ cb) (hmb : cb ≤ maxLen) (hb : Us w B b0) (sb : ShrtU b0) (hcl : l0.length ≤ cl) (hml : cl ≤ maxLen) (hl : Vs w L l0) (sl : FitV l0) (h1 : putB (a0.take 101) = true) (h2 : putB (b0.take 101) = true) (h3 : movB (l0.take 101) = false) (h4 : decide (100 < (difP (a0.take 101) (b0.take 101)).length) = true) :
    Calls Try.prog 3 #[.slice A a0.length ca, .slice B b0.length cb, .slice L l0.length cl] w fun e w' => e = .returned (.bool true) ∧ Below w.heap.size w w' := by
  have HPa := Lib.hid (puts_any A ca a0 w hca hma ha)
  rw [← take_len a0] at HPa
  have Ha_0 := Lib.hid (ha.take 101)
  have Sa := (sa.take 101).map
  have hla : (a0.take 101).length ≤ 101 := by rw [take_len]; omega
  have HPb := Lib.hid (puts_any B cb b0 w hcb hmb hb)
  rw [← take_len b0] at HPb
  have Hb_0 := Lib.hid (hb.take 101)
  have Sb := (sb.take 101).map
  have hlb : (b0.take 101).length ≤ 101 := by rw [take_len]; omega
  have HPl := Lib.hid (moves_any L cl l0 w hcl hml hl)
  rw [← take_len l0] at HPl
  have Hl_0 := Lib.hid (hl.take 101)
  have Sl := (sl.take 101).map
  have hll : (l0.take 101).length ≤ 101 := by rw [take_len]; omega
  generalize a0.take 101 = a at *
  generalize b0.take 101 = b at *
  generalize l0.take 101 = l at *
  generalize a0.length = na at *
  generalize b0.length = nb at *
  generalize l0.length = nl at *
  have B_0 := Lib.hid (Below.refl w.heap.size w)
  clear hca hma ha sa
  clear hcb hmb hb sb
  clear hcl hml hl sl
  have HD := Lib.hid (fun (A B : Option Addr) (ca cb : Nat) (W : World) (hA : Us W A a) (hB : Us W B b) => diff_any A B ca cb a b W (by omega) (by omega) hA hB Sa Sb)
  have HA := Lib.hid (fun (A B : Option Addr) (ca cb : Nat) (W : World) (hA : Us W A a) (hB : Vs W B l) => apply_any A B ca cb a l W (by omega) (by omega) hA hB Sa Sl)
  have HK := Lib.hid (fun (A : Option Addr) (ca : Nat) (W : World) (hA : Vs W A l) => back_any A ca l W (by omega) hA Sl)
  have HCK := Lib.hid (fun (A : Option Addr) (c : Nat) (W : World) (h : Vs W A l) => chkV_any A c l W (by omega) h Sl false h3)
  have HMM := Lib.hid (fun (A : Option Addr) (c : Nat) (W : World) (h : Vs W A l) => rmayV_any A c l W (by omega) h Sl false h3)
  have HPA := Lib.hid (fun (A : Option Addr) (c : Nat) (W : World) (h : Us W A a) => rmay_any A c a W (by omega) h Sa true h1)
  have HPB := Lib.hid (fun (A : Option Addr) (c : Nat) (W : World) (h : Us W A b) => rmay_any A c b W (by omega) h Sb true h2)
  have ok1 : okE false = 1 := rfl
  have e1 : dE a b = 9 := by unfold dE; rw [h1, h2, h4]; rfl
  have e2 : dR a b = [] := dR_of (by rw [e1]; decide)
  have HRD := Lib.hid (fun (A B : Option Addr) (ca cb : Nat) (W : World) (hA : Us W A a) (hB : Us W B b) => rdiff_any A B ca cb a b W (by omega) (by omega) hA hB)
  have q1 : decide ((100 : Int) < ((difP a b).length : Int)) = true := by rw [← h4]; exact decide_eq_decide.2 (by omega)
  have q2 : decide (100 < (difP a b).length) = true := h4
  have q3 : decide (((difP a b).length : Int) ≤ 100) = false := decide_eq_false (by have := h4; simp at this; omega)
  have q4 : decide ((difP a b).length ≤ 100) = false := decide_eq_false (by have := h4; simp at this; omega)
  rw [e1, e2] at HD
  have e3 : bE l = 1 := by unfold bE; rw [h3]; rfl
  have e4 : bR l = [] := by unfold bR; rw [h3]; rfl
  rw [e3, e4] at HK
  have e5 : aE a l = 1 := by unfold aE; rw [h1, h3]; rfl
  have e6 : aR a l = [] := aR_of (by rw [e5]; decide)
  rw [e5, e6] at HA
  generalize difP a b = dd at *
  clear Sa Sb Sl h1 h2 h3 h4 e1 e2 e3 e4 e5 e6 hla hlb
  go_enter Try.func3, Try.ntmps3
  go_wp2_with fail
  refine HPa.out.mono ?_
  rintro e w0 ⟨rfl, rfl⟩
  go_wp2_with fail
  refine HPb.out.mono ?_
  rintro e w0 ⟨rfl, rfl⟩
  go_wp2_with fail
  refine HPl.out.mono ?_
  rintro e w0 ⟨rfl, rfl⟩
  clear HPa HPb HPl
  go_wp2_with fail
  refine (HD.out _ _ _ _ _ Ha_0.out Hb_0.out).mono ?_
  rintro e w2 ⟨v2, rfl, ho, hb⟩
  have a_1 := Lib.hid (Ha_0.out.on hb)
  have b_1 := Lib.hid (Hb_0.out.on hb)
  have l_1 := Lib.hid (Hl_0.out.on hb)
  have B_1 := Lib.hid (B_0.out.trans (hb.mono B_0.out.size))
  clear Ha_0 Hb_0 Hl_0 B_0
  obtain ⟨Ad, kd, rfl, hkd, hu⟩ := ho.lst
  have d_2 := Lib.hid (hu)
  clear ho hu
  clear hb
  go_wp2_with fail
  refine (HA.out _ _ _ _ _ a_1.out l_1.out).mono ?_
  rintro e w3 ⟨v3, rfl, ho, hb⟩
  have a_3 := Lib.hid (a_1.out.on hb)
  have b_3 := Lib.hid (b_1.out.on hb)
  have l_3 := Lib.hid (l_1.out.on hb)
  have B_3 := Lib.hid (B_1.out.trans (hb.mono B_1.out.size))
  have d_3 := Lib.hid (d_2.out.on hb)
  clear a_1 b_1 l_1 B_1 d_2
  obtain ⟨Ax, kx, rfl, hkx, hu⟩ := ho.lst
  have x_4 := Lib.hid (hu)
  clear ho hu
  clear hb
  go_wp2_with fail
  refine (HK.out _ _ _ l_3.out).mono ?_
  rintro e w4 ⟨v4, rfl, ho, hb⟩
  have a_5 := Lib.hid (a_3.out.on hb)
  have b_5 := Lib.hid (b_3.out.on hb)
  have l_5 := Lib.hid (l_3.out.on hb)
  have B_5 := Lib.hid (B_3.out.trans (hb.mono B_3.out.size))
  have d_5 := Lib.hid (d_3.out.on hb)
  have x_5 := Lib.hid (x_4.out.on hb)
  clear a_3 b_3 l_3 B_3 d_3 x_4
  obtain ⟨Ay, ky, rfl, hky, hu⟩ := ho.lst
  have y_6 := Lib.hid (hu)
  clear ho hu
  clear hb
  go_wp2_with fail
  refine (HCK.out _ _ _ l_5.out).mono ?_
  rintro e w5 ⟨rfl, hb⟩
  have a_7 := Lib.hid (a_5.out.on hb)
  have b_7 := Lib.hid (b_5.out.on hb)
  have l_7 := Lib.hid (l_5.out.on hb)
  have B_7 := Lib.hid (B_5.out.trans (hb.mono B_5.out.size))
  have d_7 := Lib.hid (d_5.out.on hb)
  have x_7 := Lib.hid (x_5.out.on hb)
  have y_7 := Lib.hid (y_6.out.on hb)
  clear a_5 b_5 l_5 B_5 d_5 x_5 y_6
  clear hb
  go_wp2_with fail
  refine (HMM.out _ _ _ l_7.out).mono ?_
  rintro e w6 ⟨rfl, hb⟩
  have a_8 := Lib.hid (a_7.out.on hb)
  have b_8 := Lib.hid (b_7.out.on hb)
  have l_8 := Lib.hid (l_7.out.on hb)
  have B_8 := Lib.hid (B_7.out.trans (hb.mono B_7.out.size))
  have d_8 := Lib.hid (d_7.out.on hb)
  have x_8 := Lib.hid (x_7.out.on hb)
  have y_8 := Lib.hid (y_7.out.on hb)
  clear a_7 b_7 l_7 B_7 d_7 x_7 y_7
  clear hb
  go_wp2_with fail
  refine (HPA.out _ _ _ a_8.out).mono ?_
  rintro e w7 ⟨rfl, hb⟩
  have a_9 := Lib.hid (a_8.out.on hb)
  have b_9 := Lib.hid (b_8.out.on hb)
  have l_9 := Lib.hid (l_8.out.on hb)
  have B_9 := Lib.hid (B_8.out.trans (hb.mono B_8.out.size))
  have d_9 := Lib.hid (d_8.out.on hb)
  have x_9 := Lib.hid (x_8.out.on hb)
  have y_9 := Lib.hid (y_8.out.on hb)
  clear a_8 b_8 l_8 B_8 d_8 x_8 y_8
  clear hb
  go_wp2_with fail
  refine (HPB.out _ _ _ b_9.out).mono ?_
  rintro e w8 ⟨rfl, hb⟩
  have a_10 := Lib.hid (a_9.out.on hb)
  have b_10 := Lib.hid (b_9.out.on hb)
  have l_10 := Lib.hid (l_9.out.on hb)
  have B_10 := Lib.hid (B_9.out.trans (hb.mono B_9.out.size))
  have d_10 := Lib.hid (d_9.out.on hb)
  have x_10 := Lib.hid (x_9.out.on hb)
  have y_10 := Lib.hid (y_9.out.on hb)
  clear a_9 b_9 l_9 B_9 d_9 x_9 y_9
  clear hb
  go_wp2_with fail
  refine (HRD.out _ _ _ _ _ a_10.out b_10.out).mono ?_
  rintro e w9 ⟨v9, rfl, ho, hb⟩
  have a_11 := Lib.hid (a_10.out.on hb)
  have b_11 := Lib.hid (b_10.out.on hb)
  have l_11 := Lib.hid (l_10.out.on hb)
  have B_11 := Lib.hid (B_10.out.trans (hb.mono B_10.out.size))
  have d_11 := Lib.hid (d_10.out.on hb)
  have x_11 := Lib.hid (x_10.out.on hb)
  have y_11 := Lib.hid (y_10.out.on hb)
  clear a_10 b_10 l_10 B_10 d_10 x_10 y_10
  obtain ⟨Ag, kg, rfl, hkg, hu⟩ := ho.lst
  have g_12 := Lib.hid (hu)
  clear ho hu
  clear hb
  clear b_11
  clear g_12
  clear d_11
  go_wp2_with fail
  refine (HMM.out _ _ _ l_11.out).mono ?_
  rintro e w11 ⟨rfl, hb⟩
  have a_13 := Lib.hid (a_11.out.on hb)
  have l_13 := Lib.hid (l_11.out.on hb)
  have B_13 := Lib.hid (B_11.out.trans (hb.mono B_11.out.size))
  have x_13 := Lib.hid (x_11.out.on hb)
  have y_13 := Lib.hid (y_11.out.on hb)
  clear a_11 l_11 B_11 x_11 y_11
  clear hb
  go_wp2_with fail
  refine (awake_any _).mono ?_
  rintro e w99 ⟨rfl, hb99⟩
  go_wp2_with fail
  go_ret
  exact ⟨rfl, B_13.out.trans (hb99.mono B_13.out.size)⟩

set_option maxRecDepth 100000 in
set_option maxHeartbeats 4000000 in
theorem w_c1 (A : Option Addr) (ca : Nat) (a0 : List Pu) (B : Option Addr) (cb : Nat) (b0 : List Pu) (L : Option Addr) (cl : Nat) (l0 : List Mv) (w : World) (hca : a0.length ≤ ca) (hma : ca ≤ maxLen) (ha : Us w A a0) (sa : ShrtU a0) (hcb : b0.length ≤ cb) (hmb : cb ≤ maxLen) (hb : Us w B b0) (sb : ShrtU b0) (hcl : l0.length ≤ cl) (hml : cl ≤ maxLen) (hl : Vs w L l0) (sl : FitV l0) (h1 : putB (a0.take 101) = true) (h2 : putB (b0.take 101) = true) (h3 : movB (l0.take 101) = true) (h4 : decide (100 < (difP (a0.take 101) (b0.take 101)).length) = true) :
    Calls Try.prog 3 #[.slice A a0.length ca, .slice B b0.length cb, .slice L l0.length cl] w fun e w' => e = .returned (.bool true) ∧ Below w.heap.size w w' := by
  have HPa := Lib.hid (puts_any A ca a0 w hca hma ha)
  rw [← take_len a0] at HPa
  have Ha_0 := Lib.hid (ha.take 101)
  have Sa := (sa.take 101).map
  have hla : (a0.take 101).length ≤ 101 := by rw [take_len]; omega
  have HPb := Lib.hid (puts_any B cb b0 w hcb hmb hb)
  rw [← take_len b0] at HPb
  have Hb_0 := Lib.hid (hb.take 101)
  have Sb := (sb.take 101).map
  have hlb : (b0.take 101).length ≤ 101 := by rw [take_len]; omega
  have HPl := Lib.hid (moves_any L cl l0 w hcl hml hl)
  rw [← take_len l0] at HPl
  have Hl_0 := Lib.hid (hl.take 101)
  have Sl := (sl.take 101).map
  have hll : (l0.take 101).length ≤ 101 := by rw [take_len]; omega
  generalize a0.take 101 = a at *
  generalize b0.take 101 = b at *
  generalize l0.take 101 = l at *
  generalize a0.length = na at *
  generalize b0.length = nb at *
  generalize l0.length = nl at *
  have B_0 := Lib.hid (Below.refl w.heap.size w)
  clear hca hma ha sa
  clear hcb hmb hb sb
  clear hcl hml hl sl
  have HD := Lib.hid (fun (A B : Option Addr) (ca cb : Nat) (W : World) (hA : Us W A a) (hB : Us W B b) => diff_any A B ca cb a b W (by omega) (by omega) hA hB Sa Sb)
  have HA := Lib.hid (fun (A B : Option Addr) (ca cb : Nat) (W : World) (hA : Us W A a) (hB : Vs W B l) => apply_any A B ca cb a l W (by omega) (by omega) hA hB Sa Sl)
  have HK := Lib.hid (fun (A : Option Addr) (ca : Nat) (W : World) (hA : Vs W A l) => back_any A ca l W (by omega) hA Sl)
  have HCK := Lib.hid (fun (A : Option Addr) (c : Nat) (W : World) (h : Vs W A l) => chkV_any A c l W (by omega) h Sl true h3)
  have HMM := Lib.hid (fun (A : Option Addr) (c : Nat) (W : World) (h : Vs W A l) => rmayV_any A c l W (by omega) h Sl true h3)
  have HPA := Lib.hid (fun (A : Option Addr) (c : Nat) (W : World) (h : Us W A a) => rmay_any A c a W (by omega) h Sa true h1)
  have HPB := Lib.hid (fun (A : Option Addr) (c : Nat) (W : World) (h : Us W A b) => rmay_any A c b W (by omega) h Sb true h2)
  have ok1 : okE true = 0 := rfl
  have e1 : dE a b = 9 := by unfold dE; rw [h1, h2, h4]; rfl
  have e2 : dR a b = [] := dR_of (by rw [e1]; decide)
  have HRD := Lib.hid (fun (A B : Option Addr) (ca cb : Nat) (W : World) (hA : Us W A a) (hB : Us W B b) => rdiff_any A B ca cb a b W (by omega) (by omega) hA hB)
  have q1 : decide ((100 : Int) < ((difP a b).length : Int)) = true := by rw [← h4]; exact decide_eq_decide.2 (by omega)
  have q2 : decide (100 < (difP a b).length) = true := h4
  have q3 : decide (((difP a b).length : Int) ≤ 100) = false := decide_eq_false (by have := h4; simp at this; omega)
  have q4 : decide ((difP a b).length ≤ 100) = false := decide_eq_false (by have := h4; simp at this; omega)
  rw [e1, e2] at HD
  have e3 : bE l = 0 := by unfold bE; rw [if_pos h3]
  have e4 : bR l = backP l := by unfold bR; rw [if_pos h3]
  rw [e3, e4] at HK
  have HOM := (movB_iff l).1 h3
  have HRA := Lib.hid (fun (A B : Option Addr) (ca cb : Nat) (W : World) (hA : Us W A a) (hB : Vs W B l) => rapply_any A B ca cb a l W (by omega) (by omega) hA hB HOM.rise _ rfl)
  have e5 : aE a l = if staB a l then 8 else if decide (100 < (apP a l).length) then 9 else 0 := by unfold aE; rw [h1, h3]; rfl
  have e6 : (if staB a l || decide (100 < (apP a l).length) then [] else apP a l) = aR a l := by
      unfold aR
      rw [e5]
      cases staB a l <;> cases decide (100 < (apP a l).length) <;> rfl
  rw [← e5, e6] at HRA
  have hxl := aR_len a l
  have HSX := Lib.hid (fun (A B : Option Addr) (ca cb : Nat) (W : World) (hA : Us W A (aR a l)) (hB : Us W B (aR a l)) => same_puts A B ca cb _ _ W hxl hA hB true (by simp))
  have qE : (aE a l == aE a l) = true := by simp
  generalize aR a l = X at *
  generalize aE a l = E at *
  have hkl : (backP l).length ≤ 101 := by rw [backP_len]; omega
  have HSB := Lib.hid (fun (A B : Option Addr) (ca cb : Nat) (W : World) (hA : Vs W A (backP l)) (hB : Vs W B (backP l)) => same_mvs A B ca cb _ _ W (by omega) hA hB true (by simp))
  have HBE : Hid ((l.take l.length).map backM = backP l) := Lib.hid (by rw [List.take_length]; rfl)
  have HNX := Lib.hid (back_next l)
  have HLN : Hid (∀ k, ((l.take k).map backM).length ≤ k) := Lib.hid (fun k => by simp; omega)
  generalize backP l = K at *
  generalize difP a b = dd at *
  clear Sa Sb Sl h1 h2 h3 h4 e1 e2 e3 e4 HOM e5 e6 hxl hkl hla hlb
  go_enter Try.func3, Try.ntmps3
  go_wp2_with fail
  refine HPa.out.mono ?_
  rintro e w0 ⟨rfl, rfl⟩
  go_wp2_with fail
  refine HPb.out.mono ?_
  rintro e w0 ⟨rfl, rfl⟩
  go_wp2_with fail
  refine HPl.out.mono ?_
  rintro e w0 ⟨rfl, rfl⟩
  clear HPa HPb HPl
  go_wp2_with fail
  refine (HD.out _ _ _ _ _ Ha_0.out Hb_0.out).mono ?_
  rintro e w2 ⟨v2, rfl, ho, hb⟩
  have a_1 := Lib.hid (Ha_0.out.on hb)
  have b_1 := Lib.hid (Hb_0.out.on hb)
  have l_1 := Lib.hid (Hl_0.out.on hb)
  have B_1 := Lib.hid (B_0.out.trans (hb.mono B_0.out.size))
  clear Ha_0 Hb_0 Hl_0 B_0
  obtain ⟨Ad, kd, rfl, hkd, hu⟩ := ho.lst
  have d_2 := Lib.hid (hu)
  clear ho hu
  clear hb
  go_wp2_with fail
  refine (HA.out _ _ _ _ _ a_1.out l_1.out).mono ?_
  rintro e w3 ⟨v3, rfl, ho, hb⟩
  have a_3 := Lib.hid (a_1.out.on hb)
  have b_3 := Lib.hid (b_1.out.on hb)
  have l_3 := Lib.hid (l_1.out.on hb)
  have B_3 := Lib.hid (B_1.out.trans (hb.mono B_1.out.size))
  have d_3 := Lib.hid (d_2.out.on hb)
  clear a_1 b_1 l_1 B_1 d_2
  obtain ⟨Ax, kx, rfl, hkx, hu⟩ := ho.lst
  have x_4 := Lib.hid (hu)
  clear ho hu
  clear hb
  go_wp2_with fail
  refine (HK.out _ _ _ l_3.out).mono ?_
  rintro e w4 ⟨v4, rfl, ho, hb⟩
  have a_5 := Lib.hid (a_3.out.on hb)
  have b_5 := Lib.hid (b_3.out.on hb)
  have l_5 := Lib.hid (l_3.out.on hb)
  have B_5 := Lib.hid (B_3.out.trans (hb.mono B_3.out.size))
  have d_5 := Lib.hid (d_3.out.on hb)
  have x_5 := Lib.hid (x_4.out.on hb)
  clear a_3 b_3 l_3 B_3 d_3 x_4
  obtain ⟨Ay, ky, rfl, hky, hu⟩ := ho.lst
  have y_6 := Lib.hid (hu)
  clear ho hu
  clear hb
  go_wp2_with fail
  refine (HCK.out _ _ _ l_5.out).mono ?_
  rintro e w5 ⟨rfl, hb⟩
  have a_7 := Lib.hid (a_5.out.on hb)
  have b_7 := Lib.hid (b_5.out.on hb)
  have l_7 := Lib.hid (l_5.out.on hb)
  have B_7 := Lib.hid (B_5.out.trans (hb.mono B_5.out.size))
  have d_7 := Lib.hid (d_5.out.on hb)
  have x_7 := Lib.hid (x_5.out.on hb)
  have y_7 := Lib.hid (y_6.out.on hb)
  clear a_5 b_5 l_5 B_5 d_5 x_5 y_6
  clear hb
  go_wp2_with fail
  refine (HMM.out _ _ _ l_7.out).mono ?_
  rintro e w6 ⟨rfl, hb⟩
  have a_8 := Lib.hid (a_7.out.on hb)
  have b_8 := Lib.hid (b_7.out.on hb)
  have l_8 := Lib.hid (l_7.out.on hb)
  have B_8 := Lib.hid (B_7.out.trans (hb.mono B_7.out.size))
  have d_8 := Lib.hid (d_7.out.on hb)
  have x_8 := Lib.hid (x_7.out.on hb)
  have y_8 := Lib.hid (y_7.out.on hb)
  clear a_7 b_7 l_7 B_7 d_7 x_7 y_7
  clear hb
  go_wp2_with fail
  refine (HPA.out _ _ _ a_8.out).mono ?_
  rintro e w7 ⟨rfl, hb⟩
  have a_9 := Lib.hid (a_8.out.on hb)
  have b_9 := Lib.hid (b_8.out.on hb)
  have l_9 := Lib.hid (l_8.out.on hb)
  have B_9 := Lib.hid (B_8.out.trans (hb.mono B_8.out.size))
  have d_9 := Lib.hid (d_8.out.on hb)
  have x_9 := Lib.hid (x_8.out.on hb)
  have y_9 := Lib.hid (y_8.out.on hb)
  clear a_8 b_8 l_8 B_8 d_8 x_8 y_8
  clear hb
  go_wp2_with fail
  refine (HPB.out _ _ _ b_9.out).mono ?_
  rintro e w8 ⟨rfl, hb⟩
  have a_10 := Lib.hid (a_9.out.on hb)
  have b_10 := Lib.hid (b_9.out.on hb)
  have l_10 := Lib.hid (l_9.out.on hb)
  have B_10 := Lib.hid (B_9.out.trans (hb.mono B_9.out.size))
  have d_10 := Lib.hid (d_9.out.on hb)
  have x_10 := Lib.hid (x_9.out.on hb)
  have y_10 := Lib.hid (y_9.out.on hb)
  clear a_9 b_9 l_9 B_9 d_9 x_9 y_9
  clear hb
  go_wp2_with fail
  refine (HRD.out _ _ _ _ _ a_10.out b_10.out).mono ?_
  rintro e w9 ⟨v9, rfl, ho, hb⟩
  have a_11 := Lib.hid (a_10.out.on hb)
  have b_11 := Lib.hid (b_10.out.on hb)
  have l_11 := Lib.hid (l_10.out.on hb)
  have B_11 := Lib.hid (B_10.out.trans (hb.mono B_10.out.size))
  have d_11 := Lib.hid (d_10.out.on hb)
  have x_11 := Lib.hid (x_10.out.on hb)
  have y_11 := Lib.hid (y_10.out.on hb)
  clear a_10 b_10 l_10 B_10 d_10 x_10 y_10
  obtain ⟨Ag, kg, rfl, hkg, hu⟩ := ho.lst
  have g_12 := Lib.hid (hu)
  clear ho hu
  clear hb
  clear b_11
  clear g_12
  clear d_11
  go_wp2_with fail
  refine (HMM.out _ _ _ l_11.out).mono ?_
  rintro e w11 ⟨rfl, hb⟩
  have a_13 := Lib.hid (a_11.out.on hb)
  have l_13 := Lib.hid (l_11.out.on hb)
  have B_13 := Lib.hid (B_11.out.trans (hb.mono B_11.out.size))
  have x_13 := Lib.hid (x_11.out.on hb)
  have y_13 := Lib.hid (y_11.out.on hb)
  clear a_11 l_11 B_11 x_11 y_11
  clear hb
  go_wp2_with fail
  go_loopw [14, 15] (fun v i wr => ∃ k : Nat, i = .int .i64 k ∧ k ≤ l.length ∧ Hid (OwnV wr w11.heap.size v ((l.take k).map backM)) ∧ Hid (Below w11.heap.size w11 wr)) (fun _ i _ => l.length - (intOf i).toNat)
  case atStart => exact ⟨0, rfl, Nat.zero_le _, Lib.hid (OwnV.nil _ _), Lib.hid (Below.refl _ _)⟩
  case round =>
    obtain ⟨wq, ewq⟩ : ∃ wq, wq = wr := ⟨_, rfl⟩
    subst ewq
    obtain ⟨k, rfl, hk, HO, hb⟩ := hrel
    by_cases hlt : k < l.length
    · have k0 : (0 : Int) ≤ (k : Int) := by omega
      have k1 : (k : Int) < (l.length : Int) := by omega
      have k2 : decide ((k : Int) < (l.length : Int)) = true := decide_eq_true k1
      obtain ⟨ad, eL, hlo, m⟩ := (l_13.out.on hb.out) k hlt
      have hlo1 : ad.block < w11.heap.size := by
        obtain ⟨ad', e', h', _⟩ := l_13.out k hlt
        rw [eL] at e'
        obtain rfl := Option.some.inj e'
        exact h'
      obtain ⟨m0, m1, m2⟩ := m.flat
      have HNX1 := Lib.hid (HNX.out k hlt)
      have HLN1 := Lib.hid (HLN.out k)
      generalize (l.take k).map backM = Y at *
      generalize mv l k = mm at *
      obtain ⟨mt, mf, mg⟩ := mm
      simp only at m0 m1 m2
      subst eL
      clear m
      go_upto_region 19 with (fail)
      refine z_enter [(0, true), (1, true), (2, true), (3, true), (4, true), (5, true), (6, true), (7, true), (8, true), (9, true), (10, true), (11, true), (12, true), (13, true), (14, true), (15, true), (16, true), (17, false), (18, false), (19, true)] (fun W => W.cell? (ad.add (k * 3)) = some (.string mt) ∧ W.cell? ⟨(ad.add (k * 3)).block, (ad.add (k * 3)).off + 1, none⟩ = some (.int .i64 mf) ∧ W.cell? ⟨(ad.add (k * 3)).block, (ad.add (k * 3)).off + 2, none⟩ = some (.int .i64 mg)) (by kernel_rfl) (by kernel_rfl) (by kernel_rfl) (fun _ _ d _ _ h => by cases d <;> exact h) ⟨m0, m1, m2⟩ ?_
      simp only [pickL, List.drop_succ_cons, List.drop_zero]
      iterate 17 (first | (refine' z_yes ?_ (by rfl) ?_ ?_; rotate_left; (intro w' hS; (try dsimp only at hS); go_simp; try (with_reducible rfl)); simp only [Act.put, List.setIfInBounds_toArray, List.set_cons_zero, List.set_cons_succ]) | (refine z_no (by rfl) ?_; simp only [Act.put, List.setIfInBounds_toArray, List.set_cons_zero, List.set_cons_succ]))
      obtain ⟨wd, hwd⟩ : ∃ wd, wq.drew = wd := ⟨_, rfl⟩
      have hbd : Below wq.heap.size wq wd := by rw [← hwd]; exact (Below.refl _ _).drew
      rw [hwd]
      have n0 := (hbd.cell (World.block_lt_of_cell? _ _ m0)).trans m0
      have n1 := (hbd.cell (World.block_lt_of_cell? _ _ m1)).trans m1
      have n2 := (hbd.cell (World.block_lt_of_cell? _ _ m2)).trans m2
      have HOd := Lib.hid (HO.out.on hbd)
      have HBd := Lib.hid (hb.out.trans (hbd.mono hb.out.size))
      clear hwd hbd HO hb m0 m1 m2 hlo
      refine z_mem ?_
      intro KK hK
      go_simp
      have hbe : Below wd.heap.size wd (wd.alloc (.cells #[.string mt, .int .i64 mg, .int .i64 mf] 39)) := (Below.refl _ _).alloc (Nat.le_refl _) _
      have o0 := (hbe.cell (World.block_lt_of_cell? _ _ n0)).trans n0
      have o1 := (hbe.cell (World.block_lt_of_cell? _ _ n1)).trans n1
      have o2 := (hbe.cell (World.block_lt_of_cell? _ _ n2)).trans n2
      have HVs : Hid (Vs (wd.alloc (.cells #[.string mt, .int .i64 mg, .int .i64 mf] 39)) (some ⟨wd.heap.size, 0, none⟩) [⟨mt, mg, mf⟩]) := Lib.hid (Vs.one wd ⟨mt, mg, mf⟩ _)
      have HOe := Lib.hid (HOd.out.on hbe)
      have HBe := Lib.hid (HBd.out.trans (hbe.mono HBd.out.size))
      refine hK.out _ _ ⟨o0, o1, o2⟩ ?_
      clear hK hbe n0 n1 n2 HOd HBd
      obtain ⟨we, hwe⟩ : ∃ we, wd.alloc (.cells #[.string mt, .int .i64 mg, .int .i64 mf] 39) = we := ⟨_, rfl⟩
      rw [hwe] at o0 o1 o2 HVs HOe HBe ⊢
      clear hwe
      refine z_mem ?_
      intro KK hK
      rw [if_pos (by rfl)]
      refine wp_appendV _ _ rfl w11.heap.size u14 Y rfl HOe.out (some ⟨wd.heap.size, 0, none⟩) 1 [⟨mt, mg, mf⟩] rfl HVs.out (by have := HLN1.out; simp; omega) HBe.out.size ?_
      intro v' w50 ho5 hg5 _
      have hbl : some (ad.add (k * 3)).block ≠ Value.ownBlock u14 := by intro e; have := (HOe.out.ge _ e.symm).1; rw [block_add] at this; omega
      have r0 := (World.cell?_of_block (hg5.block _ (World.block_lt_of_cell? _ _ o0) hbl)).trans o0
      have r1 := (World.cell?_of_block (a := ⟨(ad.add (k * 3)).block, (ad.add (k * 3)).off + 1, none⟩) (hg5.block _ (World.block_lt_of_cell? _ _ o1) hbl)).trans o1
      have r2 := (World.cell?_of_block (a := ⟨(ad.add (k * 3)).block, (ad.add (k * 3)).off + 2, none⟩) (hg5.block _ (World.block_lt_of_cell? _ _ o2) hbl)).trans o2
      have HB5 := Lib.hid (below_grownV HBe.out HOe.out hg5 HBe.out.size (Nat.le_refl _))
      have HO5 : Hid (OwnV w50 w11.heap.size v' ((l.take (k + 1)).map backM)) := Lib.hid (by rw [HNX1.out]; exact ho5)
      clear ho5 hg5 hbl
      refine hK.out _ _ ⟨r0, r1, r2⟩ ?_
      clear hK o0 o1 o2 r0 r1 r2 HOe HBe HVs
      simp only [Act.put, List.setIfInBounds_toArray, List.set_cons_zero, List.set_cons_succ]
      iterate 1 (first | (refine' z_yes ?_ (by rfl) ?_ ?_; rotate_left; (intro w' hS; (try dsimp only at hS); go_simp; try (with_reducible rfl)); simp only [Act.put, List.setIfInBounds_toArray, List.set_cons_zero, List.set_cons_succ]) | (refine z_no (by rfl) ?_; simp only [Act.put, List.setIfInBounds_toArray, List.set_cons_zero, List.set_cons_succ]))
      refine z_nil ?_
      go_wp2_with fail
      go_roundw
      case rel => exact ⟨k + 1, by go_num, by omega, HO5, HB5⟩
      case measure => simp [intOf]; omega
    · obtain rfl : k = l.length := by omega
      have d0 : decide ((l.length : Int) < (l.length : Int)) = false := by simp
      rw [HBE.out] at HO
      obtain ⟨AK, cK, rfl, hcK, hK0⟩ := HO.out.lst
      have HKK := Lib.hid hK0
      have hbb := hb.out
      clear HO hb hK0 HBE HNX HLN
      have a_14 := Lib.hid (a_13.out.on hbb)
      have l_14 := Lib.hid (l_13.out.on hbb)
      have B_14 := Lib.hid (B_13.out.trans (hbb.mono B_13.out.size))
      have x_14 := Lib.hid (x_13.out.on hbb)
      have y_14 := Lib.hid (y_13.out.on hbb)
      clear a_13 l_13 B_13 x_13 y_13
      clear hbb
      go_wp2_with fail
      refine (HSB.out _ _ _ _ _ y_14.out HKK.out).mono ?_
      rintro e w12 ⟨rfl, hb⟩
      clear y_14
      have a_15 := Lib.hid (a_14.out.on hb)
      have l_15 := Lib.hid (l_14.out.on hb)
      have B_15 := Lib.hid (B_14.out.trans (hb.mono B_14.out.size))
      have x_15 := Lib.hid (x_14.out.on hb)
      clear a_14 l_14 B_14 x_14
      clear hb
      clear HKK
      go_wp2_with fail
      refine (HPA.out _ _ _ a_15.out).mono ?_
      rintro e w13 ⟨rfl, hb⟩
      have a_16 := Lib.hid (a_15.out.on hb)
      have l_16 := Lib.hid (l_15.out.on hb)
      have B_16 := Lib.hid (B_15.out.trans (hb.mono B_15.out.size))
      have x_16 := Lib.hid (x_15.out.on hb)
      clear a_15 l_15 B_15 x_15
      clear hb
      go_wp2_with fail
      refine (HRA.out _ _ _ _ _ a_16.out l_16.out).mono ?_
      rintro e w14 ⟨v14, rfl, ho, hb⟩
      clear a_16
      clear l_16
      have B_17 := Lib.hid (B_16.out.trans (hb.mono B_16.out.size))
      have x_17 := Lib.hid (x_16.out.on hb)
      clear B_16 x_16
      obtain ⟨Az, kz, rfl, hkz, hu⟩ := ho.lst
      have z_18 := Lib.hid (hu)
      clear ho hu
      clear hb
      go_wp2_with fail
      refine (HSX.out _ _ _ _ _ x_17.out z_18.out).mono ?_
      rintro e w15 ⟨rfl, hb⟩
      clear x_17
      clear z_18
      have B_19 := Lib.hid (B_17.out.trans (hb.mono B_17.out.size))
      clear B_17
      clear hb
      go_wp2_with fail
      refine (awake_any _).mono ?_
      rintro e w99 ⟨rfl, hb99⟩
      go_wp2_with fail
      go_ret
      exact ⟨rfl, B_19.out.trans (hb99.mono B_19.out.size)⟩

set_option maxRecDepth 100000 in
set_option maxHeartbeats 4000000 in
theorem w_d0 (A : Option Addr) (ca : Nat) (a0 : List Pu) (B : Option Addr) (cb : Nat) (b0 : List Pu) (L : Option Addr) (cl : Nat) (l0 : List Mv) (w : World) (hca : a0.length ≤ ca) (hma : ca ≤ maxLen) (ha : Us w A a0) (sa : ShrtU a0) (hcb : b0.length ≤ cb) (hmb : cb ≤ maxLen) (hb : Us w B b0) (sb : ShrtU b0) (hcl : l0.length ≤ cl) (hml : cl ≤ maxLen) (hl : Vs w L l0) (sl : FitV l0) (h1 : putB (a0.take 101) = true) (h2 : putB (b0.take 101) = true) (h3 : movB (l0.take 101) = false) (h4 : decide (100 < (difP (a0.take 101) (b0.take 101)).length) = false) :
    Calls Try.prog 3 #[.slice A a0.length ca, .slice B b0.length cb, .slice L l0.length cl] w fun e w' => e = .returned (.bool true) ∧ Below w.heap.size w w' := by
  have HPa := Lib.hid (puts_any A ca a0 w hca hma ha)
  rw [← take_len a0] at HPa
  have Ha_0 := Lib.hid (ha.take 101)
  have Sa := (sa.take 101).map
  have hla : (a0.take 101).length ≤ 101 := by rw [take_len]; omega
  have HPb := Lib.hid (puts_any B cb b0 w hcb hmb hb)
  rw [← take_len b0] at HPb
  have Hb_0 := Lib.hid (hb.take 101)
  have Sb := (sb.take 101).map
  have hlb : (b0.take 101).length ≤ 101 := by rw [take_len]; omega
  have HPl := Lib.hid (moves_any L cl l0 w hcl hml hl)
  rw [← take_len l0] at HPl
  have Hl_0 := Lib.hid (hl.take 101)
  have Sl := (sl.take 101).map
  have hll : (l0.take 101).length ≤ 101 := by rw [take_len]; omega
  generalize a0.take 101 = a at *
  generalize b0.take 101 = b at *
  generalize l0.take 101 = l at *
  generalize a0.length = na at *
  generalize b0.length = nb at *
  generalize l0.length = nl at *
  have B_0 := Lib.hid (Below.refl w.heap.size w)
  clear hca hma ha sa
  clear hcb hmb hb sb
  clear hcl hml hl sl
  have HD := Lib.hid (fun (A B : Option Addr) (ca cb : Nat) (W : World) (hA : Us W A a) (hB : Us W B b) => diff_any A B ca cb a b W (by omega) (by omega) hA hB Sa Sb)
  have HA := Lib.hid (fun (A B : Option Addr) (ca cb : Nat) (W : World) (hA : Us W A a) (hB : Vs W B l) => apply_any A B ca cb a l W (by omega) (by omega) hA hB Sa Sl)
  have HK := Lib.hid (fun (A : Option Addr) (ca : Nat) (W : World) (hA : Vs W A l) => back_any A ca l W (by omega) hA Sl)
  have HCK := Lib.hid (fun (A : Option Addr) (c : Nat) (W : World) (h : Vs W A l) => chkV_any A c l W (by omega) h Sl false h3)
  have HMM := Lib.hid (fun (A : Option Addr) (c : Nat) (W : World) (h : Vs W A l) => rmayV_any A c l W (by omega) h Sl false h3)
  have HPA := Lib.hid (fun (A : Option Addr) (c : Nat) (W : World) (h : Us W A a) => rmay_any A c a W (by omega) h Sa true h1)
  have HPB := Lib.hid (fun (A : Option Addr) (c : Nat) (W : World) (h : Us W A b) => rmay_any A c b W (by omega) h Sb true h2)
  have ok1 : okE false = 1 := rfl
  have e1 : dE a b = 0 := by unfold dE; rw [h1, h2, h4]; rfl
  have e2 : dR a b = difP a b := (dE_zero e1).2.2.2
  have HRD := Lib.hid (fun (A B : Option Addr) (ca cb : Nat) (W : World) (hA : Us W A a) (hB : Us W B b) => rdiff_any A B ca cb a b W (by omega) (by omega) hA hB)
  have hdl : (difP a b).length ≤ 100 := by simpa using h4
  have HSD := Lib.hid (fun (A B : Option Addr) (ca cb : Nat) (W : World) (hA : Vs W A (difP a b)) (hB : Vs W B (difP a b)) => same_mvs A B ca cb _ _ W (by omega) hA hB true (by simp))
  have q1 : decide ((100 : Int) < ((difP a b).length : Int)) = false := by rw [← h4]; exact decide_eq_decide.2 (by omega)
  have q2 : decide (100 < (difP a b).length) = false := h4
  have q3 : decide (((difP a b).length : Int) ≤ 100) = true := decide_eq_true (by have := h4; simp at this; omega)
  have q4 : decide ((difP a b).length ≤ 100) = true := decide_eq_true (by have := h4; simp at this; omega)
  rw [e1, e2] at HD
  have e3 : bE l = 1 := by unfold bE; rw [h3]; rfl
  have e4 : bR l = [] := by unfold bR; rw [h3]; rfl
  rw [e3, e4] at HK
  have e5 : aE a l = 1 := by unfold aE; rw [h1, h3]; rfl
  have e6 : aR a l = [] := aR_of (by rw [e5]; decide)
  rw [e5, e6] at HA
  generalize difP a b = dd at *
  clear Sa Sb Sl h1 h2 h3 h4 e1 e2 hdl e3 e4 e5 e6 hla hlb
  go_enter Try.func3, Try.ntmps3
  go_wp2_with fail
  refine HPa.out.mono ?_
  rintro e w0 ⟨rfl, rfl⟩
  go_wp2_with fail
  refine HPb.out.mono ?_
  rintro e w0 ⟨rfl, rfl⟩
  go_wp2_with fail
  refine HPl.out.mono ?_
  rintro e w0 ⟨rfl, rfl⟩
  clear HPa HPb HPl
  go_wp2_with fail
  refine (HD.out _ _ _ _ _ Ha_0.out Hb_0.out).mono ?_
  rintro e w2 ⟨v2, rfl, ho, hb⟩
  have a_1 := Lib.hid (Ha_0.out.on hb)
  have b_1 := Lib.hid (Hb_0.out.on hb)
  have l_1 := Lib.hid (Hl_0.out.on hb)
  have B_1 := Lib.hid (B_0.out.trans (hb.mono B_0.out.size))
  clear Ha_0 Hb_0 Hl_0 B_0
  obtain ⟨Ad, kd, rfl, hkd, hu⟩ := ho.lst
  have d_2 := Lib.hid (hu)
  clear ho hu
  clear hb
  go_wp2_with fail
  refine (HA.out _ _ _ _ _ a_1.out l_1.out).mono ?_
  rintro e w3 ⟨v3, rfl, ho, hb⟩
  have a_3 := Lib.hid (a_1.out.on hb)
  have b_3 := Lib.hid (b_1.out.on hb)
  have l_3 := Lib.hid (l_1.out.on hb)
  have B_3 := Lib.hid (B_1.out.trans (hb.mono B_1.out.size))
  have d_3 := Lib.hid (d_2.out.on hb)
  clear a_1 b_1 l_1 B_1 d_2
  obtain ⟨Ax, kx, rfl, hkx, hu⟩ := ho.lst
  have x_4 := Lib.hid (hu)
  clear ho hu
  clear hb
  go_wp2_with fail
  refine (HK.out _ _ _ l_3.out).mono ?_
  rintro e w4 ⟨v4, rfl, ho, hb⟩
  have a_5 := Lib.hid (a_3.out.on hb)
  have b_5 := Lib.hid (b_3.out.on hb)
  have l_5 := Lib.hid (l_3.out.on hb)
  have B_5 := Lib.hid (B_3.out.trans (hb.mono B_3.out.size))
  have d_5 := Lib.hid (d_3.out.on hb)
  have x_5 := Lib.hid (x_4.out.on hb)
  clear a_3 b_3 l_3 B_3 d_3 x_4
  obtain ⟨Ay, ky, rfl, hky, hu⟩ := ho.lst
  have y_6 := Lib.hid (hu)
  clear ho hu
  clear hb
  go_wp2_with fail
  refine (HCK.out _ _ _ l_5.out).mono ?_
  rintro e w5 ⟨rfl, hb⟩
  have a_7 := Lib.hid (a_5.out.on hb)
  have b_7 := Lib.hid (b_5.out.on hb)
  have l_7 := Lib.hid (l_5.out.on hb)
  have B_7 := Lib.hid (B_5.out.trans (hb.mono B_5.out.size))
  have d_7 := Lib.hid (d_5.out.on hb)
  have x_7 := Lib.hid (x_5.out.on hb)
  have y_7 := Lib.hid (y_6.out.on hb)
  clear a_5 b_5 l_5 B_5 d_5 x_5 y_6
  clear hb
  go_wp2_with fail
  refine (HMM.out _ _ _ l_7.out).mono ?_
  rintro e w6 ⟨rfl, hb⟩
  have a_8 := Lib.hid (a_7.out.on hb)
  have b_8 := Lib.hid (b_7.out.on hb)
  have l_8 := Lib.hid (l_7.out.on hb)
  have B_8 := Lib.hid (B_7.out.trans (hb.mono B_7.out.size))
  have d_8 := Lib.hid (d_7.out.on hb)
  have x_8 := Lib.hid (x_7.out.on hb)
  have y_8 := Lib.hid (y_7.out.on hb)
  clear a_7 b_7 l_7 B_7 d_7 x_7 y_7
  clear hb
  go_wp2_with fail
  refine (HPA.out _ _ _ a_8.out).mono ?_
  rintro e w7 ⟨rfl, hb⟩
  have a_9 := Lib.hid (a_8.out.on hb)
  have b_9 := Lib.hid (b_8.out.on hb)
  have l_9 := Lib.hid (l_8.out.on hb)
  have B_9 := Lib.hid (B_8.out.trans (hb.mono B_8.out.size))
  have d_9 := Lib.hid (d_8.out.on hb)
  have x_9 := Lib.hid (x_8.out.on hb)
  have y_9 := Lib.hid (y_8.out.on hb)
  clear a_8 b_8 l_8 B_8 d_8 x_8 y_8
  clear hb
  go_wp2_with fail
  refine (HPB.out _ _ _ b_9.out).mono ?_
  rintro e w8 ⟨rfl, hb⟩
  have a_10 := Lib.hid (a_9.out.on hb)
  have b_10 := Lib.hid (b_9.out.on hb)
  have l_10 := Lib.hid (l_9.out.on hb)
  have B_10 := Lib.hid (B_9.out.trans (hb.mono B_9.out.size))
  have d_10 := Lib.hid (d_9.out.on hb)
  have x_10 := Lib.hid (x_9.out.on hb)
  have y_10 := Lib.hid (y_9.out.on hb)
  clear a_9 b_9 l_9 B_9 d_9 x_9 y_9
  clear hb
  go_wp2_with fail
  refine (HRD.out _ _ _ _ _ a_10.out b_10.out).mono ?_
  rintro e w9 ⟨v9, rfl, ho, hb⟩
  have a_11 := Lib.hid (a_10.out.on hb)
  have b_11 := Lib.hid (b_10.out.on hb)
  have l_11 := Lib.hid (l_10.out.on hb)
  have B_11 := Lib.hid (B_10.out.trans (hb.mono B_10.out.size))
  have d_11 := Lib.hid (d_10.out.on hb)
  have x_11 := Lib.hid (x_10.out.on hb)
  have y_11 := Lib.hid (y_10.out.on hb)
  clear a_10 b_10 l_10 B_10 d_10 x_10 y_10
  obtain ⟨Ag, kg, rfl, hkg, hu⟩ := ho.lst
  have g_12 := Lib.hid (hu)
  clear ho hu
  clear hb
  clear b_11
  go_wp2_with fail
  refine (HSD.out _ _ _ _ _ d_11.out g_12.out).mono ?_
  rintro e w10 ⟨rfl, hb⟩
  have a_13 := Lib.hid (a_11.out.on hb)
  have l_13 := Lib.hid (l_11.out.on hb)
  have B_13 := Lib.hid (B_11.out.trans (hb.mono B_11.out.size))
  have d_13 := Lib.hid (d_11.out.on hb)
  have x_13 := Lib.hid (x_11.out.on hb)
  have y_13 := Lib.hid (y_11.out.on hb)
  have g_13 := Lib.hid (g_12.out.on hb)
  clear a_11 l_11 B_11 d_11 x_11 y_11 g_12
  clear hb
  clear g_13
  clear d_13
  go_wp2_with fail
  refine (HMM.out _ _ _ l_13.out).mono ?_
  rintro e w11 ⟨rfl, hb⟩
  have a_14 := Lib.hid (a_13.out.on hb)
  have l_14 := Lib.hid (l_13.out.on hb)
  have B_14 := Lib.hid (B_13.out.trans (hb.mono B_13.out.size))
  have x_14 := Lib.hid (x_13.out.on hb)
  have y_14 := Lib.hid (y_13.out.on hb)
  clear a_13 l_13 B_13 x_13 y_13
  clear hb
  go_wp2_with fail
  refine (awake_any _).mono ?_
  rintro e w99 ⟨rfl, hb99⟩
  go_wp2_with fail
  go_ret
  exact ⟨rfl, B_14.out.trans (hb99.mono B_14.out.size)⟩

set_option maxRecDepth 100000 in
set_option maxHeartbeats 4000000 in
theorem w_d1 (A : Option Addr) (ca : Nat) (a0 : List Pu) (B : Option Addr) (cb : Nat) (b0 : List Pu) (L : Option Addr) (cl : Nat) (l0 : List Mv) (w : World) (hca : a0.length ≤ ca) (hma : ca ≤ maxLen) (ha : Us w A a0) (sa : ShrtU a0) (hcb : b0.length ≤ cb) (hmb : cb ≤ maxLen) (hb : Us w B b0) (sb : ShrtU b0) (hcl : l0.length ≤ cl) (hml : cl ≤ maxLen) (hl : Vs w L l0) (sl : FitV l0) (h1 : putB (a0.take 101) = true) (h2 : putB (b0.take 101) = true) (h3 : movB (l0.take 101) = true) (h4 : decide (100 < (difP (a0.take 101) (b0.take 101)).length) = false) :
    Calls Try.prog 3 #[.slice A a0.length ca, .slice B b0.length cb, .slice L l0.length cl] w fun e w' => e = .returned (.bool true) ∧ Below w.heap.size w w' := by
  have HPa := Lib.hid (puts_any A ca a0 w hca hma ha)
  rw [← take_len a0] at HPa
  have Ha_0 := Lib.hid (ha.take 101)
  have Sa := (sa.take 101).map
  have hla : (a0.take 101).length ≤ 101 := by rw [take_len]; omega
  have HPb := Lib.hid (puts_any B cb b0 w hcb hmb hb)
  rw [← take_len b0] at HPb
  have Hb_0 := Lib.hid (hb.take 101)
  have Sb := (sb.take 101).map
  have hlb : (b0.take 101).length ≤ 101 := by rw [take_len]; omega
  have HPl := Lib.hid (moves_any L cl l0 w hcl hml hl)
  rw [← take_len l0] at HPl
  have Hl_0 := Lib.hid (hl.take 101)
  have Sl := (sl.take 101).map
  have hll : (l0.take 101).length ≤ 101 := by rw [take_len]; omega
  generalize a0.take 101 = a at *
  generalize b0.take 101 = b at *
  generalize l0.take 101 = l at *
  generalize a0.length = na at *
  generalize b0.length = nb at *
  generalize l0.length = nl at *
  have B_0 := Lib.hid (Below.refl w.heap.size w)
  clear hca hma ha sa
  clear hcb hmb hb sb
  clear hcl hml hl sl
  have HD := Lib.hid (fun (A B : Option Addr) (ca cb : Nat) (W : World) (hA : Us W A a) (hB : Us W B b) => diff_any A B ca cb a b W (by omega) (by omega) hA hB Sa Sb)
  have HA := Lib.hid (fun (A B : Option Addr) (ca cb : Nat) (W : World) (hA : Us W A a) (hB : Vs W B l) => apply_any A B ca cb a l W (by omega) (by omega) hA hB Sa Sl)
  have HK := Lib.hid (fun (A : Option Addr) (ca : Nat) (W : World) (hA : Vs W A l) => back_any A ca l W (by omega) hA Sl)
  have HCK := Lib.hid (fun (A : Option Addr) (c : Nat) (W : World) (h : Vs W A l) => chkV_any A c l W (by omega) h Sl true h3)
  have HMM := Lib.hid (fun (A : Option Addr) (c : Nat) (W : World) (h : Vs W A l) => rmayV_any A c l W (by omega) h Sl true h3)
  have HPA := Lib.hid (fun (A : Option Addr) (c : Nat) (W : World) (h : Us W A a) => rmay_any A c a W (by omega) h Sa true h1)
  have HPB := Lib.hid (fun (A : Option Addr) (c : Nat) (W : World) (h : Us W A b) => rmay_any A c b W (by omega) h Sb true h2)
  have ok1 : okE true = 0 := rfl
  have e1 : dE a b = 0 := by unfold dE; rw [h1, h2, h4]; rfl
  have e2 : dR a b = difP a b := (dE_zero e1).2.2.2
  have HRD := Lib.hid (fun (A B : Option Addr) (ca cb : Nat) (W : World) (hA : Us W A a) (hB : Us W B b) => rdiff_any A B ca cb a b W (by omega) (by omega) hA hB)
  have hdl : (difP a b).length ≤ 100 := by simpa using h4
  have HSD := Lib.hid (fun (A B : Option Addr) (ca cb : Nat) (W : World) (hA : Vs W A (difP a b)) (hB : Vs W B (difP a b)) => same_mvs A B ca cb _ _ W (by omega) hA hB true (by simp))
  have q1 : decide ((100 : Int) < ((difP a b).length : Int)) = false := by rw [← h4]; exact decide_eq_decide.2 (by omega)
  have q2 : decide (100 < (difP a b).length) = false := h4
  have q3 : decide (((difP a b).length : Int) ≤ 100) = true := decide_eq_true (by have := h4; simp at this; omega)
  have q4 : decide ((difP a b).length ≤ 100) = true := decide_eq_true (by have := h4; simp at this; omega)
  rw [e1, e2] at HD
  have e3 : bE l = 0 := by unfold bE; rw [if_pos h3]
  have e4 : bR l = backP l := by unfold bR; rw [if_pos h3]
  rw [e3, e4] at HK
  have HOM := (movB_iff l).1 h3
  have HRA := Lib.hid (fun (A B : Option Addr) (ca cb : Nat) (W : World) (hA : Us W A a) (hB : Vs W B l) => rapply_any A B ca cb a l W (by omega) (by omega) hA hB HOM.rise _ rfl)
  have e5 : aE a l = if staB a l then 8 else if decide (100 < (apP a l).length) then 9 else 0 := by unfold aE; rw [h1, h3]; rfl
  have e6 : (if staB a l || decide (100 < (apP a l).length) then [] else apP a l) = aR a l := by
      unfold aR
      rw [e5]
      cases staB a l <;> cases decide (100 < (apP a l).length) <;> rfl
  rw [← e5, e6] at HRA
  have hxl := aR_len a l
  have HSX := Lib.hid (fun (A B : Option Addr) (ca cb : Nat) (W : World) (hA : Us W A (aR a l)) (hB : Us W B (aR a l)) => same_puts A B ca cb _ _ W hxl hA hB true (by simp))
  have qE : (aE a l == aE a l) = true := by simp
  generalize aR a l = X at *
  generalize aE a l = E at *
  have hkl : (backP l).length ≤ 101 := by rw [backP_len]; omega
  have HSB := Lib.hid (fun (A B : Option Addr) (ca cb : Nat) (W : World) (hA : Vs W A (backP l)) (hB : Vs W B (backP l)) => same_mvs A B ca cb _ _ W (by omega) hA hB true (by simp))
  have HBE : Hid ((l.take l.length).map backM = backP l) := Lib.hid (by rw [List.take_length]; rfl)
  have HNX := Lib.hid (back_next l)
  have HLN : Hid (∀ k, ((l.take k).map backM).length ≤ k) := Lib.hid (fun k => by simp; omega)
  generalize backP l = K at *
  generalize difP a b = dd at *
  clear Sa Sb Sl h1 h2 h3 h4 e1 e2 hdl e3 e4 HOM e5 e6 hxl hkl hla hlb
  go_enter Try.func3, Try.ntmps3
  go_wp2_with fail
  refine HPa.out.mono ?_
  rintro e w0 ⟨rfl, rfl⟩
  go_wp2_with fail
  refine HPb.out.mono ?_
  rintro e w0 ⟨rfl, rfl⟩
  go_wp2_with fail
  refine HPl.out.mono ?_
  rintro e w0 ⟨rfl, rfl⟩
  clear HPa HPb HPl
  go_wp2_with fail
  refine (HD.out _ _ _ _ _ Ha_0.out Hb_0.out).mono ?_
  rintro e w2 ⟨v2, rfl, ho, hb⟩
  have a_1 := Lib.hid (Ha_0.out.on hb)
  have b_1 := Lib.hid (Hb_0.out.on hb)
  have l_1 := Lib.hid (Hl_0.out.on hb)
  have B_1 := Lib.hid (B_0.out.trans (hb.mono B_0.out.size))
  clear Ha_0 Hb_0 Hl_0 B_0
  obtain ⟨Ad, kd, rfl, hkd, hu⟩ := ho.lst
  have d_2 := Lib.hid (hu)
  clear ho hu
  clear hb
  go_wp2_with fail
  refine (HA.out _ _ _ _ _ a_1.out l_1.out).mono ?_
  rintro e w3 ⟨v3, rfl, ho, hb⟩
  have a_3 := Lib.hid (a_1.out.on hb)
  have b_3 := Lib.hid (b_1.out.on hb)
  have l_3 := Lib.hid (l_1.out.on hb)
  have B_3 := Lib.hid (B_1.out.trans (hb.mono B_1.out.size))
  have d_3 := Lib.hid (d_2.out.on hb)
  clear a_1 b_1 l_1 B_1 d_2
  obtain ⟨Ax, kx, rfl, hkx, hu⟩ := ho.lst
  have x_4 := Lib.hid (hu)
  clear ho hu
  clear hb
  go_wp2_with fail
  refine (HK.out _ _ _ l_3.out).mono ?_
  rintro e w4 ⟨v4, rfl, ho, hb⟩
  have a_5 := Lib.hid (a_3.out.on hb)
  have b_5 := Lib.hid (b_3.out.on hb)
  have l_5 := Lib.hid (l_3.out.on hb)
  have B_5 := Lib.hid (B_3.out.trans (hb.mono B_3.out.size))
  have d_5 := Lib.hid (d_3.out.on hb)
  have x_5 := Lib.hid (x_4.out.on hb)
  clear a_3 b_3 l_3 B_3 d_3 x_4
  obtain ⟨Ay, ky, rfl, hky, hu⟩ := ho.lst
  have y_6 := Lib.hid (hu)
  clear ho hu
  clear hb
  go_wp2_with fail
  refine (HCK.out _ _ _ l_5.out).mono ?_
  rintro e w5 ⟨rfl, hb⟩
  have a_7 := Lib.hid (a_5.out.on hb)
  have b_7 := Lib.hid (b_5.out.on hb)
  have l_7 := Lib.hid (l_5.out.on hb)
  have B_7 := Lib.hid (B_5.out.trans (hb.mono B_5.out.size))
  have d_7 := Lib.hid (d_5.out.on hb)
  have x_7 := Lib.hid (x_5.out.on hb)
  have y_7 := Lib.hid (y_6.out.on hb)
  clear a_5 b_5 l_5 B_5 d_5 x_5 y_6
  clear hb
  go_wp2_with fail
  refine (HMM.out _ _ _ l_7.out).mono ?_
  rintro e w6 ⟨rfl, hb⟩
  have a_8 := Lib.hid (a_7.out.on hb)
  have b_8 := Lib.hid (b_7.out.on hb)
  have l_8 := Lib.hid (l_7.out.on hb)
  have B_8 := Lib.hid (B_7.out.trans (hb.mono B_7.out.size))
  have d_8 := Lib.hid (d_7.out.on hb)
  have x_8 := Lib.hid (x_7.out.on hb)
  have y_8 := Lib.hid (y_7.out.on hb)
  clear a_7 b_7 l_7 B_7 d_7 x_7 y_7
  clear hb
  go_wp2_with fail
  refine (HPA.out _ _ _ a_8.out).mono ?_
  rintro e w7 ⟨rfl, hb⟩
  have a_9 := Lib.hid (a_8.out.on hb)
  have b_9 := Lib.hid (b_8.out.on hb)
  have l_9 := Lib.hid (l_8.out.on hb)
  have B_9 := Lib.hid (B_8.out.trans (hb.mono B_8.out.size))
  have d_9 := Lib.hid (d_8.out.on hb)
  have x_9 := Lib.hid (x_8.out.on hb)
  have y_9 := Lib.hid (y_8.out.on hb)
  clear a_8 b_8 l_8 B_8 d_8 x_8 y_8
  clear hb
  go_wp2_with fail
  refine (HPB.out _ _ _ b_9.out).mono ?_
  rintro e w8 ⟨rfl, hb⟩
  have a_10 := Lib.hid (a_9.out.on hb)
  have b_10 := Lib.hid (b_9.out.on hb)
  have l_10 := Lib.hid (l_9.out.on hb)
  have B_10 := Lib.hid (B_9.out.trans (hb.mono B_9.out.size))
  have d_10 := Lib.hid (d_9.out.on hb)
  have x_10 := Lib.hid (x_9.out.on hb)
  have y_10 := Lib.hid (y_9.out.on hb)
  clear a_9 b_9 l_9 B_9 d_9 x_9 y_9
  clear hb
  go_wp2_with fail
  refine (HRD.out _ _ _ _ _ a_10.out b_10.out).mono ?_
  rintro e w9 ⟨v9, rfl, ho, hb⟩
  have a_11 := Lib.hid (a_10.out.on hb)
  have b_11 := Lib.hid (b_10.out.on hb)
  have l_11 := Lib.hid (l_10.out.on hb)
  have B_11 := Lib.hid (B_10.out.trans (hb.mono B_10.out.size))
  have d_11 := Lib.hid (d_10.out.on hb)
  have x_11 := Lib.hid (x_10.out.on hb)
  have y_11 := Lib.hid (y_10.out.on hb)
  clear a_10 b_10 l_10 B_10 d_10 x_10 y_10
  obtain ⟨Ag, kg, rfl, hkg, hu⟩ := ho.lst
  have g_12 := Lib.hid (hu)
  clear ho hu
  clear hb
  clear b_11
  go_wp2_with fail
  refine (HSD.out _ _ _ _ _ d_11.out g_12.out).mono ?_
  rintro e w10 ⟨rfl, hb⟩
  have a_13 := Lib.hid (a_11.out.on hb)
  have l_13 := Lib.hid (l_11.out.on hb)
  have B_13 := Lib.hid (B_11.out.trans (hb.mono B_11.out.size))
  have d_13 := Lib.hid (d_11.out.on hb)
  have x_13 := Lib.hid (x_11.out.on hb)
  have y_13 := Lib.hid (y_11.out.on hb)
  have g_13 := Lib.hid (g_12.out.on hb)
  clear a_11 l_11 B_11 d_11 x_11 y_11 g_12
  clear hb
  clear g_13
  clear d_13
  go_wp2_with fail
  refine (HMM.out _ _ _ l_13.out).mono ?_
  rintro e w11 ⟨rfl, hb⟩
  have a_14 := Lib.hid (a_13.out.on hb)
  have l_14 := Lib.hid (l_13.out.on hb)
  have B_14 := Lib.hid (B_13.out.trans (hb.mono B_13.out.size))
  have x_14 := Lib.hid (x_13.out.on hb)
  have y_14 := Lib.hid (y_13.out.on hb)
  clear a_13 l_13 B_13 x_13 y_13
  clear hb
  go_wp2_with fail
  go_loopw [14, 15] (fun v i wr => ∃ k : Nat, i = .int .i64 k ∧ k ≤ l.length ∧ Hid (OwnV wr w11.heap.size v ((l.take k).map backM)) ∧ Hid (Below w11.heap.size w11 wr)) (fun _ i _ => l.length - (intOf i).toNat)
  case atStart => exact ⟨0, rfl, Nat.zero_le _, Lib.hid (OwnV.nil _ _), Lib.hid (Below.refl _ _)⟩
  case round =>
    obtain ⟨wq, ewq⟩ : ∃ wq, wq = wr := ⟨_, rfl⟩
    subst ewq
    obtain ⟨k, rfl, hk, HO, hb⟩ := hrel
    by_cases hlt : k < l.length
    · have k0 : (0 : Int) ≤ (k : Int) := by omega
      have k1 : (k : Int) < (l.length : Int) := by omega
      have k2 : decide ((k : Int) < (l.length : Int)) = true := decide_eq_true k1
      obtain ⟨ad, eL, hlo, m⟩ := (l_14.out.on hb.out) k hlt
      have hlo1 : ad.block < w11.heap.size := by
        obtain ⟨ad', e', h', _⟩ := l_14.out k hlt
        rw [eL] at e'
        obtain rfl := Option.some.inj e'
        exact h'
      obtain ⟨m0, m1, m2⟩ := m.flat
      have HNX1 := Lib.hid (HNX.out k hlt)
      have HLN1 := Lib.hid (HLN.out k)
      generalize (l.take k).map backM = Y at *
      generalize mv l k = mm at *
      obtain ⟨mt, mf, mg⟩ := mm
      simp only at m0 m1 m2
      subst eL
      clear m
      go_upto_region 19 with (fail)
      refine z_enter [(0, true), (1, true), (2, true), (3, true), (4, true), (5, true), (6, true), (7, true), (8, true), (9, true), (10, true), (11, true), (12, true), (13, true), (14, true), (15, true), (16, true), (17, false), (18, false), (19, true)] (fun W => W.cell? (ad.add (k * 3)) = some (.string mt) ∧ W.cell? ⟨(ad.add (k * 3)).block, (ad.add (k * 3)).off + 1, none⟩ = some (.int .i64 mf) ∧ W.cell? ⟨(ad.add (k * 3)).block, (ad.add (k * 3)).off + 2, none⟩ = some (.int .i64 mg)) (by kernel_rfl) (by kernel_rfl) (by kernel_rfl) (fun _ _ d _ _ h => by cases d <;> exact h) ⟨m0, m1, m2⟩ ?_
      simp only [pickL, List.drop_succ_cons, List.drop_zero]
      iterate 17 (first | (refine' z_yes ?_ (by rfl) ?_ ?_; rotate_left; (intro w' hS; (try dsimp only at hS); go_simp; try (with_reducible rfl)); simp only [Act.put, List.setIfInBounds_toArray, List.set_cons_zero, List.set_cons_succ]) | (refine z_no (by rfl) ?_; simp only [Act.put, List.setIfInBounds_toArray, List.set_cons_zero, List.set_cons_succ]))
      obtain ⟨wd, hwd⟩ : ∃ wd, wq.drew = wd := ⟨_, rfl⟩
      have hbd : Below wq.heap.size wq wd := by rw [← hwd]; exact (Below.refl _ _).drew
      rw [hwd]
      have n0 := (hbd.cell (World.block_lt_of_cell? _ _ m0)).trans m0
      have n1 := (hbd.cell (World.block_lt_of_cell? _ _ m1)).trans m1
      have n2 := (hbd.cell (World.block_lt_of_cell? _ _ m2)).trans m2
      have HOd := Lib.hid (HO.out.on hbd)
      have HBd := Lib.hid (hb.out.trans (hbd.mono hb.out.size))
      clear hwd hbd HO hb m0 m1 m2 hlo
      refine z_mem ?_
      intro KK hK
      go_simp
      have hbe : Below wd.heap.size wd (wd.alloc (.cells #[.string mt, .int .i64 mg, .int .i64 mf] 39)) := (Below.refl _ _).alloc (Nat.le_refl _) _
      have o0 := (hbe.cell (World.block_lt_of_cell? _ _ n0)).trans n0
      have o1 := (hbe.cell (World.block_lt_of_cell? _ _ n1)).trans n1
      have o2 := (hbe.cell (World.block_lt_of_cell? _ _ n2)).trans n2
      have HVs : Hid (Vs (wd.alloc (.cells #[.string mt, .int .i64 mg, .int .i64 mf] 39)) (some ⟨wd.heap.size, 0, none⟩) [⟨mt, mg, mf⟩]) := Lib.hid (Vs.one wd ⟨mt, mg, mf⟩ _)
      have HOe := Lib.hid (HOd.out.on hbe)
      have HBe := Lib.hid (HBd.out.trans (hbe.mono HBd.out.size))
      refine hK.out _ _ ⟨o0, o1, o2⟩ ?_
      clear hK hbe n0 n1 n2 HOd HBd
      obtain ⟨we, hwe⟩ : ∃ we, wd.alloc (.cells #[.string mt, .int .i64 mg, .int .i64 mf] 39) = we := ⟨_, rfl⟩
      rw [hwe] at o0 o1 o2 HVs HOe HBe ⊢
      clear hwe
      refine z_mem ?_
      intro KK hK
      rw [if_pos (by rfl)]
      refine wp_appendV _ _ rfl w11.heap.size u14 Y rfl HOe.out (some ⟨wd.heap.size, 0, none⟩) 1 [⟨mt, mg, mf⟩] rfl HVs.out (by have := HLN1.out; simp; omega) HBe.out.size ?_
      intro v' w50 ho5 hg5 _
      have hbl : some (ad.add (k * 3)).block ≠ Value.ownBlock u14 := by intro e; have := (HOe.out.ge _ e.symm).1; rw [block_add] at this; omega
      have r0 := (World.cell?_of_block (hg5.block _ (World.block_lt_of_cell? _ _ o0) hbl)).trans o0
      have r1 := (World.cell?_of_block (a := ⟨(ad.add (k * 3)).block, (ad.add (k * 3)).off + 1, none⟩) (hg5.block _ (World.block_lt_of_cell? _ _ o1) hbl)).trans o1
      have r2 := (World.cell?_of_block (a := ⟨(ad.add (k * 3)).block, (ad.add (k * 3)).off + 2, none⟩) (hg5.block _ (World.block_lt_of_cell? _ _ o2) hbl)).trans o2
      have HB5 := Lib.hid (below_grownV HBe.out HOe.out hg5 HBe.out.size (Nat.le_refl _))
      have HO5 : Hid (OwnV w50 w11.heap.size v' ((l.take (k + 1)).map backM)) := Lib.hid (by rw [HNX1.out]; exact ho5)
      clear ho5 hg5 hbl
      refine hK.out _ _ ⟨r0, r1, r2⟩ ?_
      clear hK o0 o1 o2 r0 r1 r2 HOe HBe HVs
      simp only [Act.put, List.setIfInBounds_toArray, List.set_cons_zero, List.set_cons_succ]
      iterate 1 (first | (refine' z_yes ?_ (by rfl) ?_ ?_; rotate_left; (intro w' hS; (try dsimp only at hS); go_simp; try (with_reducible rfl)); simp only [Act.put, List.setIfInBounds_toArray, List.set_cons_zero, List.set_cons_succ]) | (refine z_no (by rfl) ?_; simp only [Act.put, List.setIfInBounds_toArray, List.set_cons_zero, List.set_cons_succ]))
      refine z_nil ?_
      go_wp2_with fail
      go_roundw
      case rel => exact ⟨k + 1, by go_num, by omega, HO5, HB5⟩
      case measure => simp [intOf]; omega
    · obtain rfl : k = l.length := by omega
      have d0 : decide ((l.length : Int) < (l.length : Int)) = false := by simp
      rw [HBE.out] at HO
      obtain ⟨AK, cK, rfl, hcK, hK0⟩ := HO.out.lst
      have HKK := Lib.hid hK0
      have hbb := hb.out
      clear HO hb hK0 HBE HNX HLN
      have a_15 := Lib.hid (a_14.out.on hbb)
      have l_15 := Lib.hid (l_14.out.on hbb)
      have B_15 := Lib.hid (B_14.out.trans (hbb.mono B_14.out.size))
      have x_15 := Lib.hid (x_14.out.on hbb)
      have y_15 := Lib.hid (y_14.out.on hbb)
      clear a_14 l_14 B_14 x_14 y_14
      clear hbb
      go_wp2_with fail
      refine (HSB.out _ _ _ _ _ y_15.out HKK.out).mono ?_
      rintro e w12 ⟨rfl, hb⟩
      clear y_15
      have a_16 := Lib.hid (a_15.out.on hb)
      have l_16 := Lib.hid (l_15.out.on hb)
      have B_16 := Lib.hid (B_15.out.trans (hb.mono B_15.out.size))
      have x_16 := Lib.hid (x_15.out.on hb)
      clear a_15 l_15 B_15 x_15
      clear hb
      clear HKK
      go_wp2_with fail
      refine (HPA.out _ _ _ a_16.out).mono ?_
      rintro e w13 ⟨rfl, hb⟩
      have a_17 := Lib.hid (a_16.out.on hb)
      have l_17 := Lib.hid (l_16.out.on hb)
      have B_17 := Lib.hid (B_16.out.trans (hb.mono B_16.out.size))
      have x_17 := Lib.hid (x_16.out.on hb)
      clear a_16 l_16 B_16 x_16
      clear hb
      go_wp2_with fail
      refine (HRA.out _ _ _ _ _ a_17.out l_17.out).mono ?_
      rintro e w14 ⟨v14, rfl, ho, hb⟩
      clear a_17
      clear l_17
      have B_18 := Lib.hid (B_17.out.trans (hb.mono B_17.out.size))
      have x_18 := Lib.hid (x_17.out.on hb)
      clear B_17 x_17
      obtain ⟨Az, kz, rfl, hkz, hu⟩ := ho.lst
      have z_19 := Lib.hid (hu)
      clear ho hu
      clear hb
      go_wp2_with fail
      refine (HSX.out _ _ _ _ _ x_18.out z_19.out).mono ?_
      rintro e w15 ⟨rfl, hb⟩
      clear x_18
      clear z_19
      have B_20 := Lib.hid (B_18.out.trans (hb.mono B_18.out.size))
      clear B_18
      clear hb
      go_wp2_with fail
      refine (awake_any _).mono ?_
      rintro e w99 ⟨rfl, hb99⟩
      go_wp2_with fail
      go_ret
      exact ⟨rfl, B_20.out.trans (hb99.mono B_20.out.size)⟩

set_option maxRecDepth 100000 in
set_option maxHeartbeats 4000000 in
theorem walk (A : Option Addr) (ca : Nat) (a0 : List Pu) (B : Option Addr) (cb : Nat) (b0 : List Pu) (L : Option Addr) (cl : Nat) (l0 : List Mv) (w : World) (hca : a0.length ≤ ca) (hma : ca ≤ maxLen) (ha : Us w A a0) (sa : ShrtU a0) (hcb : b0.length ≤ cb) (hmb : cb ≤ maxLen) (hb : Us w B b0) (sb : ShrtU b0) (hcl : l0.length ≤ cl) (hml : cl ≤ maxLen) (hl : Vs w L l0) (sl : FitV l0) :
    Calls Try.prog 3 #[.slice A a0.length ca, .slice B b0.length cb, .slice L l0.length cl] w fun e w' => e = .returned (.bool true) ∧ Below w.heap.size w w' := by
  rcases h1 : putB (a0.take 101) with _ | _
  · rcases h2 : putB (b0.take 101) with _ | _
    · rcases h3 : movB (l0.take 101) with _ | _
      · exact w_a0 A ca a0 B cb b0 L cl l0 w hca hma ha sa hcb hmb hb sb hcl hml hl sl h1 h2 h3
      · exact w_a1 A ca a0 B cb b0 L cl l0 w hca hma ha sa hcb hmb hb sb hcl hml hl sl h1 h2 h3
    · rcases h3 : movB (l0.take 101) with _ | _
      · exact w_a2 A ca a0 B cb b0 L cl l0 w hca hma ha sa hcb hmb hb sb hcl hml hl sl h1 h2 h3
      · exact w_a3 A ca a0 B cb b0 L cl l0 w hca hma ha sa hcb hmb hb sb hcl hml hl sl h1 h2 h3
  · rcases h2 : putB (b0.take 101) with _ | _
    · rcases h3 : movB (l0.take 101) with _ | _
      · exact w_b0 A ca a0 B cb b0 L cl l0 w hca hma ha sa hcb hmb hb sb hcl hml hl sl h1 h2 h3
      · exact w_b1 A ca a0 B cb b0 L cl l0 w hca hma ha sa hcb hmb hb sb hcl hml hl sl h1 h2 h3
    · rcases h4 : decide (100 < (difP (a0.take 101) (b0.take 101)).length) with _ | _
      · rcases h3 : movB (l0.take 101) with _ | _
        · exact w_d0 A ca a0 B cb b0 L cl l0 w hca hma ha sa hcb hmb hb sb hcl hml hl sl h1 h2 h3 h4
        · exact w_d1 A ca a0 B cb b0 L cl l0 w hca hma ha sa hcb hmb hb sb hcl hml hl sl h1 h2 h3 h4
      · rcases h3 : movB (l0.take 101) with _ | _
        · exact w_c0 A ca a0 B cb b0 L cl l0 w hca hma ha sa hcb hmb hb sb hcl hml hl sl h1 h2 h3 h4
        · exact w_c1 A ca a0 B cb b0 L cl l0 w hca hma ha sa hcb hmb hb sb hcl hml hl sl h1 h2 h3 h4

theorem parOk : ∀ t ∈ (#[22, 22, 23] : Array TypeId).toList, Try.prog.readableRec t = true ∧ t < Try.prog.types.size := by
  have hall : ([22, 22, 23].all fun t => Try.prog.readableRec t && decide (t < Try.prog.types.size)) = true := by kernel_rfl
  intro t ht
  simpa using List.all_eq_true.1 hall t ht

set_option maxRecDepth 100000 in
/-- What the walk gives, for every argument. -/
theorem contract (H : Type) (enc : TypeId × Value → H) (W : World) (base : Nat) (args : Array Value) (ds gs : List (DataW H)) (before : List MemPlace)
    (hval : ∀ (j : Nat) t v, Try.f3.params[j]? = some t → args[j]? = some v → Value.okWide Try.prog W .any base t v)
    (hW : DataW.Whole enc Try.prog Try.f3.params.toList Rows.planTellsSpec.vars false W args.toList ds gs before) :
    Calls Try.prog 3 args W fun e W' => ∃ v, e = .returned v ∧ Rows.planTellsSpec.post enc Try.prog Try.f3 false true false false W args v W' := by
  have hW' := hW
  obtain ⟨p, q, hA0, hV, rfl, hfz, hnd⟩ := hW
  have hA : DataW.TrodAll enc Try.prog W 0 (fun _ => true) true Try.f3.params.toList args.toList ds p := hA0
  rw [Try.params3] at hA hval
  obtain ⟨v0, vs0, d0, ds0, p0, q0, hargs, rfl, rfl, h0, r0⟩ := trodAll_cons hA
  obtain ⟨v1, vs1, d1, ds1, p1, q1, rfl, rfl, rfl, h1, r1⟩ := trodAll_cons r0
  obtain ⟨v2, vs2, d2, ds2, p2, q2, rfl, rfl, rfl, h2, r2⟩ := trodAll_cons r1
  obtain ⟨rfl, rfl, rfl⟩ := trodAll_nil r2
  obtain rfl : args = #[v0, v1, v2] := by cases args; simp_all
  obtain ⟨rfl, rfl⟩ := trodVars_none hV
  obtain ⟨A, ca, a0, rfl, hca, hma, ha, sa⟩ := open_puts (hval 0 22 v0 rfl rfl) h0
  obtain ⟨B, cb, b0, rfl, hcb, hmb, hb, sb⟩ := open_puts (hval 1 22 v1 rfl rfl) h1
  obtain ⟨L, cl, l0, rfl, hcl, hml, hl, sl⟩ := open_V (hval 2 23 v2 rfl rfl) h2
  clear hA0
  refine (walk A ca a0 B cb b0 L cl l0 W hca hma ha sa hcb hmb hb sb hcl hml hl sl).mono fun e W' ⟨he, hb⟩ => ?_
  subst he
  exact ⟨_, rfl, law_post rfl (by rw [Try.params3]; exact parOk) rfl hW' rfl rfl rfl hb⟩

set_option maxRecDepth 100000 in
theorem lifted (os : Os) (started : os.Started) (H : Type) (enc : TypeId × Value → H) :
    ReturnsInHanded {} Try.checked os 3 .any (Rows.planTellsSpec.pre6 enc Try.prog Try.f3 Rows.planTellsRow.domain false) (Rows.planTellsSpec.post enc Try.prog Try.f3 false true false false) := by
  refine returnsInHanded_of_change (C := Try.checked) own started (by kernel_rfl) Try.func3
    (ChangeSpec.witness6 (enc := enc) (C := Try.checked) false ⟨#[], #[.slice none 0 0, .slice none 0 0, .slice none 0 0], []⟩ 8 (by kernel_rfl) (by kernel_rfl) (by kernel_rfl) (by kernel_rfl)) ?_
  intro W base args ds gs before hval hW _ _
  exact contract H enc W base args ds gs before hval hW

/-- THE STATEMENT. -/
theorem said : Rows.PlanTellsSaid :=
  OpenClaim.holds_of_wide 3 Try.f3 rfl rfl rfl rfl rfl rfl rfl ⟨rfl, rfl, rfl, rfl, rfl⟩ rfl rfl rfl rfl rfl (by kernel_rfl) Try.func3 (by kernel_rfl)
    (of_decide_eq_true (by kernel_rfl)) (by unfold Func.isWrapper; first | (rw [if_pos (by decide +kernel)]; kernel_rfl) | (rw [if_neg (by decide +kernel)]; exact ⟨rfl, rfl⟩))
    (fun os started H enc _ => lifted os started H enc)
end Go.Proofs.Ytdbndkccgpmkbaa.lawTells
