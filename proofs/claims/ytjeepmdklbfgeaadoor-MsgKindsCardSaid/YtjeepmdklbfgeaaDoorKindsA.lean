/-
  MsgKinds, of some kinds.
-/
import Derived.Test.YtjeepmdklbfgeaaDoorKindsM
import Derived.Test.YtjeepmdklbfgeaaDoorCards
namespace Go.Proofs.YtjeepmdklbfgeaaDoor.lawKinds
open Go.Sort Go.ChangeShapes Go.WideShapes Go.ChangeAt Go.RowKit Go.Proofs.YtjeepmdklbfgeaaDoor.Pure Go.Proofs.YtjeepmdklbfgeaaDoor.W Go.Proofs.YtjeepmdklbfgeaaDoor.W.Pure

set_option maxRecDepth 100000 in
set_option maxHeartbeats 4000000 in
theorem walkA (kd fr tt : Nat) (w : World) (hk : kd ≤ 255) (hf : fr ≤ 255) (htt : tt ≤ 255) (hc : kd % 12 = 4) (ht : Tab w) :
    Calls Tryd.prog 8 #[.int .u8 kd, .int .u8 fr, .int .u8 tt] w fun e w' => e = .returned (.bool true) ∧ Below w.heap.size w w' := by
  obtain ⟨n, hn⟩ : ∃ n : Nat, n = kd % 12 := ⟨_, rfl⟩
  obtain ⟨a, ha⟩ : ∃ a : Nat, a = fr % 64 := ⟨_, rfl⟩
  obtain ⟨b, hb⟩ : ∃ b : Nat, b = tt % 64 := ⟨_, rfl⟩
  have hnl : n < 12 := by omega
  have hal : a < 64 := by omega
  have hbl : b < 64 := by omega
  have m1 : (kd : Int) % 12 = n := by omega
  have m2 : (fr : Int) % 64 = a := by omega
  have m3 : (tt : Int) % 64 = b := by omega
  have n1 : (kd : Int).tmod 12 = n := by rw [Int.tmod_eq_emod_of_nonneg (by omega)]; exact m1
  have n2 : (fr : Int).tmod 64 = a := by rw [Int.tmod_eq_emod_of_nonneg (by omega)]; exact m2
  have n3 : (tt : Int).tmod 64 = b := by rw [Int.tmod_eq_emod_of_nonneg (by omega)]; exact m3
  have w1 : IntKind.i64.wrap (1 + (n : Int)) = 1 + (n : Int) := IntWalk.i64_in _ ⟨by omega, by omega⟩
  have h5 := hc
  rw [← hn] at h5
  have HH5 := Lib.hid h5
  clear h5 hc hn ha hb
  go_enter Tryd.func8, Tryd.ntmps8
  go_upto_region 3 with (fail)
  have HB1 : Hid (Below w.heap.size w (w.alloc (.cells #[.int .i64 (1 + (n : Int)), .int .i64 (a : Int), .int .i64 (b : Int), .int .u64 0, .int .i64 0, .int .u64 0, .int .i64 0, .slice none 0 0, .slice none 0 0, .int .u64 0, .int .u64 0, .int .i64 0, .string ⟨#[]⟩, .int .u64 0, .bool false] 28))) := Lib.hid ((Below.refl _ _).alloc (Nat.le_refl _) _)
  have HR1 : Hid (Row (w.alloc (.cells #[.int .i64 (1 + (n : Int)), .int .i64 (a : Int), .int .i64 (b : Int), .int .u64 0, .int .i64 0, .int .u64 0, .int .i64 0, .slice none 0 0, .slice none 0 0, .int .u64 0, .int .u64 0, .int .i64 0, .string ⟨#[]⟩, .int .u64 0, .bool false] 28)) w.heap.size [.int .i64 (1 + (n : Int)), .int .i64 (a : Int), .int .i64 (b : Int), .int .u64 0, .int .i64 0, .int .u64 0, .int .i64 0, .slice none 0 0, .slice none 0 0, .int .u64 0, .int .u64 0, .int .i64 0, .string ⟨#[]⟩, .int .u64 0, .bool false]) := Lib.hid (Row.new w _ _)
  have HTb : Hid (∀ W : World, Below w.heap.size w W → Tab W) := Lib.hid (fun W hb => ht.on hb)
  have HAw : Hid (∀ W : World, Below w.heap.size w W → Calls Tryd.prog 17 #[] W fun e w' => e = .returned (.bool true) ∧ Below W.heap.size W w') := Lib.hid (fun W hb => awake_any W (HTb.out W hb))
  obtain ⟨x, ex⟩ : ∃ x, x = minM (1 + (n : Int)) a b := ⟨_, rfl⟩
  have HWx : Hid (Wf x) := Lib.hid (ex ▸ wf_min _ _ _)
  have HNo : Hid ((a : Int) = b → mayM x = false) := Lib.hid (fun h => ex ▸ min_same h)
  have HYes : Hid (¬ (a : Int) = b → mayM x = true) := Lib.hid (fun h => ex ▸ min_may ⟨by omega, by omega⟩ ⟨by omega, by omega⟩ ⟨by omega, by omega⟩ h)
  have HFi : Hid (∃ l : List UInt8, sealB (tx (enc x)) = ⟨(UInt8.ofNat (1 + (n : Int)).toNat :: l).toArray⟩ ∧ 4 ≤ l.length) := Lib.hid (by rw [ex]; exact min_first ⟨by omega, by omega⟩)
  have HAb := Lib.hid hal
  clear ht m1 m2 m3 n1 n2 n3 hal hbl
  have hwq : w.heap.size ≤ w.heap.size := Nat.le_refl _
  have k0 := HR1.out.at_ 0 _ rfl
  have k8 := HR1.out.at_ 8 _ rfl
  have k12 := HR1.out.at_ 12 _ rfl
  have hq1 : w.heap.size < (w.alloc (.cells #[.int .i64 (1 + (n : Int)), .int .i64 (a : Int), .int .i64 (b : Int), .int .u64 0, .int .i64 0, .int .u64 0, .int .i64 0, .slice none 0 0, .slice none 0 0, .int .u64 0, .int .u64 0, .int .i64 0, .string ⟨#[]⟩, .int .u64 0, .bool false] 28)).heap.size := by simp
  have hqf := HR1.out.2
  generalize w.alloc (.cells #[.int .i64 (1 + (n : Int)), .int .i64 (a : Int), .int .i64 (b : Int), .int .u64 0, .int .i64 0, .int .u64 0, .int .i64 0, .slice none 0 0, .slice none 0 0, .int .u64 0, .int .u64 0, .int .i64 0, .string ⟨#[]⟩, .int .u64 0, .bool false] 28) = w1 at *
  obtain ⟨q, hq⟩ : ∃ q, q = w.heap.size := ⟨_, rfl⟩
  rw [← hq] at HR1 k0 k8 k12 hqf hq1 ⊢
  have hwq : w.heap.size ≤ q := Nat.le_of_eq hq.symm
  have h5 := HH5.out
  clear hq HH5
  have hn10 : n < 10 := by omega
  have d1 : (1 + (n : Int) == 5) = true := by simp; omega
  have d3 : decide (11 ≤ 1 + (n : Int)) = false := by simp; omega
  have hsz : (w1.setCell ⟨q, 8, none⟩ (.slice (some ⟨w1.heap.size, 0, none⟩) 1 1)).heap.size = w1.heap.size := by simp
  have hlo : Lst ((w1.setCell ⟨q, 8, none⟩ (.slice (some ⟨w1.heap.size, 0, none⟩) 1 1)).alloc (.cells #[.int .u64 0, .int .i64 0] 24)) (some ⟨w1.heap.size, 0, none⟩) [z0] := by have h1 := Lst.one (w1.setCell ⟨q, 8, none⟩ (.slice (some ⟨w1.heap.size, 0, none⟩) 1 1)) z0 24; rw [hsz] at h1; exact h1
  have ex2 : x = { zm with kd := 1 + (n : Int), fr := a, «to» := b, tb := [z0], ts := ⟨#[]⟩ } := by rw [ex]; unfold minM; rw [if_pos (by omega), if_neg (by omega)]
  clear ex h5
  go_upto_region 7 with (fail)
  obtain ⟨w2, e2⟩ : ∃ w2, w2 = (w1.setCell ⟨q, 8, none⟩ (.slice (some ⟨w1.heap.size, 0, none⟩) 1 1)).alloc (.cells #[.int .u64 0, .int .i64 0] 24) := ⟨_, rfl⟩
  have HR2 : Hid (Row w2 q [.int .i64 (1 + (n : Int)), .int .i64 (a : Int), .int .i64 (b : Int), .int .u64 0, .int .i64 0, .int .u64 0, .int .i64 0, .slice none 0 0, .slice (some ⟨w1.heap.size, 0, none⟩) 1 1, .int .u64 0, .int .u64 0, .int .i64 0, .string ⟨#[]⟩, .int .u64 0, .bool false]) := Lib.hid (by rw [e2]; exact (HR1.out.set 8 (show 8 < 15 by decide) _).on ((Below.refl _ _).alloc (Nat.le_refl _) _) (show 0 < 15 by decide))
  have HB2 : Hid (Below w.heap.size w w2) := Lib.hid (by rw [e2]; exact (HB1.out.setCell (p := ⟨q, 8, none⟩) hwq _).alloc (by rw [hsz]; exact HB1.out.size) _)
  have HV2 : Hid (MsgV w2 (.agg #[.int .i64 (1 + (n : Int)), .int .i64 (a : Int), .int .i64 (b : Int), .int .u64 0, .int .i64 0, .int .u64 0, .int .i64 0, .slice none 0 0, .slice (some ⟨w1.heap.size, 0, none⟩) 1 1, .int .u64 0, .int .u64 0, .int .i64 0, .string ⟨#[]⟩, .int .u64 0, .bool false]) x) := Lib.hid (by rw [e2, ex2]; exact ⟨none, 0, some ⟨w1.heap.size, 0, none⟩, 1, rfl, Ns.nil _ _, hlo, Nat.zero_le _, by simp, Nat.zero_le _⟩)
  rw [← e2]
  clear e2 HR1 k0 k8 k12 ex2 hsz hlo
  by_cases hab : (a : Int) = b
  · have hb1 : ((a : Int) == b) = true := by simpa using hab
    have HW := Lib.hid (write_no x _ w2 HV2.out (HNo.out hab))
    clear HNo HYes HAb hab
    go_wp2_with (first
      | (refine wpList_load_mid rfl 28 _ rfl q 0 rfl [.int .i64 (1 + (n : Int)), .int .i64 (a : Int), .int .i64 (b : Int), .int .u64 0, .int .i64 0, .int .u64 0, .int .i64 0, .slice none 0 0, .slice (some ⟨w1.heap.size, 0, none⟩) 1 1, .int .u64 0, .int .u64 0, .int .i64 0, .string ⟨#[]⟩, .int .u64 0, .bool false] _ (row_range HR2.out) Tryd.underlying28 rfl (by kernel_rfl) ?_)
      | (go_at_call 10; refine HW.out.mono ?_; rintro e w3 ⟨rfl, hb3⟩; have HB3 := Lib.hid (HB2.out.trans (hb3.mono HB2.out.size)); clear hb3)
      | (go_at_call 17; refine (HAw.out _ HB3.out).mono ?_; rintro e w4 ⟨rfl, hb4⟩; have HB4 := Lib.hid (HB3.out.trans (hb4.mono HB3.out.size)); clear hb4))
    go_ret
    exact ⟨rfl, HB4.out⟩
  have hb1 : ((a : Int) == b) = false := by simpa using hab
  have hM := HYes.out hab
  obtain ⟨s, hs⟩ : ∃ s, sealB (tx (enc x)) = s := ⟨_, rfl⟩
  have hsl := enc_le hM
  have hss : s.size ≤ 2004 := by rw [← hs, seal_size]; show (enc x).toArray.size + 4 ≤ _; simp; omega
  have hrd : readM s = (x, 0) := by rw [← hs]; exact readM_seal hM HWx.out hsl
  have HW := Lib.hid (write_yes x _ w2 HV2.out HWx.out hM (HTb.out _ HB2.out))
  have HRD := Lib.hid (fun (W : World) (hj : Below w.heap.size w W) => read_any s W (by omega) (HTb.out W hj))
  rw [hrd] at HRD
  rw [hs] at HW
  obtain ⟨lst, hl1, hl2⟩ := HFi.out
  rw [hs] at hl1
  have hs4 : 4 < s.size := by rw [hl1]; show 4 < (_ :: lst).toArray.size; simp; omega
  have hs0 : ∀ h : 0 < s.size, ((s[0]'h).toNat : Int) = 1 + (n : Int) := by
    subst hl1
    intro h
    show ((UInt8.ofNat (1 + (n : Int)).toNat).toNat : Int) = _
    rw [UInt8.toNat_ofNat']
    omega
  have hd4 : decide ((4 : Int) < (s.size : Int)) = true := by simp; omega
  have hs5 : 0 < s.size := by omega
  clear HNo HYes hab hM hsl hrd hs hl1 hl2 lst HWx HFi
  go_upto_region 11 with (first
    | (refine wpList_load_mid rfl 28 _ rfl q 0 rfl [.int .i64 (1 + (n : Int)), .int .i64 (a : Int), .int .i64 (b : Int), .int .u64 0, .int .i64 0, .int .u64 0, .int .i64 0, .slice none 0 0, .slice (some ⟨w1.heap.size, 0, none⟩) 1 1, .int .u64 0, .int .u64 0, .int .i64 0, .string ⟨#[]⟩, .int .u64 0, .bool false] _ (row_range HR2.out) Tryd.underlying28 rfl (by kernel_rfl) ?_)
    | (go_at_call 10; refine HW.out.mono ?_; rintro e w3 ⟨rfl, hb3⟩; have HB3 := Lib.hid (HB2.out.trans (hb3.mono HB2.out.size)); have HR3 := Lib.hid (HR2.out.on hb3 (show 0 < 15 by decide)); have HV3 := Lib.hid (HV2.out.on hb3); clear hb3)
    | (go_at_call 18; refine (HRD.out _ HB3.out).mono ?_; rintro e w4 ⟨v, rfl, hv4, hb4⟩; obtain ⟨A2, cA2, T2, cT2, rfl, g1, g2, g3, g4, g5⟩ := hv4; have HX4 : Hid (MsgV w4 (mvv x (.slice A2 x.ns.length cA2) (.slice T2 x.tb.length cT2)) x) := Lib.hid ⟨A2, cA2, T2, cT2, rfl, g1, g2, g3, g4, g5⟩; have HB4 := Lib.hid (HB3.out.trans (hb4.mono HB3.out.size)); have HR4 := Lib.hid (HR3.out.on hb4 (show 0 < 15 by decide)); have HV4 := Lib.hid (HV3.out.on hb4); clear hb4 g1 g2 g3 g4 g5; unfold mvv))
  have hal : Below w4.heap.size w4 (w4.alloc (.cells #[.int .i64 x.kd, .int .i64 x.fr, .int .i64 x.to, .int .u64 (x.sq : Int), .int .i64 x.wh, .int .u64 x.k.i, .int .i64 x.k.s, (.slice A2 x.ns.length cA2), (.slice T2 x.tb.length cT2), .int .u64 (x.ep : Int), .int .u64 (x.bo : Int), .int .i64 x.ak, .string x.ts, .int .u64 (x.tn : Int), .bool x.gd] 28)) := (Below.refl _ _).alloc (Nat.le_refl _) _
  have HB5 : Hid (Below w.heap.size w (w4.alloc (.cells #[.int .i64 x.kd, .int .i64 x.fr, .int .i64 x.to, .int .u64 (x.sq : Int), .int .i64 x.wh, .int .u64 x.k.i, .int .i64 x.k.s, (.slice A2 x.ns.length cA2), (.slice T2 x.tb.length cT2), .int .u64 (x.ep : Int), .int .u64 (x.bo : Int), .int .i64 x.ak, .string x.ts, .int .u64 (x.tn : Int), .bool x.gd] 28))) := Lib.hid (HB4.out.trans (hal.mono HB4.out.size))
  have HQ5 : Hid (Row (w4.alloc (.cells #[.int .i64 x.kd, .int .i64 x.fr, .int .i64 x.to, .int .u64 (x.sq : Int), .int .i64 x.wh, .int .u64 x.k.i, .int .i64 x.k.s, (.slice A2 x.ns.length cA2), (.slice T2 x.tb.length cT2), .int .u64 (x.ep : Int), .int .u64 (x.bo : Int), .int .i64 x.ak, .string x.ts, .int .u64 (x.tn : Int), .bool x.gd] 28)) w4.heap.size [.int .i64 x.kd, .int .i64 x.fr, .int .i64 x.to, .int .u64 (x.sq : Int), .int .i64 x.wh, .int .u64 x.k.i, .int .i64 x.k.s, (.slice A2 x.ns.length cA2), (.slice T2 x.tb.length cT2), .int .u64 (x.ep : Int), .int .u64 (x.bo : Int), .int .i64 x.ak, .string x.ts, .int .u64 (x.tn : Int), .bool x.gd]) := Lib.hid (Row.new w4 _ _)
  have HR5 := Lib.hid (HR4.out.on hal (show 0 < 15 by decide))
  have HS5 := Lib.hid (fun (W : World) (hj : Below w4.heap.size w4 W) => rsame_msg x x _ _ W (HX4.out.on hj) (HV4.out.on hj))
  rw [show decide (x = x) = true from decide_eq_true rfl] at HS5
  have R2 := Lib.hid (fun r : Regrown => HS5.out (grow (redrawn (w4.alloc (.cells #[.int .i64 x.kd, .int .i64 x.fr, .int .i64 x.to, .int .u64 (x.sq : Int), .int .i64 x.wh, .int .u64 x.k.i, .int .i64 x.k.s, (.slice A2 x.ns.length cA2), (.slice T2 x.tb.length cT2), .int .u64 (x.ep : Int), .int .u64 (x.bo : Int), .int .i64 x.ak, .string x.ts, .int .u64 (x.tn : Int), .bool x.gd] 28)) r.d) r.os) (hal.trans ((below_regrown _ r.d r.os).mono hal.size)))
  have R3 := Lib.hid (fun r : Regrown => HAw.out (grow (redrawn (w4.alloc (.cells #[.int .i64 x.kd, .int .i64 x.fr, .int .i64 x.to, .int .u64 (x.sq : Int), .int .i64 x.wh, .int .u64 x.k.i, .int .i64 x.k.s, (.slice A2 x.ns.length cA2), (.slice T2 x.tb.length cT2), .int .u64 (x.ep : Int), .int .u64 (x.bo : Int), .int .i64 x.ak, .string x.ts, .int .u64 (x.tn : Int), .bool x.gd] 28)) r.d) r.os) (HB5.out.trans ((below_regrown _ r.d r.os).mono HB5.out.size)))
  unfold mvv at R2
  generalize w4.alloc (.cells #[.int .i64 x.kd, .int .i64 x.fr, .int .i64 x.to, .int .u64 (x.sq : Int), .int .i64 x.wh, .int .u64 x.k.i, .int .i64 x.k.s, (.slice A2 x.ns.length cA2), (.slice T2 x.tb.length cT2), .int .u64 (x.ep : Int), .int .u64 (x.bo : Int), .int .i64 x.ak, .string x.ts, .int .u64 (x.tn : Int), .bool x.gd] 28) = w5 at *
  generalize w4.heap.size = q5 at *
  clear hal HX4 HV4 HR4 HB4 HV3 HR3 HB3 HV2 HR2 HB2 HW HRD HS5
  have k0 := HQ5.out.at_ 0 _ rfl
  have k1 := HQ5.out.at_ 1 _ rfl
  have k2 := HQ5.out.at_ 2 _ rfl
  have k3 := HQ5.out.at_ 3 _ rfl
  have k4 := HQ5.out.at_ 4 _ rfl
  have k5 := HQ5.out.at_ 5 _ rfl
  have k6 := HQ5.out.at_ 6 _ rfl
  have k7 := HQ5.out.at_ 7 _ rfl
  have k8 := HQ5.out.at_ 8 _ rfl
  have k9 := HQ5.out.at_ 9 _ rfl
  have k10 := HQ5.out.at_ 10 _ rfl
  have k11 := HQ5.out.at_ 11 _ rfl
  have k12 := HQ5.out.at_ 12 _ rfl
  have k13 := HQ5.out.at_ 13 _ rfl
  have k14 := HQ5.out.at_ 14 _ rfl
  have l0 := HR5.out.at_ 0 _ rfl
  have l1 := HR5.out.at_ 1 _ rfl
  have l2 := HR5.out.at_ 2 _ rfl
  have l3 := HR5.out.at_ 3 _ rfl
  have l4 := HR5.out.at_ 4 _ rfl
  have l5 := HR5.out.at_ 5 _ rfl
  have l6 := HR5.out.at_ 6 _ rfl
  have l7 := HR5.out.at_ 7 _ rfl
  have l8 := HR5.out.at_ 8 _ rfl
  have l9 := HR5.out.at_ 9 _ rfl
  have l10 := HR5.out.at_ 10 _ rfl
  have l11 := HR5.out.at_ 11 _ rfl
  have l12 := HR5.out.at_ 12 _ rfl
  have l13 := HR5.out.at_ 13 _ rfl
  have l14 := HR5.out.at_ 14 _ rfl
  have K0 := fun d os => cell_regrown k0 d os
  have K1 := fun d os => cell_regrown k1 d os
  have K2 := fun d os => cell_regrown k2 d os
  have K3 := fun d os => cell_regrown k3 d os
  have K4 := fun d os => cell_regrown k4 d os
  have K5 := fun d os => cell_regrown k5 d os
  have K6 := fun d os => cell_regrown k6 d os
  have K7 := fun d os => cell_regrown k7 d os
  have K8 := fun d os => cell_regrown k8 d os
  have K9 := fun d os => cell_regrown k9 d os
  have K10 := fun d os => cell_regrown k10 d os
  have K11 := fun d os => cell_regrown k11 d os
  have K12 := fun d os => cell_regrown k12 d os
  have K13 := fun d os => cell_regrown k13 d os
  have K14 := fun d os => cell_regrown k14 d os
  have L0 := fun d os => cell_regrown l0 d os
  have L1 := fun d os => cell_regrown l1 d os
  have L2 := fun d os => cell_regrown l2 d os
  have L3 := fun d os => cell_regrown l3 d os
  have L4 := fun d os => cell_regrown l4 d os
  have L5 := fun d os => cell_regrown l5 d os
  have L6 := fun d os => cell_regrown l6 d os
  have L7 := fun d os => cell_regrown l7 d os
  have L8 := fun d os => cell_regrown l8 d os
  have L9 := fun d os => cell_regrown l9 d os
  have L10 := fun d os => cell_regrown l10 d os
  have L11 := fun d os => cell_regrown l11 d os
  have L12 := fun d os => cell_regrown l12 d os
  have L13 := fun d os => cell_regrown l13 d os
  have L14 := fun d os => cell_regrown l14 d os
  refine q_enter (by kernel_rfl) (by kernel_rfl) ?_
  iterate 27 (refine q_step ?_; intro K hK; go_simp; first | (refine hK _ ?_; clear hK K) | (refine ⟨_, fun q => Calls.regrown_of (by with_reducible exact R2.out q), hK _ ?_⟩; clear hK K) | (refine ⟨_, fun q => Calls.regrown_of (by with_reducible exact R3.out q), hK _ ?_⟩; clear hK K))
  refine q_step ?_
  intro K hK
  go_simp
  refine hK _ ?_
  clear hK K
  refine q_nil ?_
  intro wz hbz
  go_wp2_with fail
  go_ret
  exact ⟨rfl, HB5.out.trans (hbz.mono HB5.out.size)⟩
end Go.Proofs.YtjeepmdklbfgeaaDoor.lawKinds
