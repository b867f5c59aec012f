/-
  The document's Write, of a kind without lists and texts.
-/
import Derived.Test.YtjeepmdklbfgeaaDoorUs
import Derived.Test.YtjeepmdklbfgeaaDoorRowLd
import Derived.Test.YtjeepmdklbfgeaaDoorWire
import Derived.Test.YtjeepmdklbfgeaaDoorRmayM
import Derived.Test.YtjeepmdklbfgeaaDoorReadsP
namespace Go.Proofs.YtjeepmdklbfgeaaDoor
open Go.Sort Go.RowKit Go.Proofs.YtjeepmdklbfgeaaDoor.Pure Go.Proofs.YtjeepmdklbfgeaaDoor.W Go.Proofs.YtjeepmdklbfgeaaDoor.W.Pure

theorem nat_of {z : Int} (h : 0 ≤ z) (h' : z < 18446744073709551616) : IntKind.u64.wrap z = ((z.toNat : Nat) : Int) := by rw [IntWalk.u64_in _ ⟨by omega, by omega⟩]; omega
theorem isN_of {n : Int} (h : isN n = true) : 0 ≤ n ∧ n < 64 := (isN_iff n).1 h
set_option maxRecDepth 100000 in
set_option maxHeartbeats 4000000 in
theorem rwrite_4 (m : Mg) (u : Value) (w : World) (h : MsgV w u m) (hw : Wf m) (hm : mayM m = true) (hk : m.kd = 4) : Calls Tryd.prog 19 #[u] w fun e w' => e = .returned (.string (sealB (tx (enc m)))) ∧ Below w.heap.size w w' := by
  have f1 := isN_of (may_head hm).1
  have f2 := isN_of (may_head hm).2.1
  have f3 := isN_of (may_who hm)
  have f4 := may_ak hm
  have f5 := hw.sq
  have f6 := hw.ep
  have f7 := hw.bo
  obtain ⟨A, cA, T, cT, rfl, hA, hT, l1, l2, l3⟩ := h
  obtain ⟨kd, fr, tt, sq, wh, ⟨ki, ks⟩, ns, tb, ep, bo, ak, ts, tn, gd⟩ := m
  simp only [] at *
  subst hk
  obtain ⟨fr, rfl⟩ := Int.eq_ofNat_of_zero_le f1.1
  obtain ⟨tt, rfl⟩ := Int.eq_ofNat_of_zero_le f2.1
  obtain ⟨wh, rfl⟩ := Int.eq_ofNat_of_zero_le f3.1
  obtain ⟨ak, rfl⟩ := Int.eq_ofNat_of_zero_le f4.1
  have e1 : IntKind.u64.wrap (fr : Int) = (fr : Int) := IntWalk.u64_in _ ⟨by omega, by omega⟩
  have e2 : IntKind.u64.wrap (tt : Int) = (tt : Int) := IntWalk.u64_in _ ⟨by omega, by omega⟩
  have e3 : IntKind.u64.wrap (wh : Int) = (wh : Int) := IntWalk.u64_in _ ⟨by omega, by omega⟩
  have e4 : IntKind.u64.wrap (ak : Int) = (ak : Int) := IntWalk.u64_in _ ⟨by omega, by omega⟩
  have HZ : Hid (∀ z ∈ [4, fr, tt, sq, wh], z < 2 ^ 64) := Lib.hid (by intro z hz; simp only [List.mem_cons, List.not_mem_nil, or_false] at hz; omega)
  have HEnc : Hid ((⟨(nums [4, fr, tt, sq, wh]).toArray⟩ : ByteArray) = tx (enc (⟨4, (fr : Int), (tt : Int), sq, (wh : Int), ⟨ki, ks⟩, ns, tb, ep, bo, (ak : Int), ts, tn, gd⟩ : Mg))) := Lib.hid (by
    unfold tx
    congr 2
    simp [nums, enc, layH, pof, layP])
  have HB01 : Hid (Below w.heap.size w (w.alloc (.cells #[.int .i64 4, .int .i64 (fr : Int), .int .i64 (tt : Int), .int .u64 (sq : Int), .int .i64 (wh : Int), .int .u64 ki, .int .i64 ks, (.slice A ns.length cA), (.slice T tb.length cT), .int .u64 (ep : Int), .int .u64 (bo : Int), .int .i64 (ak : Int), .string ts, .int .u64 (tn : Int), .bool gd] 28))) := Lib.hid ((Below.refl _ _).alloc (Nat.le_refl _) _)
  have HR : Hid (Row (w.alloc (.cells #[.int .i64 4, .int .i64 (fr : Int), .int .i64 (tt : Int), .int .u64 (sq : Int), .int .i64 (wh : Int), .int .u64 ki, .int .i64 ks, (.slice A ns.length cA), (.slice T tb.length cT), .int .u64 (ep : Int), .int .u64 (bo : Int), .int .i64 (ak : Int), .string ts, .int .u64 (tn : Int), .bool gd] 28)) w.heap.size [.int .i64 4, .int .i64 (fr : Int), .int .i64 (tt : Int), .int .u64 (sq : Int), .int .i64 (wh : Int), .int .u64 ki, .int .i64 ks, (.slice A ns.length cA), (.slice T tb.length cT), .int .u64 (ep : Int), .int .u64 (bo : Int), .int .i64 (ak : Int), .string ts, .int .u64 (tn : Int), .bool gd]) := Lib.hid (Row.new w _ _)
  have hlt1 : w.heap.size < (w.alloc (.cells #[.int .i64 4, .int .i64 (fr : Int), .int .i64 (tt : Int), .int .u64 (sq : Int), .int .i64 (wh : Int), .int .u64 ki, .int .i64 ks, (.slice A ns.length cA), (.slice T tb.length cT), .int .u64 (ep : Int), .int .u64 (bo : Int), .int .i64 (ak : Int), .string ts, .int .u64 (tn : Int), .bool gd] 28)).heap.size := by simp
  have HSz : Hid ((tx (enc (⟨4, (fr : Int), (tt : Int), sq, (wh : Int), ⟨ki, ks⟩, ns, tb, ep, bo, (ak : Int), ts, tn, gd⟩ : Mg))).size ≤ 140737488351232) := Lib.hid (by have := enc_le hm; show (enc _).toArray.size ≤ _; simp at this ⊢; omega)
  clear hA hT l1 l2 l3 hm hw f1 f2 f3 f4 f5 f6 f7
  unfold mvv
  simp only []
  go_enter Tryd.func19, Tryd.ntmps19
  go_upto_region 1 with (fail)
  generalize w.alloc (.cells #[.int .i64 4, .int .i64 (fr : Int), .int .i64 (tt : Int), .int .u64 (sq : Int), .int .i64 (wh : Int), .int .u64 ki, .int .i64 ks, (.slice A ns.length cA), (.slice T tb.length cT), .int .u64 (ep : Int), .int .u64 (bo : Int), .int .i64 (ak : Int), .string ts, .int .u64 (tn : Int), .bool gd] 28) = w1 at *
  have k0 := HR.out.at_ 0 _ rfl
  have k1 := HR.out.at_ 1 _ rfl
  have k2 := HR.out.at_ 2 _ rfl
  have k3 := HR.out.at_ 3 _ rfl
  have k4 := HR.out.at_ 4 _ rfl
  have k5 := HR.out.at_ 5 _ rfl
  have k6 := HR.out.at_ 6 _ rfl
  have k7 := HR.out.at_ 7 _ rfl
  have k8 := HR.out.at_ 8 _ rfl
  have k9 := HR.out.at_ 9 _ rfl
  have k10 := HR.out.at_ 10 _ rfl
  have k11 := HR.out.at_ 11 _ rfl
  have k12 := HR.out.at_ 12 _ rfl
  have k13 := HR.out.at_ 13 _ rfl
  have k14 := HR.out.at_ 14 _ rfl
  go_upto_region 2 with (fail)
  have hb2 : Below w1.heap.size w1 (w1.alloc (.cells #[.int .u64 4, .int .u64 (fr : Int), .int .u64 (tt : Int)] 22)) := (Below.refl _ _).alloc (Nat.le_refl _) _
  have HO2 : Hid (OwnU (w1.alloc (.cells #[.int .u64 4, .int .u64 (fr : Int), .int .u64 (tt : Int)] 22)) w1.heap.size (.slice (some ⟨w1.heap.size, 0, none⟩) 3 3) [4, fr, tt]) := Lib.hid (OwnU.new w1 w1.heap.size [4, fr, tt] (Nat.le_refl _) (by unfold maxLen; simp))
  replace HR := Lib.hid (HR.out.kp (Kp.of (S := []) hb2) hlt1 (by simp))
  have HB2 := Lib.hid hb2
  clear k0 k1 k2 k3 k4 k5 k6 k7 k8 k9 k10 k11 k12 k13 k14
  generalize w1.alloc (.cells #[.int .u64 4, .int .u64 (fr : Int), .int .u64 (tt : Int)] 22) = w2 at *
  generalize Value.slice (some ⟨w1.heap.size, 0, none⟩) 3 3 = v2 at *
  clear hb2
  have k2 := HR.out.at_ 0 _ rfl
  have c2 := HR.out.at_ 3 _ rfl
  go_upto_region 5 with (at_builtin; refine wpList_append_fresh (W := w2) rfl _ _ rfl w1.heap.size v2 ([4, fr, tt]) rfl HO2.out HB2.out.size [sq] rfl (by simp) ?_; intro v3 w3 hO hb; have HO3 := Lib.hid hO; have HB3 := Lib.hid (HB2.out.trans hb); replace HR := Lib.hid (HR.out.kp (Kp.of (S := []) hb) hlt1 (by simp)); clear hO hb k2 c2)
  have k3 := HR.out.at_ 0 _ rfl
  have c3 := HR.out.at_ 4 _ rfl
  go_upto_region 7 with (at_builtin; refine wpList_append_fresh (W := w3) rfl _ _ rfl w1.heap.size v3 ([4, fr, tt] ++ [sq]) rfl HO3.out HB3.out.size [wh] rfl (by simp) ?_; intro v4 w4 hO hb; have HO4 := Lib.hid hO; have HB4 := Lib.hid (HB3.out.trans hb); replace HR := Lib.hid (HR.out.kp (Kp.of (S := []) hb) hlt1 (by simp)); clear hO hb k3 c3)
  obtain ⟨AN, cN, rfl, hN⟩ := HO4.out.nums
  have HN := Lib.hid (rnums_any AN cN _ w4 (by simp) HZ.out hN)
  clear hN
  go_wp2_with (first
    | (go_at_call 41; refine HN.out.mono ?_; rintro e wn ⟨rfl, hbn⟩; rw [HEnc.out]; have HBn := Lib.hid (HB4.out.trans (hbn.mono HB4.out.size)); clear hbn)
    | (go_at_call 38; refine (rseal_any _ _ HSz.out).mono ?_; rintro e ws ⟨rfl, hbs⟩; have HBs := Lib.hid (HBn.out.trans (hbs.mono HBn.out.size)); clear hbs))
  go_ret
  exact ⟨rfl, HB01.out.trans (HBs.out.mono HB01.out.size)⟩
set_option maxRecDepth 100000 in
set_option maxHeartbeats 4000000 in
theorem rwrite_7 (m : Mg) (u : Value) (w : World) (h : MsgV w u m) (hw : Wf m) (hm : mayM m = true) (hk : m.kd = 7) : Calls Tryd.prog 19 #[u] w fun e w' => e = .returned (.string (sealB (tx (enc m)))) ∧ Below w.heap.size w w' := by
  have f1 := isN_of (may_head hm).1
  have f2 := isN_of (may_head hm).2.1
  have f3 := isN_of (may_who hm)
  have f4 := may_ak hm
  have f5 := hw.sq
  have f6 := hw.ep
  have f7 := hw.bo
  obtain ⟨A, cA, T, cT, rfl, hA, hT, l1, l2, l3⟩ := h
  obtain ⟨kd, fr, tt, sq, wh, ⟨ki, ks⟩, ns, tb, ep, bo, ak, ts, tn, gd⟩ := m
  simp only [] at *
  subst hk
  obtain ⟨fr, rfl⟩ := Int.eq_ofNat_of_zero_le f1.1
  obtain ⟨tt, rfl⟩ := Int.eq_ofNat_of_zero_le f2.1
  obtain ⟨wh, rfl⟩ := Int.eq_ofNat_of_zero_le f3.1
  obtain ⟨ak, rfl⟩ := Int.eq_ofNat_of_zero_le f4.1
  have e1 : IntKind.u64.wrap (fr : Int) = (fr : Int) := IntWalk.u64_in _ ⟨by omega, by omega⟩
  have e2 : IntKind.u64.wrap (tt : Int) = (tt : Int) := IntWalk.u64_in _ ⟨by omega, by omega⟩
  have e3 : IntKind.u64.wrap (wh : Int) = (wh : Int) := IntWalk.u64_in _ ⟨by omega, by omega⟩
  have e4 : IntKind.u64.wrap (ak : Int) = (ak : Int) := IntWalk.u64_in _ ⟨by omega, by omega⟩
  have HZ : Hid (∀ z ∈ [7, fr, tt, ep, bo, ak], z < 2 ^ 64) := Lib.hid (by intro z hz; simp only [List.mem_cons, List.not_mem_nil, or_false] at hz; omega)
  have HEnc : Hid ((⟨(nums [7, fr, tt, ep, bo, ak]).toArray⟩ : ByteArray) = tx (enc (⟨7, (fr : Int), (tt : Int), sq, (wh : Int), ⟨ki, ks⟩, ns, tb, ep, bo, (ak : Int), ts, tn, gd⟩ : Mg))) := Lib.hid (by
    unfold tx
    congr 2
    simp [nums, enc, layH, pof, layP])
  have HB01 : Hid (Below w.heap.size w (w.alloc (.cells #[.int .i64 7, .int .i64 (fr : Int), .int .i64 (tt : Int), .int .u64 (sq : Int), .int .i64 (wh : Int), .int .u64 ki, .int .i64 ks, (.slice A ns.length cA), (.slice T tb.length cT), .int .u64 (ep : Int), .int .u64 (bo : Int), .int .i64 (ak : Int), .string ts, .int .u64 (tn : Int), .bool gd] 28))) := Lib.hid ((Below.refl _ _).alloc (Nat.le_refl _) _)
  have HR : Hid (Row (w.alloc (.cells #[.int .i64 7, .int .i64 (fr : Int), .int .i64 (tt : Int), .int .u64 (sq : Int), .int .i64 (wh : Int), .int .u64 ki, .int .i64 ks, (.slice A ns.length cA), (.slice T tb.length cT), .int .u64 (ep : Int), .int .u64 (bo : Int), .int .i64 (ak : Int), .string ts, .int .u64 (tn : Int), .bool gd] 28)) w.heap.size [.int .i64 7, .int .i64 (fr : Int), .int .i64 (tt : Int), .int .u64 (sq : Int), .int .i64 (wh : Int), .int .u64 ki, .int .i64 ks, (.slice A ns.length cA), (.slice T tb.length cT), .int .u64 (ep : Int), .int .u64 (bo : Int), .int .i64 (ak : Int), .string ts, .int .u64 (tn : Int), .bool gd]) := Lib.hid (Row.new w _ _)
  have hlt1 : w.heap.size < (w.alloc (.cells #[.int .i64 7, .int .i64 (fr : Int), .int .i64 (tt : Int), .int .u64 (sq : Int), .int .i64 (wh : Int), .int .u64 ki, .int .i64 ks, (.slice A ns.length cA), (.slice T tb.length cT), .int .u64 (ep : Int), .int .u64 (bo : Int), .int .i64 (ak : Int), .string ts, .int .u64 (tn : Int), .bool gd] 28)).heap.size := by simp
  have HSz : Hid ((tx (enc (⟨7, (fr : Int), (tt : Int), sq, (wh : Int), ⟨ki, ks⟩, ns, tb, ep, bo, (ak : Int), ts, tn, gd⟩ : Mg))).size ≤ 140737488351232) := Lib.hid (by have := enc_le hm; show (enc _).toArray.size ≤ _; simp at this ⊢; omega)
  clear hA hT l1 l2 l3 hm hw f1 f2 f3 f4 f5 f6 f7
  unfold mvv
  simp only []
  go_enter Tryd.func19, Tryd.ntmps19
  go_upto_region 1 with (fail)
  generalize w.alloc (.cells #[.int .i64 7, .int .i64 (fr : Int), .int .i64 (tt : Int), .int .u64 (sq : Int), .int .i64 (wh : Int), .int .u64 ki, .int .i64 ks, (.slice A ns.length cA), (.slice T tb.length cT), .int .u64 (ep : Int), .int .u64 (bo : Int), .int .i64 (ak : Int), .string ts, .int .u64 (tn : Int), .bool gd] 28) = w1 at *
  have k0 := HR.out.at_ 0 _ rfl
  have k1 := HR.out.at_ 1 _ rfl
  have k2 := HR.out.at_ 2 _ rfl
  have k3 := HR.out.at_ 3 _ rfl
  have k4 := HR.out.at_ 4 _ rfl
  have k5 := HR.out.at_ 5 _ rfl
  have k6 := HR.out.at_ 6 _ rfl
  have k7 := HR.out.at_ 7 _ rfl
  have k8 := HR.out.at_ 8 _ rfl
  have k9 := HR.out.at_ 9 _ rfl
  have k10 := HR.out.at_ 10 _ rfl
  have k11 := HR.out.at_ 11 _ rfl
  have k12 := HR.out.at_ 12 _ rfl
  have k13 := HR.out.at_ 13 _ rfl
  have k14 := HR.out.at_ 14 _ rfl
  go_upto_region 2 with (fail)
  have hb2 : Below w1.heap.size w1 (w1.alloc (.cells #[.int .u64 7, .int .u64 (fr : Int), .int .u64 (tt : Int)] 22)) := (Below.refl _ _).alloc (Nat.le_refl _) _
  have HO2 : Hid (OwnU (w1.alloc (.cells #[.int .u64 7, .int .u64 (fr : Int), .int .u64 (tt : Int)] 22)) w1.heap.size (.slice (some ⟨w1.heap.size, 0, none⟩) 3 3) [7, fr, tt]) := Lib.hid (OwnU.new w1 w1.heap.size [7, fr, tt] (Nat.le_refl _) (by unfold maxLen; simp))
  replace HR := Lib.hid (HR.out.kp (Kp.of (S := []) hb2) hlt1 (by simp))
  have HB2 := Lib.hid hb2
  clear k0 k1 k2 k3 k4 k5 k6 k7 k8 k9 k10 k11 k12 k13 k14
  generalize w1.alloc (.cells #[.int .u64 7, .int .u64 (fr : Int), .int .u64 (tt : Int)] 22) = w2 at *
  generalize Value.slice (some ⟨w1.heap.size, 0, none⟩) 3 3 = v2 at *
  clear hb2
  have k2 := HR.out.at_ 0 _ rfl
  have c2 := HR.out.at_ 9 _ rfl
  go_upto_region 23 with (at_builtin; refine wpList_append_fresh (W := w2) rfl _ _ rfl w1.heap.size v2 ([7, fr, tt]) rfl HO2.out HB2.out.size [ep] rfl (by simp) ?_; intro v3 w3 hO hb; have HO3 := Lib.hid hO; have HB3 := Lib.hid (HB2.out.trans hb); replace HR := Lib.hid (HR.out.kp (Kp.of (S := []) hb) hlt1 (by simp)); clear hO hb k2 c2)
  have k3 := HR.out.at_ 0 _ rfl
  have c3 := HR.out.at_ 10 _ rfl
  go_upto_region 25 with (at_builtin; refine wpList_append_fresh (W := w3) rfl _ _ rfl w1.heap.size v3 ([7, fr, tt] ++ [ep]) rfl HO3.out HB3.out.size [bo] rfl (by simp) ?_; intro v4 w4 hO hb; have HO4 := Lib.hid hO; have HB4 := Lib.hid (HB3.out.trans hb); replace HR := Lib.hid (HR.out.kp (Kp.of (S := []) hb) hlt1 (by simp)); clear hO hb k3 c3)
  have k4 := HR.out.at_ 0 _ rfl
  have c4 := HR.out.at_ 11 _ rfl
  go_upto_region 27 with (at_builtin; refine wpList_append_fresh (W := w4) rfl _ _ rfl w1.heap.size v4 ([7, fr, tt] ++ [ep] ++ [bo]) rfl HO4.out HB4.out.size [ak] rfl (by simp) ?_; intro v5 w5 hO hb; have HO5 := Lib.hid hO; have HB5 := Lib.hid (HB4.out.trans hb); replace HR := Lib.hid (HR.out.kp (Kp.of (S := []) hb) hlt1 (by simp)); clear hO hb k4 c4)
  obtain ⟨AN, cN, rfl, hN⟩ := HO5.out.nums
  have HN := Lib.hid (rnums_any AN cN _ w5 (by simp) HZ.out hN)
  clear hN
  go_wp2_with (first
    | (go_at_call 41; refine HN.out.mono ?_; rintro e wn ⟨rfl, hbn⟩; rw [HEnc.out]; have HBn := Lib.hid (HB5.out.trans (hbn.mono HB5.out.size)); clear hbn)
    | (go_at_call 38; refine (rseal_any _ _ HSz.out).mono ?_; rintro e ws ⟨rfl, hbs⟩; have HBs := Lib.hid (HBn.out.trans (hbs.mono HBn.out.size)); clear hbs))
  go_ret
  exact ⟨rfl, HB01.out.trans (HBs.out.mono HB01.out.size)⟩
set_option maxRecDepth 100000 in
set_option maxHeartbeats 4000000 in
theorem rwrite_8 (m : Mg) (u : Value) (w : World) (h : MsgV w u m) (hw : Wf m) (hm : mayM m = true) (hk : m.kd = 8) : Calls Tryd.prog 19 #[u] w fun e w' => e = .returned (.string (sealB (tx (enc m)))) ∧ Below w.heap.size w w' := by
  have f1 := isN_of (may_head hm).1
  have f2 := isN_of (may_head hm).2.1
  have f3 := isN_of (may_who hm)
  have f4 := may_ak hm
  have f5 := hw.sq
  have f6 := hw.ep
  have f7 := hw.bo
  obtain ⟨A, cA, T, cT, rfl, hA, hT, l1, l2, l3⟩ := h
  obtain ⟨kd, fr, tt, sq, wh, ⟨ki, ks⟩, ns, tb, ep, bo, ak, ts, tn, gd⟩ := m
  simp only [] at *
  subst hk
  obtain ⟨fr, rfl⟩ := Int.eq_ofNat_of_zero_le f1.1
  obtain ⟨tt, rfl⟩ := Int.eq_ofNat_of_zero_le f2.1
  obtain ⟨wh, rfl⟩ := Int.eq_ofNat_of_zero_le f3.1
  obtain ⟨ak, rfl⟩ := Int.eq_ofNat_of_zero_le f4.1
  have e1 : IntKind.u64.wrap (fr : Int) = (fr : Int) := IntWalk.u64_in _ ⟨by omega, by omega⟩
  have e2 : IntKind.u64.wrap (tt : Int) = (tt : Int) := IntWalk.u64_in _ ⟨by omega, by omega⟩
  have e3 : IntKind.u64.wrap (wh : Int) = (wh : Int) := IntWalk.u64_in _ ⟨by omega, by omega⟩
  have e4 : IntKind.u64.wrap (ak : Int) = (ak : Int) := IntWalk.u64_in _ ⟨by omega, by omega⟩
  have HZ : Hid (∀ z ∈ [8, fr, tt, ep, bo, ak], z < 2 ^ 64) := Lib.hid (by intro z hz; simp only [List.mem_cons, List.not_mem_nil, or_false] at hz; omega)
  have HEnc : Hid ((⟨(nums [8, fr, tt, ep, bo, ak]).toArray⟩ : ByteArray) = tx (enc (⟨8, (fr : Int), (tt : Int), sq, (wh : Int), ⟨ki, ks⟩, ns, tb, ep, bo, (ak : Int), ts, tn, gd⟩ : Mg))) := Lib.hid (by
    unfold tx
    congr 2
    simp [nums, enc, layH, pof, layP])
  have HB01 : Hid (Below w.heap.size w (w.alloc (.cells #[.int .i64 8, .int .i64 (fr : Int), .int .i64 (tt : Int), .int .u64 (sq : Int), .int .i64 (wh : Int), .int .u64 ki, .int .i64 ks, (.slice A ns.length cA), (.slice T tb.length cT), .int .u64 (ep : Int), .int .u64 (bo : Int), .int .i64 (ak : Int), .string ts, .int .u64 (tn : Int), .bool gd] 28))) := Lib.hid ((Below.refl _ _).alloc (Nat.le_refl _) _)
  have HR : Hid (Row (w.alloc (.cells #[.int .i64 8, .int .i64 (fr : Int), .int .i64 (tt : Int), .int .u64 (sq : Int), .int .i64 (wh : Int), .int .u64 ki, .int .i64 ks, (.slice A ns.length cA), (.slice T tb.length cT), .int .u64 (ep : Int), .int .u64 (bo : Int), .int .i64 (ak : Int), .string ts, .int .u64 (tn : Int), .bool gd] 28)) w.heap.size [.int .i64 8, .int .i64 (fr : Int), .int .i64 (tt : Int), .int .u64 (sq : Int), .int .i64 (wh : Int), .int .u64 ki, .int .i64 ks, (.slice A ns.length cA), (.slice T tb.length cT), .int .u64 (ep : Int), .int .u64 (bo : Int), .int .i64 (ak : Int), .string ts, .int .u64 (tn : Int), .bool gd]) := Lib.hid (Row.new w _ _)
  have hlt1 : w.heap.size < (w.alloc (.cells #[.int .i64 8, .int .i64 (fr : Int), .int .i64 (tt : Int), .int .u64 (sq : Int), .int .i64 (wh : Int), .int .u64 ki, .int .i64 ks, (.slice A ns.length cA), (.slice T tb.length cT), .int .u64 (ep : Int), .int .u64 (bo : Int), .int .i64 (ak : Int), .string ts, .int .u64 (tn : Int), .bool gd] 28)).heap.size := by simp
  have HSz : Hid ((tx (enc (⟨8, (fr : Int), (tt : Int), sq, (wh : Int), ⟨ki, ks⟩, ns, tb, ep, bo, (ak : Int), ts, tn, gd⟩ : Mg))).size ≤ 140737488351232) := Lib.hid (by have := enc_le hm; show (enc _).toArray.size ≤ _; simp at this ⊢; omega)
  clear hA hT l1 l2 l3 hm hw f1 f2 f3 f4 f5 f6 f7
  unfold mvv
  simp only []
  go_enter Tryd.func19, Tryd.ntmps19
  go_upto_region 1 with (fail)
  generalize w.alloc (.cells #[.int .i64 8, .int .i64 (fr : Int), .int .i64 (tt : Int), .int .u64 (sq : Int), .int .i64 (wh : Int), .int .u64 ki, .int .i64 ks, (.slice A ns.length cA), (.slice T tb.length cT), .int .u64 (ep : Int), .int .u64 (bo : Int), .int .i64 (ak : Int), .string ts, .int .u64 (tn : Int), .bool gd] 28) = w1 at *
  have k0 := HR.out.at_ 0 _ rfl
  have k1 := HR.out.at_ 1 _ rfl
  have k2 := HR.out.at_ 2 _ rfl
  have k3 := HR.out.at_ 3 _ rfl
  have k4 := HR.out.at_ 4 _ rfl
  have k5 := HR.out.at_ 5 _ rfl
  have k6 := HR.out.at_ 6 _ rfl
  have k7 := HR.out.at_ 7 _ rfl
  have k8 := HR.out.at_ 8 _ rfl
  have k9 := HR.out.at_ 9 _ rfl
  have k10 := HR.out.at_ 10 _ rfl
  have k11 := HR.out.at_ 11 _ rfl
  have k12 := HR.out.at_ 12 _ rfl
  have k13 := HR.out.at_ 13 _ rfl
  have k14 := HR.out.at_ 14 _ rfl
  go_upto_region 2 with (fail)
  have hb2 : Below w1.heap.size w1 (w1.alloc (.cells #[.int .u64 8, .int .u64 (fr : Int), .int .u64 (tt : Int)] 22)) := (Below.refl _ _).alloc (Nat.le_refl _) _
  have HO2 : Hid (OwnU (w1.alloc (.cells #[.int .u64 8, .int .u64 (fr : Int), .int .u64 (tt : Int)] 22)) w1.heap.size (.slice (some ⟨w1.heap.size, 0, none⟩) 3 3) [8, fr, tt]) := Lib.hid (OwnU.new w1 w1.heap.size [8, fr, tt] (Nat.le_refl _) (by unfold maxLen; simp))
  replace HR := Lib.hid (HR.out.kp (Kp.of (S := []) hb2) hlt1 (by simp))
  have HB2 := Lib.hid hb2
  clear k0 k1 k2 k3 k4 k5 k6 k7 k8 k9 k10 k11 k12 k13 k14
  generalize w1.alloc (.cells #[.int .u64 8, .int .u64 (fr : Int), .int .u64 (tt : Int)] 22) = w2 at *
  generalize Value.slice (some ⟨w1.heap.size, 0, none⟩) 3 3 = v2 at *
  clear hb2
  have k2 := HR.out.at_ 0 _ rfl
  have c2 := HR.out.at_ 9 _ rfl
  go_upto_region 23 with (at_builtin; refine wpList_append_fresh (W := w2) rfl _ _ rfl w1.heap.size v2 ([8, fr, tt]) rfl HO2.out HB2.out.size [ep] rfl (by simp) ?_; intro v3 w3 hO hb; have HO3 := Lib.hid hO; have HB3 := Lib.hid (HB2.out.trans hb); replace HR := Lib.hid (HR.out.kp (Kp.of (S := []) hb) hlt1 (by simp)); clear hO hb k2 c2)
  have k3 := HR.out.at_ 0 _ rfl
  have c3 := HR.out.at_ 10 _ rfl
  go_upto_region 25 with (at_builtin; refine wpList_append_fresh (W := w3) rfl _ _ rfl w1.heap.size v3 ([8, fr, tt] ++ [ep]) rfl HO3.out HB3.out.size [bo] rfl (by simp) ?_; intro v4 w4 hO hb; have HO4 := Lib.hid hO; have HB4 := Lib.hid (HB3.out.trans hb); replace HR := Lib.hid (HR.out.kp (Kp.of (S := []) hb) hlt1 (by simp)); clear hO hb k3 c3)
  have k4 := HR.out.at_ 0 _ rfl
  have c4 := HR.out.at_ 11 _ rfl
  go_upto_region 27 with (at_builtin; refine wpList_append_fresh (W := w4) rfl _ _ rfl w1.heap.size v4 ([8, fr, tt] ++ [ep] ++ [bo]) rfl HO4.out HB4.out.size [ak] rfl (by simp) ?_; intro v5 w5 hO hb; have HO5 := Lib.hid hO; have HB5 := Lib.hid (HB4.out.trans hb); replace HR := Lib.hid (HR.out.kp (Kp.of (S := []) hb) hlt1 (by simp)); clear hO hb k4 c4)
  obtain ⟨AN, cN, rfl, hN⟩ := HO5.out.nums
  have HN := Lib.hid (rnums_any AN cN _ w5 (by simp) HZ.out hN)
  clear hN
  go_wp2_with (first
    | (go_at_call 41; refine HN.out.mono ?_; rintro e wn ⟨rfl, hbn⟩; rw [HEnc.out]; have HBn := Lib.hid (HB5.out.trans (hbn.mono HB5.out.size)); clear hbn)
    | (go_at_call 38; refine (rseal_any _ _ HSz.out).mono ?_; rintro e ws ⟨rfl, hbs⟩; have HBs := Lib.hid (HBn.out.trans (hbs.mono HBn.out.size)); clear hbs))
  go_ret
  exact ⟨rfl, HB01.out.trans (HBs.out.mono HB01.out.size)⟩
set_option maxRecDepth 100000 in
set_option maxHeartbeats 4000000 in
theorem rwrite_9 (m : Mg) (u : Value) (w : World) (h : MsgV w u m) (hw : Wf m) (hm : mayM m = true) (hk : m.kd = 9) : Calls Tryd.prog 19 #[u] w fun e w' => e = .returned (.string (sealB (tx (enc m)))) ∧ Below w.heap.size w w' := by
  have f1 := isN_of (may_head hm).1
  have f2 := isN_of (may_head hm).2.1
  have f3 := isN_of (may_who hm)
  have f4 := may_ak hm
  have f5 := hw.sq
  have f6 := hw.ep
  have f7 := hw.bo
  obtain ⟨A, cA, T, cT, rfl, hA, hT, l1, l2, l3⟩ := h
  obtain ⟨kd, fr, tt, sq, wh, ⟨ki, ks⟩, ns, tb, ep, bo, ak, ts, tn, gd⟩ := m
  simp only [] at *
  subst hk
  obtain ⟨fr, rfl⟩ := Int.eq_ofNat_of_zero_le f1.1
  obtain ⟨tt, rfl⟩ := Int.eq_ofNat_of_zero_le f2.1
  obtain ⟨wh, rfl⟩ := Int.eq_ofNat_of_zero_le f3.1
  obtain ⟨ak, rfl⟩ := Int.eq_ofNat_of_zero_le f4.1
  have e1 : IntKind.u64.wrap (fr : Int) = (fr : Int) := IntWalk.u64_in _ ⟨by omega, by omega⟩
  have e2 : IntKind.u64.wrap (tt : Int) = (tt : Int) := IntWalk.u64_in _ ⟨by omega, by omega⟩
  have e3 : IntKind.u64.wrap (wh : Int) = (wh : Int) := IntWalk.u64_in _ ⟨by omega, by omega⟩
  have e4 : IntKind.u64.wrap (ak : Int) = (ak : Int) := IntWalk.u64_in _ ⟨by omega, by omega⟩
  have HZ : Hid (∀ z ∈ [9, fr, tt, ep, bo], z < 2 ^ 64) := Lib.hid (by intro z hz; simp only [List.mem_cons, List.not_mem_nil, or_false] at hz; omega)
  have HEnc : Hid ((⟨(nums [9, fr, tt, ep, bo]).toArray⟩ : ByteArray) = tx (enc (⟨9, (fr : Int), (tt : Int), sq, (wh : Int), ⟨ki, ks⟩, ns, tb, ep, bo, (ak : Int), ts, tn, gd⟩ : Mg))) := Lib.hid (by
    unfold tx
    congr 2
    simp [nums, enc, layH, pof, layP])
  have HB01 : Hid (Below w.heap.size w (w.alloc (.cells #[.int .i64 9, .int .i64 (fr : Int), .int .i64 (tt : Int), .int .u64 (sq : Int), .int .i64 (wh : Int), .int .u64 ki, .int .i64 ks, (.slice A ns.length cA), (.slice T tb.length cT), .int .u64 (ep : Int), .int .u64 (bo : Int), .int .i64 (ak : Int), .string ts, .int .u64 (tn : Int), .bool gd] 28))) := Lib.hid ((Below.refl _ _).alloc (Nat.le_refl _) _)
  have HR : Hid (Row (w.alloc (.cells #[.int .i64 9, .int .i64 (fr : Int), .int .i64 (tt : Int), .int .u64 (sq : Int), .int .i64 (wh : Int), .int .u64 ki, .int .i64 ks, (.slice A ns.length cA), (.slice T tb.length cT), .int .u64 (ep : Int), .int .u64 (bo : Int), .int .i64 (ak : Int), .string ts, .int .u64 (tn : Int), .bool gd] 28)) w.heap.size [.int .i64 9, .int .i64 (fr : Int), .int .i64 (tt : Int), .int .u64 (sq : Int), .int .i64 (wh : Int), .int .u64 ki, .int .i64 ks, (.slice A ns.length cA), (.slice T tb.length cT), .int .u64 (ep : Int), .int .u64 (bo : Int), .int .i64 (ak : Int), .string ts, .int .u64 (tn : Int), .bool gd]) := Lib.hid (Row.new w _ _)
  have hlt1 : w.heap.size < (w.alloc (.cells #[.int .i64 9, .int .i64 (fr : Int), .int .i64 (tt : Int), .int .u64 (sq : Int), .int .i64 (wh : Int), .int .u64 ki, .int .i64 ks, (.slice A ns.length cA), (.slice T tb.length cT), .int .u64 (ep : Int), .int .u64 (bo : Int), .int .i64 (ak : Int), .string ts, .int .u64 (tn : Int), .bool gd] 28)).heap.size := by simp
  have HSz : Hid ((tx (enc (⟨9, (fr : Int), (tt : Int), sq, (wh : Int), ⟨ki, ks⟩, ns, tb, ep, bo, (ak : Int), ts, tn, gd⟩ : Mg))).size ≤ 140737488351232) := Lib.hid (by have := enc_le hm; show (enc _).toArray.size ≤ _; simp at this ⊢; omega)
  clear hA hT l1 l2 l3 hm hw f1 f2 f3 f4 f5 f6 f7
  unfold mvv
  simp only []
  go_enter Tryd.func19, Tryd.ntmps19
  go_upto_region 1 with (fail)
  generalize w.alloc (.cells #[.int .i64 9, .int .i64 (fr : Int), .int .i64 (tt : Int), .int .u64 (sq : Int), .int .i64 (wh : Int), .int .u64 ki, .int .i64 ks, (.slice A ns.length cA), (.slice T tb.length cT), .int .u64 (ep : Int), .int .u64 (bo : Int), .int .i64 (ak : Int), .string ts, .int .u64 (tn : Int), .bool gd] 28) = w1 at *
  have k0 := HR.out.at_ 0 _ rfl
  have k1 := HR.out.at_ 1 _ rfl
  have k2 := HR.out.at_ 2 _ rfl
  have k3 := HR.out.at_ 3 _ rfl
  have k4 := HR.out.at_ 4 _ rfl
  have k5 := HR.out.at_ 5 _ rfl
  have k6 := HR.out.at_ 6 _ rfl
  have k7 := HR.out.at_ 7 _ rfl
  have k8 := HR.out.at_ 8 _ rfl
  have k9 := HR.out.at_ 9 _ rfl
  have k10 := HR.out.at_ 10 _ rfl
  have k11 := HR.out.at_ 11 _ rfl
  have k12 := HR.out.at_ 12 _ rfl
  have k13 := HR.out.at_ 13 _ rfl
  have k14 := HR.out.at_ 14 _ rfl
  go_upto_region 2 with (fail)
  have hb2 : Below w1.heap.size w1 (w1.alloc (.cells #[.int .u64 9, .int .u64 (fr : Int), .int .u64 (tt : Int)] 22)) := (Below.refl _ _).alloc (Nat.le_refl _) _
  have HO2 : Hid (OwnU (w1.alloc (.cells #[.int .u64 9, .int .u64 (fr : Int), .int .u64 (tt : Int)] 22)) w1.heap.size (.slice (some ⟨w1.heap.size, 0, none⟩) 3 3) [9, fr, tt]) := Lib.hid (OwnU.new w1 w1.heap.size [9, fr, tt] (Nat.le_refl _) (by unfold maxLen; simp))
  replace HR := Lib.hid (HR.out.kp (Kp.of (S := []) hb2) hlt1 (by simp))
  have HB2 := Lib.hid hb2
  clear k0 k1 k2 k3 k4 k5 k6 k7 k8 k9 k10 k11 k12 k13 k14
  generalize w1.alloc (.cells #[.int .u64 9, .int .u64 (fr : Int), .int .u64 (tt : Int)] 22) = w2 at *
  generalize Value.slice (some ⟨w1.heap.size, 0, none⟩) 3 3 = v2 at *
  clear hb2
  have k2 := HR.out.at_ 0 _ rfl
  have c2 := HR.out.at_ 9 _ rfl
  go_upto_region 23 with (at_builtin; refine wpList_append_fresh (W := w2) rfl _ _ rfl w1.heap.size v2 ([9, fr, tt]) rfl HO2.out HB2.out.size [ep] rfl (by simp) ?_; intro v3 w3 hO hb; have HO3 := Lib.hid hO; have HB3 := Lib.hid (HB2.out.trans hb); replace HR := Lib.hid (HR.out.kp (Kp.of (S := []) hb) hlt1 (by simp)); clear hO hb k2 c2)
  have k3 := HR.out.at_ 0 _ rfl
  have c3 := HR.out.at_ 10 _ rfl
  go_upto_region 25 with (at_builtin; refine wpList_append_fresh (W := w3) rfl _ _ rfl w1.heap.size v3 ([9, fr, tt] ++ [ep]) rfl HO3.out HB3.out.size [bo] rfl (by simp) ?_; intro v4 w4 hO hb; have HO4 := Lib.hid hO; have HB4 := Lib.hid (HB3.out.trans hb); replace HR := Lib.hid (HR.out.kp (Kp.of (S := []) hb) hlt1 (by simp)); clear hO hb k3 c3)
  obtain ⟨AN, cN, rfl, hN⟩ := HO4.out.nums
  have HN := Lib.hid (rnums_any AN cN _ w4 (by simp) HZ.out hN)
  clear hN
  go_wp2_with (first
    | (go_at_call 41; refine HN.out.mono ?_; rintro e wn ⟨rfl, hbn⟩; rw [HEnc.out]; have HBn := Lib.hid (HB4.out.trans (hbn.mono HB4.out.size)); clear hbn)
    | (go_at_call 38; refine (rseal_any _ _ HSz.out).mono ?_; rintro e ws ⟨rfl, hbs⟩; have HBs := Lib.hid (HBn.out.trans (hbs.mono HBn.out.size)); clear hbs))
  go_ret
  exact ⟨rfl, HB01.out.trans (HBs.out.mono HB01.out.size)⟩
set_option maxRecDepth 100000 in
set_option maxHeartbeats 4000000 in
theorem rwrite_10 (m : Mg) (u : Value) (w : World) (h : MsgV w u m) (hw : Wf m) (hm : mayM m = true) (hk : m.kd = 10) : Calls Tryd.prog 19 #[u] w fun e w' => e = .returned (.string (sealB (tx (enc m)))) ∧ Below w.heap.size w w' := by
  have f1 := isN_of (may_head hm).1
  have f2 := isN_of (may_head hm).2.1
  have f3 := isN_of (may_who hm)
  have f4 := may_ak hm
  have f5 := hw.sq
  have f6 := hw.ep
  have f7 := hw.bo
  obtain ⟨A, cA, T, cT, rfl, hA, hT, l1, l2, l3⟩ := h
  obtain ⟨kd, fr, tt, sq, wh, ⟨ki, ks⟩, ns, tb, ep, bo, ak, ts, tn, gd⟩ := m
  simp only [] at *
  subst hk
  obtain ⟨fr, rfl⟩ := Int.eq_ofNat_of_zero_le f1.1
  obtain ⟨tt, rfl⟩ := Int.eq_ofNat_of_zero_le f2.1
  obtain ⟨wh, rfl⟩ := Int.eq_ofNat_of_zero_le f3.1
  obtain ⟨ak, rfl⟩ := Int.eq_ofNat_of_zero_le f4.1
  have e1 : IntKind.u64.wrap (fr : Int) = (fr : Int) := IntWalk.u64_in _ ⟨by omega, by omega⟩
  have e2 : IntKind.u64.wrap (tt : Int) = (tt : Int) := IntWalk.u64_in _ ⟨by omega, by omega⟩
  have e3 : IntKind.u64.wrap (wh : Int) = (wh : Int) := IntWalk.u64_in _ ⟨by omega, by omega⟩
  have e4 : IntKind.u64.wrap (ak : Int) = (ak : Int) := IntWalk.u64_in _ ⟨by omega, by omega⟩
  have HZ : Hid (∀ z ∈ [10, fr, tt, bo, ak], z < 2 ^ 64) := Lib.hid (by intro z hz; simp only [List.mem_cons, List.not_mem_nil, or_false] at hz; omega)
  have HEnc : Hid ((⟨(nums [10, fr, tt, bo, ak]).toArray⟩ : ByteArray) = tx (enc (⟨10, (fr : Int), (tt : Int), sq, (wh : Int), ⟨ki, ks⟩, ns, tb, ep, bo, (ak : Int), ts, tn, gd⟩ : Mg))) := Lib.hid (by
    unfold tx
    congr 2
    simp [nums, enc, layH, pof, layP])
  have HB01 : Hid (Below w.heap.size w (w.alloc (.cells #[.int .i64 10, .int .i64 (fr : Int), .int .i64 (tt : Int), .int .u64 (sq : Int), .int .i64 (wh : Int), .int .u64 ki, .int .i64 ks, (.slice A ns.length cA), (.slice T tb.length cT), .int .u64 (ep : Int), .int .u64 (bo : Int), .int .i64 (ak : Int), .string ts, .int .u64 (tn : Int), .bool gd] 28))) := Lib.hid ((Below.refl _ _).alloc (Nat.le_refl _) _)
  have HR : Hid (Row (w.alloc (.cells #[.int .i64 10, .int .i64 (fr : Int), .int .i64 (tt : Int), .int .u64 (sq : Int), .int .i64 (wh : Int), .int .u64 ki, .int .i64 ks, (.slice A ns.length cA), (.slice T tb.length cT), .int .u64 (ep : Int), .int .u64 (bo : Int), .int .i64 (ak : Int), .string ts, .int .u64 (tn : Int), .bool gd] 28)) w.heap.size [.int .i64 10, .int .i64 (fr : Int), .int .i64 (tt : Int), .int .u64 (sq : Int), .int .i64 (wh : Int), .int .u64 ki, .int .i64 ks, (.slice A ns.length cA), (.slice T tb.length cT), .int .u64 (ep : Int), .int .u64 (bo : Int), .int .i64 (ak : Int), .string ts, .int .u64 (tn : Int), .bool gd]) := Lib.hid (Row.new w _ _)
  have hlt1 : w.heap.size < (w.alloc (.cells #[.int .i64 10, .int .i64 (fr : Int), .int .i64 (tt : Int), .int .u64 (sq : Int), .int .i64 (wh : Int), .int .u64 ki, .int .i64 ks, (.slice A ns.length cA), (.slice T tb.length cT), .int .u64 (ep : Int), .int .u64 (bo : Int), .int .i64 (ak : Int), .string ts, .int .u64 (tn : Int), .bool gd] 28)).heap.size := by simp
  have HSz : Hid ((tx (enc (⟨10, (fr : Int), (tt : Int), sq, (wh : Int), ⟨ki, ks⟩, ns, tb, ep, bo, (ak : Int), ts, tn, gd⟩ : Mg))).size ≤ 140737488351232) := Lib.hid (by have := enc_le hm; show (enc _).toArray.size ≤ _; simp at this ⊢; omega)
  clear hA hT l1 l2 l3 hm hw f1 f2 f3 f4 f5 f6 f7
  unfold mvv
  simp only []
  go_enter Tryd.func19, Tryd.ntmps19
  go_upto_region 1 with (fail)
  generalize w.alloc (.cells #[.int .i64 10, .int .i64 (fr : Int), .int .i64 (tt : Int), .int .u64 (sq : Int), .int .i64 (wh : Int), .int .u64 ki, .int .i64 ks, (.slice A ns.length cA), (.slice T tb.length cT), .int .u64 (ep : Int), .int .u64 (bo : Int), .int .i64 (ak : Int), .string ts, .int .u64 (tn : Int), .bool gd] 28) = w1 at *
  have k0 := HR.out.at_ 0 _ rfl
  have k1 := HR.out.at_ 1 _ rfl
  have k2 := HR.out.at_ 2 _ rfl
  have k3 := HR.out.at_ 3 _ rfl
  have k4 := HR.out.at_ 4 _ rfl
  have k5 := HR.out.at_ 5 _ rfl
  have k6 := HR.out.at_ 6 _ rfl
  have k7 := HR.out.at_ 7 _ rfl
  have k8 := HR.out.at_ 8 _ rfl
  have k9 := HR.out.at_ 9 _ rfl
  have k10 := HR.out.at_ 10 _ rfl
  have k11 := HR.out.at_ 11 _ rfl
  have k12 := HR.out.at_ 12 _ rfl
  have k13 := HR.out.at_ 13 _ rfl
  have k14 := HR.out.at_ 14 _ rfl
  go_upto_region 2 with (fail)
  have hb2 : Below w1.heap.size w1 (w1.alloc (.cells #[.int .u64 10, .int .u64 (fr : Int), .int .u64 (tt : Int)] 22)) := (Below.refl _ _).alloc (Nat.le_refl _) _
  have HO2 : Hid (OwnU (w1.alloc (.cells #[.int .u64 10, .int .u64 (fr : Int), .int .u64 (tt : Int)] 22)) w1.heap.size (.slice (some ⟨w1.heap.size, 0, none⟩) 3 3) [10, fr, tt]) := Lib.hid (OwnU.new w1 w1.heap.size [10, fr, tt] (Nat.le_refl _) (by unfold maxLen; simp))
  replace HR := Lib.hid (HR.out.kp (Kp.of (S := []) hb2) hlt1 (by simp))
  have HB2 := Lib.hid hb2
  clear k0 k1 k2 k3 k4 k5 k6 k7 k8 k9 k10 k11 k12 k13 k14
  generalize w1.alloc (.cells #[.int .u64 10, .int .u64 (fr : Int), .int .u64 (tt : Int)] 22) = w2 at *
  generalize Value.slice (some ⟨w1.heap.size, 0, none⟩) 3 3 = v2 at *
  clear hb2
  have k2 := HR.out.at_ 0 _ rfl
  have c2 := HR.out.at_ 10 _ rfl
  go_upto_region 25 with (at_builtin; refine wpList_append_fresh (W := w2) rfl _ _ rfl w1.heap.size v2 ([10, fr, tt]) rfl HO2.out HB2.out.size [bo] rfl (by simp) ?_; intro v3 w3 hO hb; have HO3 := Lib.hid hO; have HB3 := Lib.hid (HB2.out.trans hb); replace HR := Lib.hid (HR.out.kp (Kp.of (S := []) hb) hlt1 (by simp)); clear hO hb k2 c2)
  have k3 := HR.out.at_ 0 _ rfl
  have c3 := HR.out.at_ 11 _ rfl
  go_upto_region 27 with (at_builtin; refine wpList_append_fresh (W := w3) rfl _ _ rfl w1.heap.size v3 ([10, fr, tt] ++ [bo]) rfl HO3.out HB3.out.size [ak] rfl (by simp) ?_; intro v4 w4 hO hb; have HO4 := Lib.hid hO; have HB4 := Lib.hid (HB3.out.trans hb); replace HR := Lib.hid (HR.out.kp (Kp.of (S := []) hb) hlt1 (by simp)); clear hO hb k3 c3)
  obtain ⟨AN, cN, rfl, hN⟩ := HO4.out.nums
  have HN := Lib.hid (rnums_any AN cN _ w4 (by simp) HZ.out hN)
  clear hN
  go_wp2_with (first
    | (go_at_call 41; refine HN.out.mono ?_; rintro e wn ⟨rfl, hbn⟩; rw [HEnc.out]; have HBn := Lib.hid (HB4.out.trans (hbn.mono HB4.out.size)); clear hbn)
    | (go_at_call 38; refine (rseal_any _ _ HSz.out).mono ?_; rintro e ws ⟨rfl, hbs⟩; have HBs := Lib.hid (HBn.out.trans (hbs.mono HBn.out.size)); clear hbs))
  go_ret
  exact ⟨rfl, HB01.out.trans (HBs.out.mono HB01.out.size)⟩
end Go.Proofs.YtjeepmdklbfgeaaDoor
