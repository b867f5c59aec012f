/-
  The document's Write, of a kind with news, 1.
-/
import Derived.Test.YtjeepmdklbfgeaaDoorRwrite
import Derived.Test.YtjeepmdklbfgeaaDoorUsN
namespace Go.Proofs.YtjeepmdklbfgeaaDoor
open Go.Sort Go.RowKit Go.Proofs.YtjeepmdklbfgeaaDoor.Pure Go.Proofs.YtjeepmdklbfgeaaDoor.W Go.Proofs.YtjeepmdklbfgeaaDoor.W.Pure

set_option maxRecDepth 100000 in
set_option maxHeartbeats 4000000 in
theorem rwrite_1 (m : Mg) (u : Value) (w : World) (h : MsgV w u m) (hw : Wf m) (hm : mayM m = true) (hk : m.kd = 1) : Calls Tryd.prog 19 #[u] w fun e w' => e = .returned (.string (sealB (tx (enc m)))) ∧ Below w.heap.size w w' := by
  have f1 := isN_of (may_head hm).1
  have f2 := isN_of (may_head hm).2.1
  have f3 := isN_of (may_who hm)
  have f4 := may_ak hm
  have f5 := hw.sq
  have f6 := hw.ep
  have f7 := hw.bo
  have f8 := hw.k
  have f9 : mayK m.k = true := may_parts hm 2 (by rw [hk]; decide)
  have g1 : mayNs m.ns = true := may_parts hm 3 (by rw [hk]; decide)
  have g2 := hw.ns
  unfold mayNs at g1
  simp only [Bool.and_eq_true, decide_eq_true_eq, List.all_eq_true] at g1
  obtain ⟨g1, g3⟩ := g1
  have HL0 : Hid (∀ y ∈ m.ns, (0 ≤ y.w ∧ y.w < 64) ∧ Fit y.k ∧ 0 ≤ y.s ∧ y.s ≤ 3) := Lib.hid (fun y hy => by
    obtain ⟨a, b, c, d⟩ := (oneB_iff y).1 (g3 y hy)
    exact ⟨⟨a, by omega⟩, g2 y hy, c, d⟩)
  clear g2 g3
  obtain ⟨A, cA, T, cT, rfl, hA, hT, l1, l2, l3⟩ := h
  obtain ⟨kd, fr, tt, sq, wh, ⟨ki, ks⟩, ns, tb, ep, bo, ak, ts, tn, gd⟩ := m
  simp only [] at *
  subst hk
  obtain ⟨fr, rfl⟩ := Int.eq_ofNat_of_zero_le f1.1
  obtain ⟨tt, rfl⟩ := Int.eq_ofNat_of_zero_le f2.1
  obtain ⟨wh, rfl⟩ := Int.eq_ofNat_of_zero_le f3.1
  obtain ⟨ak, rfl⟩ := Int.eq_ofNat_of_zero_le f4.1
  have f8' : 0 ≤ ki ∧ ki ≤ 18446744073709551615 := f8
  have f9' : 0 ≤ ks ∧ ks ≤ 3 := (mayK_iff _).1 f9
  clear f8 f9
  obtain ⟨ki, rfl⟩ := Int.eq_ofNat_of_zero_le f8'.1
  obtain ⟨ks, rfl⟩ := Int.eq_ofNat_of_zero_le f9'.1
  have e5 : IntKind.u64.wrap (ks : Int) = (ks : Int) := IntWalk.u64_in _ ⟨by omega, by omega⟩
  have e1 : IntKind.u64.wrap (fr : Int) = (fr : Int) := IntWalk.u64_in _ ⟨by omega, by omega⟩
  have e2 : IntKind.u64.wrap (tt : Int) = (tt : Int) := IntWalk.u64_in _ ⟨by omega, by omega⟩
  have e3 : IntKind.u64.wrap (wh : Int) = (wh : Int) := IntWalk.u64_in _ ⟨by omega, by omega⟩
  have e4 : IntKind.u64.wrap (ns.length : Int) = (ns.length : Int) := IntWalk.u64_in _ ⟨by omega, by omega⟩
  have HZ : Hid (∀ z ∈ ([1, fr, tt] ++ [sq] ++ [ki, ks] ++ [ns.length] ++ ns.flatMap nu), z < 2 ^ 64) := Lib.hid (by
    intro z hz
    rcases List.mem_append.1 hz with hz | hz
    · simp only [List.mem_append, List.mem_cons, List.not_mem_nil, or_false] at hz; omega
    · exact nus_lt HL0.out z hz)
  have HEnc : Hid ((⟨(nums ([1, fr, tt] ++ [sq] ++ [ki, ks] ++ [ns.length] ++ ns.flatMap nu)).toArray⟩ : ByteArray) = tx (enc (⟨1, (fr : Int), (tt : Int), sq, (wh : Int), ⟨(ki : Int), (ks : Int)⟩, ns, tb, ep, bo, (ak : Int), ts, tn, gd⟩ : Mg))) := Lib.hid (by
    unfold tx
    congr 2
    rw [nums_app, nums_nus]
    simp [nums, enc, layH, pof, layP, layK])
  have HLn : Hid (([1, fr, tt] ++ [sq] ++ [ki, ks] ++ [ns.length] ++ ns.flatMap nu).length ≤ 1000) := Lib.hid (by rw [List.length_append, nus_len]; simp; omega)
  have HSz : Hid ((tx (enc (⟨1, (fr : Int), (tt : Int), sq, (wh : Int), ⟨(ki : Int), (ks : Int)⟩, ns, tb, ep, bo, (ak : Int), ts, tn, gd⟩ : Mg))).size ≤ 140737488351232) := Lib.hid (by have := enc_le hm; show (enc _).toArray.size ≤ _; simp at this ⊢; omega)
  have HSt : Hid (∀ k, k < ns.length → (ns.take (k + 1)).flatMap nu = (ns.take k).flatMap nu ++ nu (nw ns k)) := Lib.hid (fun k hk => nus_step _ k hk)
  have HLk : Hid (∀ k, k < ns.length → ((ns.take k).flatMap nu).length ≤ 300) := Lib.hid (fun k hk => by rw [nus_len, List.length_take]; omega)
  have HRow : Hid (∀ W : World, Below w.heap.size w W → Ns W A ns) := Lib.hid (fun W hb => hA.on hb)
  have HB01 : Hid (Below w.heap.size w (w.alloc (.cells #[.int .i64 1, .int .i64 (fr : Int), .int .i64 (tt : Int), .int .u64 (sq : Int), .int .i64 (wh : Int), .int .u64 (ki : Int), .int .i64 (ks : Int), (.slice A ns.length cA), (.slice T tb.length cT), .int .u64 (ep : Int), .int .u64 (bo : Int), .int .i64 (ak : Int), .string ts, .int .u64 (tn : Int), .bool gd] 28))) := Lib.hid ((Below.refl _ _).alloc (Nat.le_refl _) _)
  have HR : Hid (Row (w.alloc (.cells #[.int .i64 1, .int .i64 (fr : Int), .int .i64 (tt : Int), .int .u64 (sq : Int), .int .i64 (wh : Int), .int .u64 (ki : Int), .int .i64 (ks : Int), (.slice A ns.length cA), (.slice T tb.length cT), .int .u64 (ep : Int), .int .u64 (bo : Int), .int .i64 (ak : Int), .string ts, .int .u64 (tn : Int), .bool gd] 28)) w.heap.size [.int .i64 1, .int .i64 (fr : Int), .int .i64 (tt : Int), .int .u64 (sq : Int), .int .i64 (wh : Int), .int .u64 (ki : Int), .int .i64 (ks : Int), (.slice A ns.length cA), (.slice T tb.length cT), .int .u64 (ep : Int), .int .u64 (bo : Int), .int .i64 (ak : Int), .string ts, .int .u64 (tn : Int), .bool gd]) := Lib.hid (Row.new w _ _)
  have hlt1 : w.heap.size < (w.alloc (.cells #[.int .i64 1, .int .i64 (fr : Int), .int .i64 (tt : Int), .int .u64 (sq : Int), .int .i64 (wh : Int), .int .u64 (ki : Int), .int .i64 (ks : Int), (.slice A ns.length cA), (.slice T tb.length cT), .int .u64 (ep : Int), .int .u64 (bo : Int), .int .i64 (ak : Int), .string ts, .int .u64 (tn : Int), .bool gd] 28)).heap.size := by simp
  have hl8 : ns.length ≤ 100 := by omega
  clear hA hT l1 l2 l3 hm hw f1 f2 f3 f4 f5 f6 f7 g1 f8' f9'
  unfold mvv
  simp only []
  go_enter Tryd.func19, Tryd.ntmps19
  go_upto_region 1 with (fail)
  generalize w.alloc (.cells #[.int .i64 1, .int .i64 (fr : Int), .int .i64 (tt : Int), .int .u64 (sq : Int), .int .i64 (wh : Int), .int .u64 (ki : Int), .int .i64 (ks : Int), (.slice A ns.length cA), (.slice T tb.length cT), .int .u64 (ep : Int), .int .u64 (bo : Int), .int .i64 (ak : Int), .string ts, .int .u64 (tn : Int), .bool gd] 28) = w1 at *
  have HR1 := HR
  have k0 := HR.out.at_ 0 _ rfl
  have k1 := HR.out.at_ 1 _ rfl
  have k2 := HR.out.at_ 2 _ rfl
  have k3 := HR.out.at_ 3 _ rfl
  have k4 := HR.out.at_ 4 _ rfl
  have k5 := HR.out.at_ 5 _ rfl
  have k6 := HR.out.at_ 6 _ rfl
  have k7 := HR.out.at_ 7 _ rfl
  have k8 := HR.out.at_ 8 _ rfl
  have k9 := HR.out.at_ 9 _ rfl
  have k10 := HR.out.at_ 10 _ rfl
  have k11 := HR.out.at_ 11 _ rfl
  have k12 := HR.out.at_ 12 _ rfl
  have k13 := HR.out.at_ 13 _ rfl
  have k14 := HR.out.at_ 14 _ rfl
  go_upto_region 2 with (fail)
  have hb2 : Below w1.heap.size w1 (w1.alloc (.cells #[.int .u64 1, .int .u64 (fr : Int), .int .u64 (tt : Int)] 22)) := (Below.refl _ _).alloc (Nat.le_refl _) _
  have HO2 : Hid (OwnU (w1.alloc (.cells #[.int .u64 1, .int .u64 (fr : Int), .int .u64 (tt : Int)] 22)) w1.heap.size (.slice (some ⟨w1.heap.size, 0, none⟩) 3 3) [1, fr, tt]) := Lib.hid (OwnU.new w1 w1.heap.size [1, fr, tt] (Nat.le_refl _) (by unfold maxLen; simp))
  replace HR := Lib.hid (HR.out.kp (Kp.of (S := []) hb2) hlt1 (by simp))
  have HB2 := Lib.hid hb2
  clear k0 k1 k2 k3 k4 k5 k6 k7 k8 k9 k10 k11 k12 k13 k14
  generalize w1.alloc (.cells #[.int .u64 1, .int .u64 (fr : Int), .int .u64 (tt : Int)] 22) = w2 at *
  generalize Value.slice (some ⟨w1.heap.size, 0, none⟩) 3 3 = v2 at *
  clear hb2
  have k2 := HR.out.at_ 0 _ rfl
  have c2_3 := HR.out.at_ 3 _ rfl
  go_upto_region 5 with (at_builtin; refine wpList_append_fresh (W := w2) rfl _ _ rfl w1.heap.size v2 ([1, fr, tt]) rfl HO2.out HB2.out.size [sq] rfl (by simp) ?_; intro v3 w3 hO hb; have HO3 := Lib.hid hO; have HB3 := Lib.hid (HB2.out.trans hb); replace HR := Lib.hid (HR.out.kp (Kp.of (S := []) hb) hlt1 (by simp)); clear hO hb k2 c2_3)
  have k3 := HR.out.at_ 0 _ rfl
  have c3_5 := HR.out.at_ 5 _ rfl
  have c3_6 := HR.out.at_ 6 _ rfl
  go_upto_region 9 with (at_builtin; refine wpList_append_fresh (W := w3) rfl _ _ rfl w1.heap.size v3 ([1, fr, tt] ++ [sq]) rfl HO3.out HB3.out.size [ki, ks] rfl (by simp) ?_; intro v4 w4 hO hb; have HO4 := Lib.hid hO; have HB4 := Lib.hid (HB3.out.trans hb); replace HR := Lib.hid (HR.out.kp (Kp.of (S := []) hb) hlt1 (by simp)); clear hO hb k3 c3_5 c3_6)
  have k4 := HR.out.at_ 0 _ rfl
  have c4_7 := HR.out.at_ 7 _ rfl
  go_upto_region 11 with (at_builtin; refine wpList_append_fresh (W := w4) rfl _ _ rfl w1.heap.size v4 ([1, fr, tt] ++ [sq] ++ [ki, ks]) rfl HO4.out HB4.out.size [ns.length] rfl (by simp) ?_; intro v5 w5 hO hb; have HO5 := Lib.hid hO; have HB5 := Lib.hid (HB4.out.trans hb); replace HR := Lib.hid (HR.out.kp (Kp.of (S := []) hb) hlt1 (by simp)); clear hO hb k4 c4_7)
  have c0 := HR.out.at_ 0 _ rfl
  go_wp2_with fail
  clear c0
  go_loopw [3, 5] (fun v j wr => ∃ k : Nat, j = .int .i64 k ∧ k ≤ ns.length ∧ Hid (OwnU wr w1.heap.size v ([1, fr, tt] ++ [sq] ++ [ki, ks] ++ [ns.length] ++ (ns.take k).flatMap nu)) ∧ Hid (Below w1.heap.size w1 wr)) (fun _ j _ => ns.length - (intOf j).toNat)
  case atStart => exact ⟨0, rfl, Nat.zero_le _, Lib.hid (by have := HO5.out; simpa using this), HB5⟩
  case round =>
    obtain ⟨k, rfl, hk, hown, hbr⟩ := hrel
    obtain ⟨wq, ewq⟩ : ∃ wq, wq = wr := ⟨_, rfl⟩
    subst ewq
    have HRr := Lib.hid (HR1.out.kp (Kp.of (S := []) hbr.out) hlt1 (by simp))
    have HBw := Lib.hid (HB01.out.trans (hbr.out.mono HB01.out.size))
    have c0 := HRr.out.at_ 0 _ rfl
    have c7 := HRr.out.at_ 7 _ rfl
    have hsz := hbr.out.size
    by_cases hlt : k < ns.length
    · obtain ⟨ad, rfl, hlo, h1⟩ := (HRow.out w (Below.refl _ _)) k hlt
      have hyl := HL0.out _ (nw_mem ns hlt)
      have HS' := Lib.hid (HSt.out k hlt)
      have hlk := HLk.out k hlt
      have k0 : (0 : Int) ≤ (k : Int) := by omega
      have k1 : (k : Int) < (ns.length : Int) := by omega
      have e0 : decide ((k : Int) < (ns.length : Int)) = true := by simpa using k1
      generalize nw ns k = x at *
      obtain ⟨a0, a1, a2⟩ := h1.flat
      obtain ⟨xw, xi, xs⟩ := x
      simp only [] at a0 a1 a2 hyl
      have hq : 0 ≤ xi ∧ xi ≤ 18446744073709551615 := hyl.2.1
      obtain ⟨xw, rfl⟩ := Int.eq_ofNat_of_zero_le hyl.1.1
      obtain ⟨xi, rfl⟩ := Int.eq_ofNat_of_zero_le hq.1
      obtain ⟨xs, rfl⟩ := Int.eq_ofNat_of_zero_le hyl.2.2.1
      have u1 : IntKind.u64.wrap (xw : Int) = (xw : Int) := IntWalk.u64_in _ ⟨by omega, by omega⟩
      have u2 : IntKind.u64.wrap (xs : Int) = (xs : Int) := IntWalk.u64_in _ ⟨by omega, by omega⟩
      have HNu : Hid (nu ⟨(xw : Int), (xi : Int), (xs : Int)⟩ = [xw, xi, xs]) := Lib.hid rfl
      have hlo' : (ad.add (k * 3)).block < w.heap.size := by rw [block_add]; exact hlo
      have HA : Hid (∀ W : World, Below w.heap.size w W → W.cell? (ad.add (k * 3)) = some (.int .i64 (xw : Int)) ∧ W.cell? ⟨(ad.add (k * 3)).block, (ad.add (k * 3)).off + 1, none⟩ = some (.int .u64 (xi : Int)) ∧ W.cell? ⟨(ad.add (k * 3)).block, (ad.add (k * 3)).off + 2, none⟩ = some (.int .i64 (xs : Int))) := Lib.hid (fun W hb => ⟨(hb.cell hlo').trans a0, (hb.cell (p := ⟨(ad.add (k * 3)).block, (ad.add (k * 3)).off + 1, none⟩) hlo').trans a1, (hb.cell (p := ⟨(ad.add (k * 3)).block, (ad.add (k * 3)).off + 2, none⟩) hlo').trans a2⟩)
      have HC7 : Hid (∀ W : World, Below w1.heap.size w1 W → W.cell? ⟨w.heap.size, 7, none⟩ = some (.slice (some ad) ns.length cA)) := Lib.hid (fun W hb => (HR1.out.kp (Kp.of (S := []) hb) hlt1 (by simp)).at_ 7 _ rfl)
      have T3 : ([1, fr, tt] ++ [sq] ++ [ki, ks] ++ [ns.length] ++ (ns.take k).flatMap nu).length + ([xw, xi, xs] : List Nat).length ≤ 100000 := by rw [List.length_append]; simp only [List.length_append, List.length_cons, List.length_nil]; omega
      clear hyl hq a0 a1 a2 h1 hlo hlo'
      go_upto_region 14 with (fail)
      refine z_enter [(0, true), (1, true), (2, true), (3, true), (4, true), (5, true), (6, true), (7, true), (8, true), (9, true), (10, true), (11, true), (12, true), (13, true), (14, true), (15, true), (16, true), (17, true), (18, true), (19, true), (20, true), (21, true), (22, true), (23, false), (24, false), (25, true)] (fun w' => Below w1.heap.size w1 w') (by kernel_rfl) (by kernel_rfl) (by kernel_rfl) (fun _ _ d _ _ h => by cases d <;> exact h) hbr.out.drew ?_
      simp only [pickL, List.drop_succ_cons, List.drop_zero]
      have hOd : Hid (OwnU wq.drew w1.heap.size _ ([1, fr, tt] ++ [sq] ++ [ki, ks] ++ [ns.length] ++ (ns.take k).flatMap nu)) := Lib.hid hown.out.drew
      have hBd : Hid (Below w1.heap.size w1 wq.drew) := Lib.hid hbr.out.drew
      clear hown hbr c0 c7 hsz HRr HBw
      generalize wq.drew = wd at *
      iterate 23 (first | (refine' z_yes ?_ (by rfl) ?_ ?_; rotate_left; (intro w' hS; have c7 := HC7.out w' hS; obtain ⟨a0, a1, a2⟩ := HA.out w' (HB01.out.trans (hS.mono HB01.out.size)); clear hS; go_simp; try (with_reducible rfl)); simp only [Act.put, List.setIfInBounds_toArray, List.set_cons_zero, List.set_cons_succ]) | (refine z_no (by rfl) ?_; simp only [Act.put, List.setIfInBounds_toArray, List.set_cons_zero, List.set_cons_succ]))
      refine z_mem ?_
      intro K hK
      go_simp
      refine hK.out _ _ (hBd.out.alloc hBd.out.size _) ?_
      clear hK K
      refine z_mem ?_
      intro K hK
      rw [if_pos (by rfl)]
      refine wp_append_fresh (W := wd) _ _ rfl w1.heap.size u3 ([1, fr, tt] ++ [sq] ++ [ki, ks] ++ [ns.length] ++ (ns.take k).flatMap nu) rfl hOd.out hBd.out.size [xw, xi, xs] rfl T3 ?_
      intro v' wz hO hb
      have HO' := Lib.hid hO
      have HB' := Lib.hid (hBd.out.trans hb)
      refine hK.out _ _ HB'.out ?_
      clear hK K hO hb hOd hBd
      iterate 1 (first | (refine' z_yes ?_ (by rfl) ?_ ?_; rotate_left; (intro w' hS; have c7 := HC7.out w' hS; obtain ⟨a0, a1, a2⟩ := HA.out w' (HB01.out.trans (hS.mono HB01.out.size)); clear hS; go_simp; try (with_reducible rfl)); simp only [Act.put, List.setIfInBounds_toArray, List.set_cons_zero, List.set_cons_succ]) | (refine z_no (by rfl) ?_; simp only [Act.put, List.setIfInBounds_toArray, List.set_cons_zero, List.set_cons_succ]))
      refine z_nil ?_
      clear T3 HA HC7
      go_wp2_with fail
      go_roundw
      case rel => exact ⟨k + 1, by go_num, by omega, Lib.hid (by rw [HS'.out, HNu.out, ← List.append_assoc]; exact HO'.out), HB'⟩
      case measure => simp [intOf]; omega
    · obtain rfl : k = ns.length := by omega
      have e0 : decide ((ns.length : Int) < (ns.length : Int)) = false := by simp
      have ho := hown.out
      rw [List.take_length] at ho
      generalize ([1, fr, tt] ++ [sq] ++ [ki, ks] ++ [ns.length] ++ ns.flatMap nu) = Z at ho HLn HZ HEnc
      obtain ⟨AN, cN, rfl, hN⟩ := ho.nums
      have HN := Lib.hid (rnums_any AN cN _ wq HLn.out HZ.out hN)
      clear hN ho hown
      go_wp2_with (first
        | (go_at_call 41; refine HN.out.mono ?_; rintro e wn ⟨rfl, hbn⟩; rw [HEnc.out]; have HBn := Lib.hid (hbr.out.trans (hbn.mono hbr.out.size)); clear hbn)
        | (go_at_call 38; refine (rseal_any _ _ HSz.out).mono ?_; rintro e ws ⟨rfl, hbs⟩; have HBs := Lib.hid (HBn.out.trans (hbs.mono HBn.out.size)); clear hbs))
      go_ret
      exact ⟨rfl, HB01.out.trans (HBs.out.mono HB01.out.size)⟩
end Go.Proofs.YtjeepmdklbfgeaaDoor
