/-
  The walk of Write.
-/
import Derived.Test.YtjeepmdklbfgeaaDoorCheckM
namespace Go.Proofs.YtjeepmdklbfgeaaDoor
open Go.Sort Go.RowKit Go.Proofs.YtjeepmdklbfgeaaDoor.Pure Go.Proofs.YtjeepmdklbfgeaaDoor.W Go.Proofs.YtjeepmdklbfgeaaDoor.W.Pure
open Go.Maps (Keyed int_keyed keyOf_int_mk IsMap)

theorem layP_le {m : Mg} {i : Nat} (h : mayP i m = true) : (layP i m).length ≤ 1290 ∧ (i ≠ 4 → (layP i m).length ≤ 250) := by
  match i with
  | 0 => have := num_le m.sq; exact ⟨by show (num m.sq).length ≤ _; omega, fun _ => by show (num m.sq).length ≤ _; omega⟩
  | 1 => have := num_le m.wh.toNat; exact ⟨by show (num _).length ≤ _; omega, fun _ => by show (num _).length ≤ _; omega⟩
  | 2 => have := layK_le m.k; exact ⟨by show (layK m.k).length ≤ _; omega, fun _ => by show (layK m.k).length ≤ _; omega⟩
  | 3 =>
    have hm : m.ns.length ≤ 8 := by have := h; simp [mayP, mayNs] at this; exact this.1
    have h1 := num_le m.ns.length
    have h2 := flat_le layN 30 layN_le m.ns
    have h3 : (layP 3 m).length = (num m.ns.length).length + (m.ns.flatMap layN).length := List.length_append
    exact ⟨by omega, fun _ => by omega⟩
  | 4 =>
    have hm : m.tb.length ≤ 64 := ((mayT_iff m.tb).1 h).2.1
    have h1 := num_le m.tb.length
    have h2 := flat_le layK 20 layK_le m.tb
    have h3 : (layP 4 m).length = (num m.tb.length).length + (m.tb.flatMap layK).length := List.length_append
    exact ⟨by omega, fun e => absurd rfl e⟩
  | 5 => have := num_le m.ep; exact ⟨by show (num m.ep).length ≤ _; omega, fun _ => by show (num m.ep).length ≤ _; omega⟩
  | 6 => have := num_le m.bo; exact ⟨by show (num m.bo).length ≤ _; omega, fun _ => by show (num m.bo).length ≤ _; omega⟩
  | 7 => have := num_le m.ak.toNat; exact ⟨by show (num _).length ≤ _; omega, fun _ => by show (num _).length ≤ _; omega⟩
  | 8 =>
    have hm : m.ts.size ≤ 20 := by have := h; simp [mayP, nameB] at this; exact this.2.2
    have h1 := num_le m.ts.size
    have h3 : (layP 8 m).length = (num m.ts.size).length + m.ts.data.toList.length := List.length_append
    rw [size_list] at h3
    exact ⟨by omega, fun _ => by omega⟩
  | 9 => have := num_le m.tn; exact ⟨by show (num m.tn).length ≤ _; omega, fun _ => by show (num m.tn).length ≤ _; omega⟩
  | 10 => have := num_le (if m.gd = true then 1 else 0); exact ⟨by show (num _).length ≤ _; omega, fun _ => by show (num _).length ≤ _; omega⟩
  | n + 11 => exact ⟨by show ([] : List UInt8).length ≤ _; simp, fun _ => by show ([] : List UInt8).length ≤ _; simp⟩
theorem layH_le (m : Mg) : (layH m).length ≤ 30 := by
  have h1 := num_le m.kd.toNat
  have h2 := num_le m.fr.toNat
  have h3 := num_le m.to.toNat
  unfold layH
  rw [List.length_append, List.length_append]
  omega
theorem enc_le {m : Mg} (h : mayM m = true) : (enc m).length ≤ 2000 := by
  have h0 := layH_le m
  have hp : ∀ i ∈ pof m.kd, (layP i m).length ≤ 1290 ∧ (i ≠ 4 → (layP i m).length ≤ 250) := fun i hi => layP_le (may_parts h i hi)
  have hk := may_kind h
  unfold enc
  rw [List.length_append]
  rcases hk with e | e | e | e | e | e | e | e | e | e | e | e <;> rw [e] at hp ⊢ <;> simp [pof] at hp ⊢ <;> omega
theorem ret_seal {a b : ByteArray} {k l : Int} (h : a = b) (h' : k = l) : Ending.returned (.tuple #[.string a, .int .i64 k]) = .returned (.tuple #[.string b, .int .i64 l]) := by rw [h, h']
set_option maxRecDepth 100000 in
set_option maxHeartbeats 4000000 in
theorem write_no (m : Mg) (u : Value) (w : World) (h : MsgV w u m) (hm : mayM m = false) : Calls Tryd.prog 10 #[u] w fun e w' => e = .returned (.tuple #[.string ⟨#[]⟩, .int .i64 1]) ∧ Below w.heap.size w w' := by
  have hMV := h
  obtain ⟨A, cA, T, cT, rfl, hA, hT, l1, l2, l3⟩ := h
  have HB0 : Hid (Below w.heap.size w (w.alloc (.cells #[.int .i64 m.kd, .int .i64 m.fr, .int .i64 m.to, .int .u64 (m.sq : Int), .int .i64 m.wh, .int .u64 m.k.i, .int .i64 m.k.s, (.slice A m.ns.length cA), (.slice T m.tb.length cT), .int .u64 (m.ep : Int), .int .u64 (m.bo : Int), .int .i64 m.ak, .string m.ts, .int .u64 (m.tn : Int), .bool m.gd] 28))) := Lib.hid ((Below.refl _ _).alloc (Nat.le_refl _) _)
  have HR0 : Hid (Row (w.alloc (.cells #[.int .i64 m.kd, .int .i64 m.fr, .int .i64 m.to, .int .u64 (m.sq : Int), .int .i64 m.wh, .int .u64 m.k.i, .int .i64 m.k.s, (.slice A m.ns.length cA), (.slice T m.tb.length cT), .int .u64 (m.ep : Int), .int .u64 (m.bo : Int), .int .i64 m.ak, .string m.ts, .int .u64 (m.tn : Int), .bool m.gd] 28)) w.heap.size [.int .i64 m.kd, .int .i64 m.fr, .int .i64 m.to, .int .u64 (m.sq : Int), .int .i64 m.wh, .int .u64 m.k.i, .int .i64 m.k.s, (.slice A m.ns.length cA), (.slice T m.tb.length cT), .int .u64 (m.ep : Int), .int .u64 (m.bo : Int), .int .i64 m.ak, .string m.ts, .int .u64 (m.tn : Int), .bool m.gd]) := Lib.hid (Row.new w _ _)
  have HV0 : Hid (MsgV (w.alloc (.cells #[.int .i64 m.kd, .int .i64 m.fr, .int .i64 m.to, .int .u64 (m.sq : Int), .int .i64 m.wh, .int .u64 m.k.i, .int .i64 m.k.s, (.slice A m.ns.length cA), (.slice T m.tb.length cT), .int .u64 (m.ep : Int), .int .u64 (m.bo : Int), .int .i64 m.ak, .string m.ts, .int .u64 (m.tn : Int), .bool m.gd] 28)) (mvv m (.slice A m.ns.length cA) (.slice T m.tb.length cT)) m) := Lib.hid (hMV.on HB0.out)
  have z0 : w.heap.size < (w.alloc (.cells #[.int .i64 m.kd, .int .i64 m.fr, .int .i64 m.to, .int .u64 (m.sq : Int), .int .i64 m.wh, .int .u64 m.k.i, .int .i64 m.k.s, (.slice A m.ns.length cA), (.slice T m.tb.length cT), .int .u64 (m.ep : Int), .int .u64 (m.bo : Int), .int .i64 m.ak, .string m.ts, .int .u64 (m.tn : Int), .bool m.gd] 28)).heap.size := by simp
  have HCK := Lib.hid (fun (W : World) (h : MsgV W (mvv m (.slice A m.ns.length cA) (.slice T m.tb.length cT)) m) => check_msg m _ W h)
  have ho : okE (mayM m) = 1 := by rw [hm]; rfl
  rw [ho] at HCK
  clear hMV hA hT l1 l2 l3 hm ho
  unfold mvv at HV0 HCK ⊢
  go_enter Tryd.func10, Tryd.ntmps10
  go_upto_region 1 with (fail)
  generalize w.alloc (.cells #[.int .i64 m.kd, .int .i64 m.fr, .int .i64 m.to, .int .u64 (m.sq : Int), .int .i64 m.wh, .int .u64 m.k.i, .int .i64 m.k.s, (.slice A m.ns.length cA), (.slice T m.tb.length cT), .int .u64 (m.ep : Int), .int .u64 (m.bo : Int), .int .i64 m.ak, .string m.ts, .int .u64 (m.tn : Int), .bool m.gd] 28) = w0 at *
  have k0 := HR0.out.at_ 0 _ rfl
  have k1 := HR0.out.at_ 1 _ rfl
  have k2 := HR0.out.at_ 2 _ rfl
  have k3 := HR0.out.at_ 3 _ rfl
  have k4 := HR0.out.at_ 4 _ rfl
  have k5 := HR0.out.at_ 5 _ rfl
  have k6 := HR0.out.at_ 6 _ rfl
  have k7 := HR0.out.at_ 7 _ rfl
  have k8 := HR0.out.at_ 8 _ rfl
  have k9 := HR0.out.at_ 9 _ rfl
  have k10 := HR0.out.at_ 10 _ rfl
  have k11 := HR0.out.at_ 11 _ rfl
  have k12 := HR0.out.at_ 12 _ rfl
  have k13 := HR0.out.at_ 13 _ rfl
  have k14 := HR0.out.at_ 14 _ rfl
  go_wp2_with (go_at_call 11; refine (HCK.out _ HV0.out).mono ?_; rintro e w1 ⟨rfl, hb1⟩)
  go_ret2
  exact ⟨rfl, HB0.out.trans (hb1.mono (Nat.le_of_lt z0))⟩
set_option maxRecDepth 100000 in
set_option maxHeartbeats 4000000 in
theorem write_yes (m : Mg) (u : Value) (w : World) (h : MsgV w u m) (hw : Wf m) (hm : mayM m = true) (htab : Tab w) : Calls Tryd.prog 10 #[u] w fun e w' => e = .returned (.tuple #[.string (sealB (tx (enc m))), .int .i64 0]) ∧ Below w.heap.size w w' := by
  have hMV := h
  obtain ⟨A, cA, T, cT, rfl, hA, hT, l1, l2, l3⟩ := h
  have HB0 : Hid (Below w.heap.size w (w.alloc (.cells #[.int .i64 m.kd, .int .i64 m.fr, .int .i64 m.to, .int .u64 (m.sq : Int), .int .i64 m.wh, .int .u64 m.k.i, .int .i64 m.k.s, (.slice A m.ns.length cA), (.slice T m.tb.length cT), .int .u64 (m.ep : Int), .int .u64 (m.bo : Int), .int .i64 m.ak, .string m.ts, .int .u64 (m.tn : Int), .bool m.gd] 28))) := Lib.hid ((Below.refl _ _).alloc (Nat.le_refl _) _)
  have HR0 : Hid (Row (w.alloc (.cells #[.int .i64 m.kd, .int .i64 m.fr, .int .i64 m.to, .int .u64 (m.sq : Int), .int .i64 m.wh, .int .u64 m.k.i, .int .i64 m.k.s, (.slice A m.ns.length cA), (.slice T m.tb.length cT), .int .u64 (m.ep : Int), .int .u64 (m.bo : Int), .int .i64 m.ak, .string m.ts, .int .u64 (m.tn : Int), .bool m.gd] 28)) w.heap.size [.int .i64 m.kd, .int .i64 m.fr, .int .i64 m.to, .int .u64 (m.sq : Int), .int .i64 m.wh, .int .u64 m.k.i, .int .i64 m.k.s, (.slice A m.ns.length cA), (.slice T m.tb.length cT), .int .u64 (m.ep : Int), .int .u64 (m.bo : Int), .int .i64 m.ak, .string m.ts, .int .u64 (m.tn : Int), .bool m.gd]) := Lib.hid (Row.new w _ _)
  have HV0 : Hid (MsgV (w.alloc (.cells #[.int .i64 m.kd, .int .i64 m.fr, .int .i64 m.to, .int .u64 (m.sq : Int), .int .i64 m.wh, .int .u64 m.k.i, .int .i64 m.k.s, (.slice A m.ns.length cA), (.slice T m.tb.length cT), .int .u64 (m.ep : Int), .int .u64 (m.bo : Int), .int .i64 m.ak, .string m.ts, .int .u64 (m.tn : Int), .bool m.gd] 28)) (mvv m (.slice A m.ns.length cA) (.slice T m.tb.length cT)) m) := Lib.hid (hMV.on HB0.out)
  have z0 : w.heap.size < (w.alloc (.cells #[.int .i64 m.kd, .int .i64 m.fr, .int .i64 m.to, .int .u64 (m.sq : Int), .int .i64 m.wh, .int .u64 m.k.i, .int .i64 m.k.s, (.slice A m.ns.length cA), (.slice T m.tb.length cT), .int .u64 (m.ep : Int), .int .u64 (m.bo : Int), .int .i64 m.ak, .string m.ts, .int .u64 (m.tn : Int), .bool m.gd] 28)).heap.size := by simp
  have HCK := Lib.hid (fun (W : World) (h : MsgV W (mvv m (.slice A m.ns.length cA) (.slice T m.tb.length cT)) m) => check_msg m _ W h)
  have ho : okE (mayM m) = 0 := by rw [hm]; rfl
  rw [ho] at HCK
  have HTb := Lib.hid (htab.on HB0.out)
  have hkd : 0 ≤ m.kd ∧ m.kd ≤ 12 := by have := may_kind hm; omega
  have hN : (0 ≤ m.fr ∧ m.fr < 64) ∧ 0 ≤ m.to ∧ m.to < 64 := by
    have := hm
    unfold mayM headB at this
    simp only [Bool.and_eq_true, isN_iff] at this
    exact ⟨this.1.2.1, this.1.2.2.1⟩
  obtain ⟨a, ha⟩ : ∃ a : Nat, m.kd = (a : Int) := ⟨m.kd.toNat, (nat_of hkd.1).symm⟩
  obtain ⟨b, hb⟩ : ∃ b : Nat, m.fr = (b : Int) := ⟨m.fr.toNat, (nat_of hN.1.1).symm⟩
  obtain ⟨c, hc⟩ : ∃ c : Nat, m.to = (c : Int) := ⟨m.to.toNat, (nat_of hN.2.1).symm⟩
  have ha' : a ≤ 12 := by omega
  have hb' : b < 64 := by omega
  have hc' : c < 64 := by omega
  have HNum := Lib.hid (fun (W : World) (g : Nat) => tnum3 a b c g W (by omega) (by omega) (by omega))
  have hH : num a ++ (num b ++ num c) = layH m := by unfold layH; rw [ha, hb, hc]; rfl
  rw [hH] at HNum
  have HPO := Lib.hid (fun W => partsof_any m.kd W)
  have HE : Hid (enc m = layH m ++ (pof m.kd).flatMap fun i => layP i m) := Lib.hid rfl
  have HEl := Lib.hid (enc_le hm)
  have HLm : Hid (∀ i ∈ pof m.kd, i < 11 ∧ mayP i m = true) := Lib.hid (fun i hi => ⟨pof_lt _ i hi, may_parts hm i hi⟩)
  have HL20 : Hid ((pof m.kd).length ≤ 11) := Lib.hid (by
    rcases kinds m.kd with (h | h | h | h | h | h | h | h | h | h | h | h) | ⟨_, h⟩ <;> (rw [h]; decide))
  have hHl : (tx (layH m)).size ≤ 30 := by rw [tx_size]; exact layH_le m
  have HWf := Lib.hid hw
  have HSl : Hid (∀ k, k ≤ (pof m.kd).length → (tx (layH m ++ ((pof m.kd).take k).flatMap fun i => layP i m)).size ≤ 2000) := Lib.hid (fun k _ => by
    rw [tx_size, List.length_append]
    have h1 := HEl.out
    rw [HE.out, List.length_append] at h1
    have h2 : (pof m.kd).flatMap (fun i => layP i m) = ((pof m.kd).take k).flatMap (fun i => layP i m) ++ ((pof m.kd).drop k).flatMap (fun i => layP i m) := by rw [← List.flatMap_append, List.take_append_drop]
    rw [h2, List.length_append] at h1
    omega)
  clear hMV hA hT l1 l2 l3 hm ho hkd hN hH hw htab
  generalize pof m.kd = L at *
  unfold mvv at HV0 HCK ⊢
  rw [ha, hb, hc] at HR0 HV0 HB0 HTb z0 HCK ⊢
  rw [ha] at HPO
  have hl0 : tx (layH m) = tx (layH m ++ (L.take 0).flatMap fun i => layP i m) := by simp
  have HL0 := Lib.hid hl0
  clear hl0
  generalize hq0 : tx (layH m) = q0 at *
  clear ha hb hc hq0
  go_enter Tryd.func10, Tryd.ntmps10
  go_upto_region 1 with (fail)
  generalize w.alloc (.cells #[.int .i64 (a : Int), .int .i64 (b : Int), .int .i64 (c : Int), .int .u64 (m.sq : Int), .int .i64 m.wh, .int .u64 m.k.i, .int .i64 m.k.s, (.slice A m.ns.length cA), (.slice T m.tb.length cT), .int .u64 (m.ep : Int), .int .u64 (m.bo : Int), .int .i64 m.ak, .string m.ts, .int .u64 (m.tn : Int), .bool m.gd] 28) = w0 at *
  have k0 := HR0.out.at_ 0 _ rfl
  have k1 := HR0.out.at_ 1 _ rfl
  have k2 := HR0.out.at_ 2 _ rfl
  have k3 := HR0.out.at_ 3 _ rfl
  have k4 := HR0.out.at_ 4 _ rfl
  have k5 := HR0.out.at_ 5 _ rfl
  have k6 := HR0.out.at_ 6 _ rfl
  have k7 := HR0.out.at_ 7 _ rfl
  have k8 := HR0.out.at_ 8 _ rfl
  have k9 := HR0.out.at_ 9 _ rfl
  have k10 := HR0.out.at_ 10 _ rfl
  have k11 := HR0.out.at_ 11 _ rfl
  have k12 := HR0.out.at_ 12 _ rfl
  have k13 := HR0.out.at_ 13 _ rfl
  have k14 := HR0.out.at_ 14 _ rfl
  have wa : IntKind.u64.wrap (a : Int) = (a : Int) := IntWalk.u64_in _ ⟨by omega, by omega⟩
  have wb : IntKind.u64.wrap (b : Int) = (b : Int) := IntWalk.u64_in _ ⟨by omega, by omega⟩
  have wc : IntKind.u64.wrap (c : Int) = (c : Int) := IntWalk.u64_in _ ⟨by omega, by omega⟩
  go_wp2_with fail
  refine (HCK.out _ HV0.out).mono ?_
  rintro e w1 ⟨rfl, hb1⟩
  have HB1 : Hid (Below w.heap.size w w1) := Lib.hid (HB0.out.trans (hb1.mono (Nat.le_of_lt z0)))
  have HR1 := Lib.hid (HR0.out.on hb1 (show 0 < 15 by decide))
  have HV1 := Lib.hid (HV0.out.on hb1)
  have HT1 := Lib.hid (HTb.out.on hb1)
  clear hb1 HB0 HR0 HV0 z0 HTb HCK k0 k1 k2 k3 k4 k5 k6 k7 k8 k9 k10 k11 k12 k13 k14
  have k0 := HR1.out.at_ 0 _ rfl
  have k1 := HR1.out.at_ 1 _ rfl
  have k2 := HR1.out.at_ 2 _ rfl
  go_upto_region 4 with (fail)
  have hb2 : Below w1.heap.size w1 (w1.alloc (.cells #[.int .u64 (a : Int), .int .u64 (b : Int), .int .u64 (c : Int)] 22)) := (Below.refl _ _).alloc (Nat.le_refl _) _
  go_wp2_with fail
  refine (HNum.out _ _ (by simp) (by go_simp) (by go_simp) (by go_simp)).mono ?_
  rintro e w2 ⟨rfl, hb3⟩
  have hb4 := hb2.trans (hb3.mono hb2.size)
  have HB2 : Hid (Below w.heap.size w w2) := Lib.hid (HB1.out.trans (hb4.mono HB1.out.size))
  have HR2 := Lib.hid (HR1.out.on hb4 (show 0 < 15 by decide))
  have HV2 := Lib.hid (HV1.out.on hb4)
  have HT2 := Lib.hid (HT1.out.on hb4)
  clear hb2 hb3 hb4 HB1 HR1 HV1 HT1 HNum k0 k1 k2 wa wb wc
  go_wp2_with fail
  refine (parts_any _).mono ?_
  rintro e wP ⟨g, rfl, hgB, hTab, hb⟩
  have HTab := Lib.hid hTab
  have HB3 : Hid (Below w.heap.size w wP) := Lib.hid (HB2.out.trans (hb.mono HB2.out.size))
  have HR3 := Lib.hid (HR2.out.on hb (show 0 < 15 by decide))
  have HV3 := Lib.hid (HV2.out.on hb)
  have HT3 := Lib.hid (HT2.out.on hb)
  clear hTab hgB hb HB2 HR2 HV2 HT2
  generalize w2.heap.size = B at *
  have k0 := HR3.out.at_ 0 _ rfl
  go_wp2_with fail
  refine (HPO.out _).mono ?_
  rintro e w4 ⟨LA, Lc, rfl, hLs, _, hb⟩
  have HLs := Lib.hid hLs
  have HB4 : Hid (Below w.heap.size w w4) := Lib.hid (HB3.out.trans (hb.mono HB3.out.size))
  have HR4 := Lib.hid (HR3.out.on hb (show 0 < 15 by decide))
  have HV4 := Lib.hid (HV3.out.on hb)
  have HT4 := Lib.hid (HT3.out.on hb)
  have HPS : Hid (Below wP.heap.size wP w4) := Lib.hid hb
  clear k0 hLs hb HB3 HR3 HV3 HT3 HPO
  have hln := HL20.out
  go_wp2_with fail
  go_loopw [5, 30] (fun v i wr => ∃ (k : Nat) (q : ByteArray), v = .string q ∧ i = .int .i64 k ∧ k ≤ L.length ∧ q.size ≤ 2000 ∧ Hid (q = tx (layH m ++ (L.take k).flatMap fun i => layP i m)) ∧ Hid (Below w4.heap.size w4 wr)) (fun _ i _ => L.length - (intOf i).toNat)
  case atStart => exact ⟨0, q0, rfl, rfl, Nat.zero_le _, by omega, HL0, Lib.hid (Below.refl _ _)⟩
  case round =>
    obtain ⟨k, q, rfl, rfl, hk, hqs, hq, hbr⟩ := hrel
    by_cases hlt : k < L.length
    · obtain ⟨ad, rfl, hlo, hcell⟩ := (HLs.out.on hbr.out) k hlt
      have hge : L.getD k 0 = L[k] := by simp [List.getD, hlt]
      have hmi := HLm.out (L.getD k 0) (by rw [hge]; exact List.getElem_mem hlt)
      have HN : Hid (tx (layH m ++ (L.take (k + 1)).flatMap fun i => layP i m) = tx (layH m ++ (L.take k).flatMap fun i => layP i m) ++ tx (layP (L.getD k 0) m)) := Lib.hid (by
        rw [tx_app, List.take_succ_eq_append_getElem hlt, List.flatMap_append, hge, List.append_assoc]
        simp)
      have HS2 := HSl.out (k + 1) (by omega)
      have hzz : (tx (layP (L.getD k 0) m)).size ≤ 1290 := by rw [tx_size]; exact (layP_le hmi.2).1
      clear hge
      generalize L.getD k 0 = i at *
      obtain ⟨f, hM, hdom, hsem⟩ := HTab.out
      obtain ⟨v, hv⟩ : ∃ v, f (i : Int) = some v := by
        have := (hdom (i : Int)).2 ⟨by omega, by omega⟩
        exact Option.isSome_iff_exists.1 this
      obtain ⟨nm, nz, nl, nt, cm, cz, cl, ct, rfl, ⟨_, _, hel, _⟩, hW⟩ := hsem i v hmi.1 hv
      have hbP : Below wP.heap.size wP wr := HPS.out.trans (hbr.out.mono HPS.out.size)
      have hlook := (hM.on hbP).look (i : Int) ⟨by omega, by omega⟩ _ hv
      have HV5 := HV4.out.on hbr.out
      have HC := Lib.hid ((hW wr (Same.below hbP)).2.2.1 m _ HV5 HWf.out hmi.2)
      have hel' : ∀ (args : Array Value) (w : World), (callFunc nl args).run Tryd.prog w = .ok (.enter nl args) w := hel
      have HR5 := HR4.out.on hbr.out (show 0 < 15 by decide)
      have hfd : ∀ W : World, (Instr.field 57 (.agg #[.func (.func nm) #[] cm.toArray, .func (.func nz) #[] cz.toArray, .func (.func nl) #[] cl.toArray, .func (.func nt) #[] ct.toArray]) 2).run Tryd.prog W = .ok (.func (.func nl) #[] cl.toArray) W := fun W => by kernel_rfl
      have x0 := HR5.at_ 0 _ rfl
      have x1 := HR5.at_ 1 _ rfl
      have x2 := HR5.at_ 2 _ rfl
      have x3 := HR5.at_ 3 _ rfl
      have x4 := HR5.at_ 4 _ rfl
      have x5 := HR5.at_ 5 _ rfl
      have x6 := HR5.at_ 6 _ rfl
      have x7 := HR5.at_ 7 _ rfl
      have x8 := HR5.at_ 8 _ rfl
      have x9 := HR5.at_ 9 _ rfl
      have x10 := HR5.at_ 10 _ rfl
      have x11 := HR5.at_ 11 _ rfl
      have x12 := HR5.at_ 12 _ rfl
      have x13 := HR5.at_ 13 _ rfl
      have x14 := HR5.at_ 14 _ rfl
      have k0' : (0 : Int) ≤ (k : Int) := by omega
      have k1' : (k : Int) < (L.length : Int) := by omega
      have e0 : decide ((k : Int) < (L.length : Int)) = true := by simpa using k1'
      have e0' : decide (k < L.length) = true := by simpa using hlt
      generalize hz : tx (layP i m) = z at *
      clear hW hel hM hdom hsem hv HV5 HR5 hbP hmi hz
      go_wp2_with (go_at_fn nl; refine HC.out.mono ?_; rintro e w5 ⟨rfl, hb5⟩)
      go_roundw
      case rel => exact ⟨k + 1, q ++ z, rfl, by go_num, by omega, by rw [hq.out, ← HN.out]; exact HS2, Lib.hid (by rw [hq.out, HN.out]), Lib.hid (hbr.out.trans (hb5.mono hbr.out.size))⟩
      case measure => simp [intOf]; omega
    · have hkl : k = L.length := by omega
      have e0 : decide ((k : Int) < (L.length : Int)) = false := by simp; omega
      have e0' : decide (k < L.length) = false := by simpa using hlt
      have HQ : Hid (tx (enc m) = q) := Lib.hid (by rw [hq.out, hkl, List.take_length, HE.out])
      have HSe := Lib.hid (seal_in q wr (by omega) (HT4.out.on hbr.out))
      clear hkl
      go_wp2_with (go_at_call 25; refine HSe.out.mono ?_; rintro e w5 ⟨rfl, hb5⟩)
      go_ret2
      have hb6 := hbr.out.trans (hb5.mono hbr.out.size)
      exact ⟨ret_seal (by rw [HQ.out]) rfl, HB4.out.trans (hb6.mono HB4.out.size)⟩
end Go.Proofs.YtjeepmdklbfgeaaDoor
