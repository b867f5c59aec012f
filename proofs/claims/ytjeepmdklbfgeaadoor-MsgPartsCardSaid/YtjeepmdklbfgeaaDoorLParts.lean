/-
  MsgParts: a part that its kind has not, and that is not zero, makes a message none; so does the same node at both ends: the law returns true for every input.
-/
import Derived.Test.YtjeepmdklbfgeaaDoorVar
import Derived.Test.YtjeepmdklbfgeaaDoorFew
import Derived.Test.YtjeepmdklbfgeaaDoorMLaw
import Derived.Deep.CutBlock
import Derived.Test.YtjeepmdklbfgeaaDoorCards
import Derived.Test.YtjeepmdklbfgeaaDoorTie
namespace Go.Proofs.YtjeepmdklbfgeaaDoor.lawParts
open Go.ChangeMaps (open_string)
open Go.Sort Go.ChangeShapes Go.WideShapes Go.ChangeAt Go.RowKit Go.Proofs.YtjeepmdklbfgeaaDoor.Pure Go.Proofs.YtjeepmdklbfgeaaDoor.W Go.Proofs.YtjeepmdklbfgeaaDoor.W.Pure

theorem MsgV.like {W : World} {x : Mg} {A : Option Addr} {cA : Nat} {T : Option Addr} {cT : Nat} (h : MsgV W (mvv x (.slice A x.ns.length cA) (.slice T x.tb.length cT)) x) (y : Mg) (h1 : y.ns = x.ns) (h2 : y.tb = x.tb) (h3 : y.ts = x.ts) : MsgV W (mvv y (.slice A y.ns.length cA) (.slice T y.tb.length cT)) y := by
  obtain ⟨A', cA', T', cT', e, hN, hK, l1, l2, l3⟩ := h
  unfold mvv at e
  simp only [Value.agg.injEq, Array.mk.injEq, List.cons.injEq, Value.slice.injEq, true_and, and_true] at e
  obtain ⟨⟨rfl, rfl⟩, rfl, rfl⟩ := e
  exact ⟨A, cA, T, cT, rfl, h1 ▸ hN, h2 ▸ hK, h1 ▸ l1, h2 ▸ l2, h3 ▸ l3⟩
theorem three_v {W : World} {x : Mg} {A : Option Addr} {cA : Nat} {T : Option Addr} {cT : Nat} (h : MsgV W (mvv x (.slice A x.ns.length cA) (.slice T x.tb.length cT)) x) {B : Option Addr} (hB : Lst W B [z0]) : MsgV W (mvv { x with tb := [z0] } (.slice A x.ns.length cA) (.slice B 1 1)) { x with tb := [z0] } := by
  obtain ⟨A', cA', T', cT', e, hN, hK, l1, l2, l3⟩ := h
  unfold mvv at e
  simp only [Value.agg.injEq, Array.mk.injEq, List.cons.injEq, Value.slice.injEq, true_and, and_true] at e
  obtain ⟨⟨rfl, rfl⟩, rfl, rfl⟩ := e
  exact ⟨A, cA, B, 1, rfl, hN, hB, l1, by simp, l3⟩
theorem not_fits {y : Mg} (i : Nat) (hi : i < 11) (hp : (pof y.kd).contains i = false) (hz : zeroP i y = false) : mayM y = false := by
  rcases e : mayM y with _ | _
  · rfl
  · have := may_fits e i hi
    unfold fitsP at this
    rw [if_neg (by rw [hp]; decide), hz] at this
    cases this
theorem not_head {y : Mg} (h : headB y = false) : mayM y = false := by unfold mayM; rw [h]; rfl
theorem p0 (x : Mg) : mayM { x with «to» := x.fr } = false := not_head (by unfold headB; simp)
theorem p1 {x : Mg} (h : mayM x = true) : mayM { x with kd := x.kd + 20 } = false := not_head (by
  have hk := may_kind h
  have e : pof (x.kd + 20) = [] := by rcases hk with e | e | e | e | e | e | e | e | e | e | e | e <;> rw [e] <;> rfl
  unfold headB; simp [e])
theorem nodes {x : Mg} (h : mayM x = true) : (0 ≤ x.fr ∧ x.fr < 64) ∧ 0 ≤ x.to ∧ x.to < 64 := by
  have := h
  unfold mayM headB at this
  simp only [Bool.and_eq_true, isN_iff] at this
  exact ⟨this.1.2.1, this.1.2.2.1⟩
theorem p2 {x : Mg} (h : mayM x = true) : mayM { x with fr := x.fr + 64 } = false := not_head (by
  have h1 := nodes h
  have e : isN (x.fr + 64) = false := by unfold isN; simp; omega
  unfold headB; simp [e])
theorem pk {x : Mg} (h : mayM x = true) (i : Nat) (P : Int → Prop) (hP : P x.kd) (hd : ∀ k : Int, (k = 1 ∨ k = 2 ∨ k = 3 ∨ k = 4 ∨ k = 5 ∨ k = 6 ∨ k = 7 ∨ k = 8 ∨ k = 9 ∨ k = 10 ∨ k = 11 ∨ k = 12) → P k → (pof k).contains i = false) : (pof x.kd).contains i = false := hd _ (may_kind h) hP
theorem p3a {x : Mg} (h : mayM x = true) (hk : x.kd < 5 ∨ 6 < x.kd) : mayM { x with tb := [z0] } = false :=
  not_fits 4 (by decide) (pk h 4 (fun k => k < 5 ∨ 6 < k) hk (by rintro k (rfl | rfl | rfl | rfl | rfl | rfl | rfl | rfl | rfl | rfl | rfl | rfl) hk <;> first | rfl | (exfalso; revert hk; decide))) rfl
theorem p3b {x : Mg} (h : mayM x = true) (hk : ¬ (x.kd < 5 ∨ 6 < x.kd)) : mayM { x with sq := 1 } = false :=
  not_fits 0 (by decide) (pk h 0 (fun k => ¬ (k < 5 ∨ 6 < k)) hk (by rintro k (rfl | rfl | rfl | rfl | rfl | rfl | rfl | rfl | rfl | rfl | rfl | rfl) hk <;> first | rfl | (exfalso; revert hk; decide))) rfl
theorem p4a {x : Mg} (h : mayM x = true) (hk : x.kd = 12) : mayM { x with bo := 1 } = false :=
  not_fits 6 (by decide) (pk h 6 (fun k => k = 12) hk (by rintro k (rfl | rfl | rfl | rfl | rfl | rfl | rfl | rfl | rfl | rfl | rfl | rfl) hk <;> first | rfl | (exfalso; revert hk; decide))) rfl
theorem p4b {x : Mg} (h : mayM x = true) (hk : ¬ x.kd = 12) : mayM { x with gd := true } = false :=
  not_fits 10 (by decide) (pk h 10 (fun k => ¬ k = 12) hk (by rintro k (rfl | rfl | rfl | rfl | rfl | rfl | rfl | rfl | rfl | rfl | rfl | rfl) hk <;> first | rfl | (exfalso; revert hk; decide))) rfl
theorem p5a {x : Mg} (h : mayM x = true) (hk : 4 < x.kd) : mayM { x with wh := 1 } = false :=
  not_fits 1 (by decide) (pk h 1 (fun k => 4 < k) hk (by rintro k (rfl | rfl | rfl | rfl | rfl | rfl | rfl | rfl | rfl | rfl | rfl | rfl) hk <;> first | rfl | (exfalso; revert hk; decide))) rfl
theorem p5b {x : Mg} (h : mayM x = true) (hk : ¬ 4 < x.kd) : mayM { x with ep := 1 } = false :=
  not_fits 5 (by decide) (pk h 5 (fun k => ¬ 4 < k) hk (by rintro k (rfl | rfl | rfl | rfl | rfl | rfl | rfl | rfl | rfl | rfl | rfl | rfl) hk <;> first | rfl | (exfalso; revert hk; decide))) rfl
/-- A message that may not be, in block q. -/
def Bad (w0 w : World) (q : Nat) : Prop := ∃ (y : Mg) (A : Option Addr) (cA : Nat) (T : Option Addr) (cT : Nat), mayM y = false ∧ Row w q [.int .i64 y.kd, .int .i64 y.fr, .int .i64 y.to, .int .u64 (y.sq : Int), .int .i64 y.wh, .int .u64 y.k.i, .int .i64 y.k.s, (.slice A y.ns.length cA), (.slice T y.tb.length cT), .int .u64 (y.ep : Int), .int .u64 (y.bo : Int), .int .i64 y.ak, .string y.ts, .int .u64 (y.tn : Int), .bool y.gd] ∧ MsgV w (mvv y (.slice A y.ns.length cA) (.slice T y.tb.length cT)) y ∧ Below w0.heap.size w0 w
set_option maxRecDepth 100000 in
set_option maxHeartbeats 4000000 in
theorem walk (m : Mg) (A : Option Addr) (cA : Nat) (T : Option Addr) (cT : Nat) (wh : Nat) (w : World) (hm : Lists w m A cA T cT) (hw : Wf m) (hwh : wh ≤ 255) (ht : Tab w) :
    Calls Tryd.prog 7 #[mvv m (.slice A m.ns.length cA) (.slice T m.tb.length cT), .int .u8 (wh : Int)] w fun e w' => e = .returned (.bool true) ∧ Below w.heap.size w w' := by
  obtain ⟨x, ex⟩ : ∃ x, x = fewM m := ⟨_, rfl⟩
  have hfv : fewV m A cA T cT = mvv x (.slice A x.ns.length cA) (.slice T x.tb.length cT) := by rw [ex]; rfl
  have HXV : Hid (∀ W : World, Below w.heap.size w W → MsgV W (mvv x (.slice A x.ns.length cA) (.slice T x.tb.length cT)) x) := Lib.hid (fun W hb => by rw [← hfv, ex]; exact hm.few hb)
  have HXW : Hid (Wf x) := Lib.hid (ex ▸ few_wf hw)
  have HFw := Lib.hid (fun (W : World) (hb : Below w.heap.size w W) => few_val m A cA T cT W (hm.on hb))
  have hmv : Mv (mvv x (.slice A x.ns.length cA) (.slice T x.tb.length cT)) := mv_mvv _ _ _ _ _ _ _
  rw [hfv] at HFw
  have HTb : Hid (∀ W : World, Below w.heap.size w W → Tab W) := Lib.hid (fun W hb => ht.on hb)
  have HB1 : Hid (Below w.heap.size w (w.alloc (.cells #[.int .i64 m.kd, .int .i64 m.fr, .int .i64 m.to, .int .u64 (m.sq : Int), .int .i64 m.wh, .int .u64 m.k.i, .int .i64 m.k.s, (.slice A m.ns.length cA), (.slice T m.tb.length cT), .int .u64 (m.ep : Int), .int .u64 (m.bo : Int), .int .i64 m.ak, .string m.ts, .int .u64 (m.tn : Int), .bool m.gd] 28))) := Lib.hid ((Below.refl _ _).alloc (Nat.le_refl _) _)
  have HV1 : Hid (Var (w.alloc (.cells #[.int .i64 m.kd, .int .i64 m.fr, .int .i64 m.to, .int .u64 (m.sq : Int), .int .i64 m.wh, .int .u64 m.k.i, .int .i64 m.k.s, (.slice A m.ns.length cA), (.slice T m.tb.length cT), .int .u64 (m.ep : Int), .int .u64 (m.bo : Int), .int .i64 m.ak, .string m.ts, .int .u64 (m.tn : Int), .bool m.gd] 28)) w.heap.size (mvv m (.slice A m.ns.length cA) (.slice T m.tb.length cT))) := Lib.hid (Var.new w m A T _ _ _ _)
  have HF1 := Lib.hid (HFw.out _ HB1.out)
  clear hfv ex hm hw ht HFw
  have HAw : Hid (∀ W : World, Below w.heap.size w W → Calls Tryd.prog 17 #[] W fun e w' => e = .returned (.bool true) ∧ Below W.heap.size W w') := Lib.hid (fun W hb => awake_any W (HTb.out W hb))
  unfold mvv at HF1 ⊢
  go_enter Tryd.func7, Tryd.ntmps7
  go_upto_region 1 with (fail)
  generalize w.alloc (.cells #[.int .i64 m.kd, .int .i64 m.fr, .int .i64 m.to, .int .u64 (m.sq : Int), .int .i64 m.wh, .int .u64 m.k.i, .int .i64 m.k.s, (.slice A m.ns.length cA), (.slice T m.tb.length cT), .int .u64 (m.ep : Int), .int .u64 (m.bo : Int), .int .i64 m.ak, .string m.ts, .int .u64 (m.tn : Int), .bool m.gd] 28) = w1 at *
  have hR1 := HV1.out.row
  have k0 := hR1.at_ 0 _ rfl
  have k1 := hR1.at_ 1 _ rfl
  have k2 := hR1.at_ 2 _ rfl
  have k3 := hR1.at_ 3 _ rfl
  have k4 := hR1.at_ 4 _ rfl
  have k5 := hR1.at_ 5 _ rfl
  have k6 := hR1.at_ 6 _ rfl
  have k7 := hR1.at_ 7 _ rfl
  have k8 := hR1.at_ 8 _ rfl
  have k9 := hR1.at_ 9 _ rfl
  have k10 := hR1.at_ 10 _ rfl
  have k11 := hR1.at_ 11 _ rfl
  have k12 := hR1.at_ 12 _ rfl
  have k13 := hR1.at_ 13 _ rfl
  have k14 := hR1.at_ 14 _ rfl
  go_upto_region 2 with (first
    | (go_at_call 9; refine HF1.out.mono ?_; rintro e w2 ⟨rfl, hb2⟩; have HV2 := Lib.hid (HV1.out.on hb2); have HB2 := Lib.hid (HB1.out.trans (hb2.mono HB1.out.size)); clear hb2)
    | (refine wpList_store_var rfl _ _ rfl w.heap.size _ (mvv x (.slice A x.ns.length cA) (.slice T x.tb.length cT)) rfl rfl HV2.out hmv ?_; intro w3 hV3 hJ3))
  have HV3 := Lib.hid hV3
  have HB3 : Hid (Below w.heap.size w w3) := Lib.hid (hJ3.below HB2.out (Nat.le_refl _))
  clear hV3 hJ3 HV2 HB2 hR1 k0 k1 k2 k3 k4 k5 k6 k7 k8 k9 k10 k11 k12 k13 k14 HV1 HB1 HF1
  have hR3 := HV3.out.row
  have k0 := hR3.at_ 0 _ rfl
  have k1 := hR3.at_ 1 _ rfl
  have k2 := hR3.at_ 2 _ rfl
  have k3 := hR3.at_ 3 _ rfl
  have k4 := hR3.at_ 4 _ rfl
  have k5 := hR3.at_ 5 _ rfl
  have k6 := hR3.at_ 6 _ rfl
  have k7 := hR3.at_ 7 _ rfl
  have k8 := hR3.at_ 8 _ rfl
  have k9 := hR3.at_ 9 _ rfl
  have k10 := hR3.at_ 10 _ rfl
  have k11 := hR3.at_ 11 _ rfl
  have k12 := hR3.at_ 12 _ rfl
  have k13 := hR3.at_ 13 _ rfl
  have k14 := hR3.at_ 14 _ rfl
  have HC3 := Lib.hid (check_msg x _ w3 (HXV.out w3 HB3.out))
  unfold mvv at HC3
  rcases hM : mayM x with _ | _
  · rw [hM] at HC3
    have ho : okE false = 1 := rfl
    rw [ho] at HC3
    clear hM ho HXV HXW hR3
    go_wp2_with (go_at_call 11; refine HC3.out.mono ?_; rintro e w4 ⟨rfl, hb4⟩; have HB4 := Lib.hid (HB3.out.trans (hb4.mono HB3.out.size)); clear hb4)
    refine (HAw.out _ HB4.out).mono ?_
    rintro e w5 ⟨rfl, hb5⟩
    go_wp2_with fail
    go_ret
    exact ⟨rfl, HB4.out.trans (hb5.mono HB4.out.size)⟩
  rw [hM] at HC3
  have ho : okE true = 0 := rfl
  rw [ho] at HC3
  have HM := Lib.hid hM
  clear hM ho hR3
  go_upto_block 0 with (go_at_call 11; refine HC3.out.mono ?_; rintro e w4 ⟨rfl, hb4⟩; have HB4 := Lib.hid (HB3.out.trans (hb4.mono HB3.out.size)); have HV4 := Lib.hid (HV3.out.on hb4); have HXX := Lib.hid (HXV.out w4 HB4.out); replace k0 := (hb4.cell (World.block_lt_of_cell? _ _ k0)).trans k0; replace k1 := (hb4.cell (World.block_lt_of_cell? _ _ k1)).trans k1; replace k2 := (hb4.cell (World.block_lt_of_cell? _ _ k2)).trans k2; replace k3 := (hb4.cell (World.block_lt_of_cell? _ _ k3)).trans k3; replace k4 := (hb4.cell (World.block_lt_of_cell? _ _ k4)).trans k4; replace k5 := (hb4.cell (World.block_lt_of_cell? _ _ k5)).trans k5; replace k6 := (hb4.cell (World.block_lt_of_cell? _ _ k6)).trans k6; replace k7 := (hb4.cell (World.block_lt_of_cell? _ _ k7)).trans k7; replace k8 := (hb4.cell (World.block_lt_of_cell? _ _ k8)).trans k8; replace k9 := (hb4.cell (World.block_lt_of_cell? _ _ k9)).trans k9; replace k10 := (hb4.cell (World.block_lt_of_cell? _ _ k10)).trans k10; replace k11 := (hb4.cell (World.block_lt_of_cell? _ _ k11)).trans k11; replace k12 := (hb4.cell (World.block_lt_of_cell? _ _ k12)).trans k12; replace k13 := (hb4.cell (World.block_lt_of_cell? _ _ k13)).trans k13; replace k14 := (hb4.cell (World.block_lt_of_cell? _ _ k14)).trans k14; clear hb4)
  have hal : Below w4.heap.size w4 (w4.alloc (.cells #[.int .i64 x.kd, .int .i64 x.fr, .int .i64 x.to, .int .u64 (x.sq : Int), .int .i64 x.wh, .int .u64 x.k.i, .int .i64 x.k.s, (.slice A x.ns.length cA), (.slice T x.tb.length cT), .int .u64 (x.ep : Int), .int .u64 (x.bo : Int), .int .i64 x.ak, .string x.ts, .int .u64 (x.tn : Int), .bool x.gd] 28)) := (Below.refl _ _).alloc (Nat.le_refl _) _
  have HB5 : Hid (Below w.heap.size w (w4.alloc (.cells #[.int .i64 x.kd, .int .i64 x.fr, .int .i64 x.to, .int .u64 (x.sq : Int), .int .i64 x.wh, .int .u64 x.k.i, .int .i64 x.k.s, (.slice A x.ns.length cA), (.slice T x.tb.length cT), .int .u64 (x.ep : Int), .int .u64 (x.bo : Int), .int .i64 x.ak, .string x.ts, .int .u64 (x.tn : Int), .bool x.gd] 28))) := Lib.hid (HB4.out.trans (hal.mono HB4.out.size))
  have HQ5 : Hid (Row (w4.alloc (.cells #[.int .i64 x.kd, .int .i64 x.fr, .int .i64 x.to, .int .u64 (x.sq : Int), .int .i64 x.wh, .int .u64 x.k.i, .int .i64 x.k.s, (.slice A x.ns.length cA), (.slice T x.tb.length cT), .int .u64 (x.ep : Int), .int .u64 (x.bo : Int), .int .i64 x.ak, .string x.ts, .int .u64 (x.tn : Int), .bool x.gd] 28)) w4.heap.size [.int .i64 x.kd, .int .i64 x.fr, .int .i64 x.to, .int .u64 (x.sq : Int), .int .i64 x.wh, .int .u64 x.k.i, .int .i64 x.k.s, (.slice A x.ns.length cA), (.slice T x.tb.length cT), .int .u64 (x.ep : Int), .int .u64 (x.bo : Int), .int .i64 x.ak, .string x.ts, .int .u64 (x.tn : Int), .bool x.gd]) := Lib.hid (Row.new w4 _ _)
  have HX5 := Lib.hid (HXX.out.on hal)
  replace k0 := (hal.cell (World.block_lt_of_cell? _ _ k0)).trans k0
  have hwq : w.heap.size ≤ w4.heap.size := HB4.out.size
  have hzq : w4.heap.size < (w4.alloc (.cells #[.int .i64 x.kd, .int .i64 x.fr, .int .i64 x.to, .int .u64 (x.sq : Int), .int .i64 x.wh, .int .u64 x.k.i, .int .i64 x.k.s, (.slice A x.ns.length cA), (.slice T x.tb.length cT), .int .u64 (x.ep : Int), .int .u64 (x.bo : Int), .int .i64 x.ak, .string x.ts, .int .u64 (x.tn : Int), .bool x.gd] 28)).heap.size := by simp
  have hbq : w.heap.size < w4.heap.size := HV4.out.lt
  generalize w4.alloc (.cells #[.int .i64 x.kd, .int .i64 x.fr, .int .i64 x.to, .int .u64 (x.sq : Int), .int .i64 x.wh, .int .u64 x.k.i, .int .i64 x.k.s, (.slice A x.ns.length cA), (.slice T x.tb.length cT), .int .u64 (x.ep : Int), .int .u64 (x.bo : Int), .int .i64 x.ak, .string x.ts, .int .u64 (x.tn : Int), .bool x.gd] 28) = w5 at *
  generalize w4.heap.size = q at *
  clear hal HXX HV4 HB4 HV3 HB3 HC3 k1 k2 k3 k4 k5 k6 k7 k8 k9 k10 k11 k12 k13 k14
  have hno : ∀ j u, Below w.heap.size w (w5.setCell ⟨q, j, none⟩ u) := fun j u => HB5.out.setCell (p := ⟨q, j, none⟩) hwq u
  have HNo := Lib.hid hno
  clear hno HXW hmv HX5
  go_cut [] from 15 to 61 (fun wx => Hid (Bad w wx q))
  case first =>
    have hq0 := HQ5.out.at_ 0 _ rfl
    have hq1 := HQ5.out.at_ 1 _ rfl
    have hq2 := HQ5.out.at_ 2 _ rfl
    have hq3 := HQ5.out.at_ 3 _ rfl
    have hq4 := HQ5.out.at_ 4 _ rfl
    have hq8 := HQ5.out.at_ 8 _ rfl
    have hq9 := HQ5.out.at_ 9 _ rfl
    have hq10 := HQ5.out.at_ 10 _ rfl
    have hq14 := HQ5.out.at_ 14 _ rfl
    have hqf := HQ5.out.2
    have hkd := may_kind HM.out
    have hkb : 1 ≤ x.kd ∧ x.kd ≤ 12 := by omega
    have hnd := nodes HM.out
    have hwk : IntKind.i64.wrap (x.kd + 20) = x.kd + 20 := IntWalk.i64_in _ ⟨by omega, by omega⟩
    have hwf : IntKind.i64.wrap (x.fr + 64) = x.fr + 64 := IntWalk.i64_in _ ⟨by omega, by omega⟩
    clear hkd
    have hr6 : wh % 6 = 0 ∨ wh % 6 = 1 ∨ wh % 6 = 2 ∨ wh % 6 = 3 ∨ wh % 6 = 4 ∨ wh % 6 = 5 := by omega
    rcases hr6 with hr | hr | hr | hr | hr | hr
    · skip
      have m1 : ((wh : Int) % 6) = 0 := by omega
      have m2 : (wh : Int).tmod 6 = 0 := by rw [Int.tmod_eq_emod_of_nonneg (by omega)]; exact m1
      have HBad : Hid (Bad w (w5.setCell ⟨q, 2, none⟩ (.int .i64 x.fr)) q) := Lib.hid ⟨{ x with «to» := x.fr }, A, cA, T, cT, p0 x, HQ5.out.set 2 (show 2 < 15 by decide) _, MsgV.like (HXV.out _ (HNo.out _ _)) _ rfl rfl rfl, HNo.out _ _⟩
      clear HM
      go_wp2_with fail
      go_meet
      exact HBad
    · skip
      have m1 : ((wh : Int) % 6) = 1 := by omega
      have m2 : (wh : Int).tmod 6 = 1 := by rw [Int.tmod_eq_emod_of_nonneg (by omega)]; exact m1
      have HBad : Hid (Bad w (w5.setCell ⟨q, 0, none⟩ (.int .i64 (x.kd + 20))) q) := Lib.hid ⟨{ x with kd := x.kd + 20 }, A, cA, T, cT, p1 HM.out, HQ5.out.set 0 (show 0 < 15 by decide) _, MsgV.like (HXV.out _ (HNo.out _ _)) _ rfl rfl rfl, HNo.out _ _⟩
      clear HM
      go_wp2_with fail
      go_meet
      exact HBad
    · skip
      have m1 : ((wh : Int) % 6) = 2 := by omega
      have m2 : (wh : Int).tmod 6 = 2 := by rw [Int.tmod_eq_emod_of_nonneg (by omega)]; exact m1
      have HBad : Hid (Bad w (w5.setCell ⟨q, 1, none⟩ (.int .i64 (x.fr + 64))) q) := Lib.hid ⟨{ x with fr := x.fr + 64 }, A, cA, T, cT, p2 HM.out, HQ5.out.set 1 (show 1 < 15 by decide) _, MsgV.like (HXV.out _ (HNo.out _ _)) _ rfl rfl rfl, HNo.out _ _⟩
      clear HM
      go_wp2_with fail
      go_meet
      exact HBad
    · skip
      have m1 : ((wh : Int) % 6) = 3 := by omega
      have m2 : (wh : Int).tmod 6 = 3 := by rw [Int.tmod_eq_emod_of_nonneg (by omega)]; exact m1
      by_cases h5 : x.kd < 5
      · have d1 : decide (x.kd < 5) = true := by simpa using h5
        have hsz : (w5.setCell ⟨q, 8, none⟩ (.slice (some ⟨w5.heap.size, 0, none⟩) 1 1)).heap.size = w5.heap.size := by simp
        have hlo : Lst ((w5.setCell ⟨q, 8, none⟩ (.slice (some ⟨w5.heap.size, 0, none⟩) 1 1)).alloc (.cells #[.int .u64 0, .int .i64 0] 24)) (some ⟨w5.heap.size, 0, none⟩) [z0] := by have h1 := Lst.one (w5.setCell ⟨q, 8, none⟩ (.slice (some ⟨w5.heap.size, 0, none⟩) 1 1)) z0 24; rw [hsz] at h1; exact h1
        have hb9 : Below w.heap.size w ((w5.setCell ⟨q, 8, none⟩ (.slice (some ⟨w5.heap.size, 0, none⟩) 1 1)).alloc (.cells #[.int .u64 0, .int .i64 0] 24)) := (HNo.out _ _).alloc (by rw [hsz]; exact HB5.out.size) _
        have HBad : Hid (Bad w ((w5.setCell ⟨q, 8, none⟩ (.slice (some ⟨w5.heap.size, 0, none⟩) 1 1)).alloc (.cells #[.int .u64 0, .int .i64 0] 24)) q) := Lib.hid ⟨{ x with tb := [z0] }, A, cA, some ⟨w5.heap.size, 0, none⟩, 1, p3a HM.out (.inl h5), (HQ5.out.set 8 (show 8 < 15 by decide) _).on ((Below.refl _ _).alloc (Nat.le_refl _) _) (show 0 < 15 by decide), three_v (HXV.out _ hb9) hlo, hb9⟩
        clear HM hsz hlo hb9
        go_wp2_with fail
        go_meet
        exact HBad
      have d1 : decide (x.kd < 5) = false := by simpa using h5
      by_cases h6 : 6 < x.kd
      · have d2 : decide (6 < x.kd) = true := by simpa using h6
        have hsz : (w5.setCell ⟨q, 8, none⟩ (.slice (some ⟨w5.heap.size, 0, none⟩) 1 1)).heap.size = w5.heap.size := by simp
        have hlo : Lst ((w5.setCell ⟨q, 8, none⟩ (.slice (some ⟨w5.heap.size, 0, none⟩) 1 1)).alloc (.cells #[.int .u64 0, .int .i64 0] 24)) (some ⟨w5.heap.size, 0, none⟩) [z0] := by have h1 := Lst.one (w5.setCell ⟨q, 8, none⟩ (.slice (some ⟨w5.heap.size, 0, none⟩) 1 1)) z0 24; rw [hsz] at h1; exact h1
        have hb9 : Below w.heap.size w ((w5.setCell ⟨q, 8, none⟩ (.slice (some ⟨w5.heap.size, 0, none⟩) 1 1)).alloc (.cells #[.int .u64 0, .int .i64 0] 24)) := (HNo.out _ _).alloc (by rw [hsz]; exact HB5.out.size) _
        have HBad : Hid (Bad w ((w5.setCell ⟨q, 8, none⟩ (.slice (some ⟨w5.heap.size, 0, none⟩) 1 1)).alloc (.cells #[.int .u64 0, .int .i64 0] 24)) q) := Lib.hid ⟨{ x with tb := [z0] }, A, cA, some ⟨w5.heap.size, 0, none⟩, 1, p3a HM.out (.inr h6), (HQ5.out.set 8 (show 8 < 15 by decide) _).on ((Below.refl _ _).alloc (Nat.le_refl _) _) (show 0 < 15 by decide), three_v (HXV.out _ hb9) hlo, hb9⟩
        clear HM hsz hlo hb9
        go_wp2_with fail
        go_meet
        exact HBad
      have d2 : decide (6 < x.kd) = false := by simpa using h6
      have HBad : Hid (Bad w (w5.setCell ⟨q, 3, none⟩ (.int .u64 1)) q) := Lib.hid ⟨{ x with sq := 1 }, A, cA, T, cT, p3b HM.out (fun h => h.elim h5 h6), HQ5.out.set 3 (show 3 < 15 by decide) _, MsgV.like (HXV.out _ (HNo.out _ _)) _ rfl rfl rfl, HNo.out _ _⟩
      clear HM
      go_wp2_with fail
      go_meet
      exact HBad
    · skip
      have m1 : ((wh : Int) % 6) = 4 := by omega
      have m2 : (wh : Int).tmod 6 = 4 := by rw [Int.tmod_eq_emod_of_nonneg (by omega)]; exact m1
      by_cases h5 : x.kd = 12
      · have d1 : (x.kd == 12) = true := by simpa using h5
        have HBad : Hid (Bad w (w5.setCell ⟨q, 10, none⟩ (.int .u64 1)) q) := Lib.hid ⟨{ x with bo := 1 }, A, cA, T, cT, p4a HM.out h5, HQ5.out.set 10 (show 10 < 15 by decide) _, MsgV.like (HXV.out _ (HNo.out _ _)) _ rfl rfl rfl, HNo.out _ _⟩
        clear HM h5
        go_wp2_with fail
        go_meet
        exact HBad
      have d1 : (x.kd == 12) = false := by simpa using h5
      have HBad : Hid (Bad w (w5.setCell ⟨q, 14, none⟩ (.bool true)) q) := Lib.hid ⟨{ x with gd := true }, A, cA, T, cT, p4b HM.out h5, HQ5.out.set 14 (show 14 < 15 by decide) _, MsgV.like (HXV.out _ (HNo.out _ _)) _ rfl rfl rfl, HNo.out _ _⟩
      clear HM
      go_wp2_with fail
      go_meet
      exact HBad
    · skip
      have m1 : ((wh : Int) % 6) = 5 := by omega
      have m2 : (wh : Int).tmod 6 = 5 := by rw [Int.tmod_eq_emod_of_nonneg (by omega)]; exact m1
      by_cases h5 : 4 < x.kd
      · have d1 : decide (4 < x.kd) = true := by simpa using h5
        have HBad : Hid (Bad w (w5.setCell ⟨q, 4, none⟩ (.int .i64 1)) q) := Lib.hid ⟨{ x with wh := 1 }, A, cA, T, cT, p5a HM.out h5, HQ5.out.set 4 (show 4 < 15 by decide) _, MsgV.like (HXV.out _ (HNo.out _ _)) _ rfl rfl rfl, HNo.out _ _⟩
        clear HM
        go_wp2_with fail
        go_meet
        exact HBad
      have d1 : decide (4 < x.kd) = false := by simpa using h5
      have HBad : Hid (Bad w (w5.setCell ⟨q, 9, none⟩ (.int .u64 1)) q) := Lib.hid ⟨{ x with ep := 1 }, A, cA, T, cT, p5b HM.out h5, HQ5.out.set 9 (show 9 < 15 by decide) _, MsgV.like (HXV.out _ (HNo.out _ _)) _ rfl rfl rfl, HNo.out _ _⟩
      clear HM
      go_wp2_with fail
      go_meet
      exact HBad
  case rest =>
    obtain ⟨y, A1, cA1, T1, cT1, hy, hQ6, hV6, hB6⟩ := hcut.out
    have HB6 := Lib.hid hB6
    have HW6 := Lib.hid (write_no y _ _ hV6 hy)
    have HV6 := Lib.hid hV6
    have hyo : okE (mayM y) = 1 := by rw [hy]; rfl
    have HR6 := Lib.hid hQ6
    have hy0 := Lib.hid hyo
    have y0 := HR6.out.at_ 0 _ rfl
    have y1 := HR6.out.at_ 1 _ rfl
    have y2 := HR6.out.at_ 2 _ rfl
    have y3 := HR6.out.at_ 3 _ rfl
    have y4 := HR6.out.at_ 4 _ rfl
    have y5 := HR6.out.at_ 5 _ rfl
    have y6 := HR6.out.at_ 6 _ rfl
    have y7 := HR6.out.at_ 7 _ rfl
    have y8 := HR6.out.at_ 8 _ rfl
    have y9 := HR6.out.at_ 9 _ rfl
    have y10 := HR6.out.at_ 10 _ rfl
    have y11 := HR6.out.at_ 11 _ rfl
    have y12 := HR6.out.at_ 12 _ rfl
    have y13 := HR6.out.at_ 13 _ rfl
    have y14 := HR6.out.at_ 14 _ rfl
    clear hcut hy hQ6 hV6 hB6 hyo HNo HQ5 HB5 HXV HM
    unfold mvv at HW6
    go_upto_region 25 with (go_at_call 10; refine HW6.out.mono ?_; rintro e w7 ⟨rfl, hb7⟩; have HB7 := Lib.hid (HB6.out.trans (hb7.mono HB6.out.size)); have HV7 := Lib.hid (HV6.out.on hb7); replace y0 := (hb7.cell (World.block_lt_of_cell? _ _ y0)).trans y0; replace y1 := (hb7.cell (World.block_lt_of_cell? _ _ y1)).trans y1; replace y2 := (hb7.cell (World.block_lt_of_cell? _ _ y2)).trans y2; replace y3 := (hb7.cell (World.block_lt_of_cell? _ _ y3)).trans y3; replace y4 := (hb7.cell (World.block_lt_of_cell? _ _ y4)).trans y4; replace y5 := (hb7.cell (World.block_lt_of_cell? _ _ y5)).trans y5; replace y6 := (hb7.cell (World.block_lt_of_cell? _ _ y6)).trans y6; replace y7 := (hb7.cell (World.block_lt_of_cell? _ _ y7)).trans y7; replace y8 := (hb7.cell (World.block_lt_of_cell? _ _ y8)).trans y8; replace y9 := (hb7.cell (World.block_lt_of_cell? _ _ y9)).trans y9; replace y10 := (hb7.cell (World.block_lt_of_cell? _ _ y10)).trans y10; replace y11 := (hb7.cell (World.block_lt_of_cell? _ _ y11)).trans y11; replace y12 := (hb7.cell (World.block_lt_of_cell? _ _ y12)).trans y12; replace y13 := (hb7.cell (World.block_lt_of_cell? _ _ y13)).trans y13; replace y14 := (hb7.cell (World.block_lt_of_cell? _ _ y14)).trans y14; clear hb7)
    have HC7 := Lib.hid (check_msg y _ _ HV7.out)
    rw [hy0.out] at HC7
    have HA7 := Lib.hid (fun (W : World) (hb : Below w7.heap.size w7 W) => HAw.out W (HB7.out.trans (hb.mono HB7.out.size)))
    unfold mvv at HC7
    clear HAw
    go_wp2_with (first
      | (go_at_call 11; refine HC7.out.mono ?_; rintro e w8 ⟨rfl, hb8⟩; have HB8 := Lib.hid hb8; clear hb8)
      | (go_at_call 17; refine (HA7.out _ HB8.out).mono ?_; rintro e w9 ⟨rfl, hb9⟩; have HB9 := Lib.hid (HB8.out.trans (hb9.mono HB8.out.size)); clear hb9))
    go_ret
    exact ⟨rfl, HB7.out.trans (HB9.out.mono HB7.out.size)⟩

theorem parOk : ∀ t ∈ (#[28, 5] : Array TypeId).toList, Tryd.prog.readableRec t = true ∧ t < Tryd.prog.types.size := by
  have hall : ([28, 5].all fun t => Tryd.prog.readableRec t && decide (t < Tryd.prog.types.size)) = true := by kernel_rfl
  intro t ht
  simpa using List.all_eq_true.1 hall t ht

set_option maxRecDepth 100000 in
/-- What the walk gives, for every argument and every world that holds the table. -/
theorem contract (H : Type) (enc : TypeId × Value → H) (W : World) (base : Nat) (args : Array Value) (ds gs : List (DataW H)) (before : List MemPlace)
    (hval : ∀ (j : Nat) t v, Tryd.f7.params[j]? = some t → args[j]? = some v → Value.okWide Tryd.prog W .any base t v)
    (hW : DataW.Whole enc Tryd.prog Tryd.f7.params.toList Rows.msgPartsSpec.vars false W args.toList ds gs before) (hL : laidMetH Tryd.prog Rows.msgPartsRow.laid W) :
    Calls Tryd.prog 7 args W fun e W' => ∃ v, e = .returned v ∧ Rows.msgPartsSpec.post enc Tryd.prog Tryd.f7 false true false false W args v W' := by
  have hW' := hW
  obtain ⟨p, q, hA0, hV, rfl, hfz, hnd⟩ := hW
  have hA : DataW.TrodAll enc Tryd.prog W 0 (fun _ => true) true Tryd.f7.params.toList args.toList ds p := hA0
  rw [Tryd.params7] at hA hval
  obtain ⟨v0, vs0, d0, ds0, p0, q0, hargs, rfl, rfl, h0, r0⟩ := trodAll_cons hA
  obtain ⟨v1, vs1, d1, ds1, p1, q1, rfl, rfl, rfl, h1, r1⟩ := trodAll_cons r0
  obtain ⟨rfl, rfl, rfl⟩ := trodAll_nil r1
  obtain rfl : args = #[v0, v1] := by cases args; simp_all
  obtain ⟨rfl, rfl⟩ := trodVars_none hV
  obtain ⟨m, ⟨A, cA, T, cT, rfl, hLm⟩, hw⟩ := open_msg (hval 0 28 v0 rfl rfl) h0
  obtain ⟨wh, rfl, hwh⟩ := open_u8 (hval 1 5 v1 rfl rfl) h1
  clear hA0
  refine (walk m A cA T cT wh W hLm hw hwh (tab_of_laid hL)).mono fun e W' ⟨he, hb⟩ => ?_
  subst he
  exact ⟨_, rfl, law_post rfl (by rw [Tryd.params7]; exact parOk) rfl hW' rfl rfl rfl hb⟩

set_option maxRecDepth 100000 in
theorem laid_met (os : Os) : laidMet Tryd.prog Rows.msgPartsRow.laid ((laidWorld os).forCall (fun _ _ => 0) ⟨#[], #[.agg #[.int .i64 0, .int .i64 0, .int .i64 0, .int .u64 0, .int .i64 0, .int .u64 0, .int .i64 0, .slice none 0 0, .slice none 0 0, .int .u64 0, .int .u64 0, .int .i64 0, .string ⟨#[]⟩, .int .u64 0, .bool false], .int .u8 0], []⟩).memory :=
  laidMet_of_run' 8 (by kernel_rfl) (by kernel_rfl)
set_option maxRecDepth 100000 in
theorem reads (os : Os) {H : Type} (enc : TypeId × Value → H) : ∃ places, DataW.whole enc Tryd.prog ((laidWorld os).forCall (fun _ _ => 0) ⟨#[], #[.agg #[.int .i64 0, .int .i64 0, .int .i64 0, .int .u64 0, .int .i64 0, .int .u64 0, .int .i64 0, .slice none 0 0, .slice none 0 0, .int .u64 0, .int .u64 0, .int .i64 0, .string ⟨#[]⟩, .int .u64 0, .bool false], .int .u8 0], []⟩).memory Tryd.f7.params.toList Rows.msgPartsSpec.vars false (#[.agg #[.int .i64 0, .int .i64 0, .int .i64 0, .int .u64 0, .int .i64 0, .int .u64 0, .int .i64 0, .slice none 0 0, .slice none 0 0, .int .u64 0, .int .u64 0, .int .i64 0, .string ⟨#[]⟩, .int .u64 0, .bool false], .int .u8 0] : Array Value).toList 8 = some ([.agg [.lit (.int .i64 0), .lit (.int .i64 0), .lit (.int .i64 0), .lit (.int .u64 0), .lit (.int .i64 0), .agg [.lit (.int .u64 0), .lit (.int .i64 0)], .nil, .nil, .lit (.int .u64 0), .lit (.int .u64 0), .lit (.int .i64 0), .lit (.string []), .lit (.int .u64 0), .lit (.bool false)], .lit (.int .u8 0)], [], places) :=
  ⟨[], by kernel_rfl⟩

set_option maxRecDepth 100000 in
theorem lifted (os : Os) (started : os.Started) (H : Type) (enc : TypeId × Value → H) (F : Stop.Interp) :
    ReturnsInHanded {} Tryd.checked os 7 .any ((OpenSpec.ofChange Rows.msgPartsSpec).preRow enc Tryd.prog Tryd.f7 Rows.msgPartsRow.domain false Rows.msgPartsRow.laid) (((OpenSpec.ofChange Rows.msgPartsSpec).at F).post enc Tryd.prog Tryd.f7 false true false false) := by
  obtain ⟨places, hx⟩ := reads os enc
  refine returnsInHanded_of_row (C := Tryd.checked) (s := OpenSpec.ofChange Rows.msgPartsSpec) own started (by kernel_rfl) Tryd.func7
    (witness_row_at (enc := enc) (C := Tryd.checked) false (laidWorld os) #[.agg #[.int .i64 0, .int .i64 0, .int .i64 0, .int .u64 0, .int .i64 0, .int .u64 0, .int .i64 0, .slice none 0 0, .slice none 0 0, .int .u64 0, .int .u64 0, .int .i64 0, .string ⟨#[]⟩, .int .u64 0, .bool false], .int .u8 0] rfl (by kernel_rfl) (by kernel_rfl) (by kernel_rfl)
      (OpenSpec.preRow_of_cond 8 hx (by kernel_rfl) (fun k hk => by cases hk) (by kernel_rfl) (laid_met os))) ?_
  intro W base args ds gs before hval hW _ _ _ hL _ _
  exact contract H enc W base args ds gs before hval hW hL

theorem said : Rows.MsgPartsSaid :=
  OpenClaim.holds_of_cond 7 Tryd.f7 rfl rfl rfl rfl rfl rfl rfl ⟨rfl, rfl, rfl, rfl, rfl⟩ rfl rfl rfl rfl rfl (by kernel_rfl) Tryd.func7 (by kernel_rfl)
    (of_decide_eq_true (by kernel_rfl)) (by unfold Func.isWrapper; first | (rw [if_pos (by decide +kernel)]; kernel_rfl) | (rw [if_neg (by decide +kernel)]; exact ⟨rfl, rfl⟩))
    (fun os started H enc _ F => by rw [OpenClaim.pre_eq_preRow]; exact lifted os started H enc F)

/-- No parameter wants a stand-in; the program's own looks are off. -/
theorem plain (f : FuncId) (fn : Func) (hf : Tryd.pinned.checked.prog.funcNamed "tattle/tattlelaw10.MsgParts" = some f) (hfn : Tryd.pinned.checked.prog.funcs[f]? = some fn) :
    false = Tryd.pinned.checked.prog.looks [] ∧ ∀ (j : Nat) t, fn.params[j]? = some t → Tryd.pinned.checked.prog.wantsStandIn t = false := by
  obtain rfl : f = 7 := Option.some.inj ((show Tryd.prog.funcNamed "tattle/tattlelaw10.MsgParts" = some 7 by kernel_rfl).symm.trans hf) |>.symm
  obtain rfl : fn = Tryd.f7 := (Option.some.inj (Tryd.func7.symm.trans hfn)).symm
  refine ⟨by kernel_rfl, fun j t ht => ?_⟩
  rw [Tryd.params7] at ht
  have hm : t ∈ [28, 5] := by simpa using Array.mem_of_getElem? ht
  have hall : ([28, 5].all fun u => !Tryd.prog.wantsStandIn u) = true := by kernel_rfl
  exact (show Tryd.prog.wantsStandIn t = false by simpa using List.all_eq_true.1 hall t hm)

/-- THE CARD. -/
theorem card : Rows.MsgPartsCardSaid :=
  Claim7.holds_tied_plain_at .later [] _ _ _ _ said (fun _ h => by cases h) (by kernel_rfl) (fun _ h => by cases h) msgParts_row_tie rfl ⟨rfl, rfl⟩ (by kernel_rfl) rfl plain (by kernel_rfl)
end Go.Proofs.YtjeepmdklbfgeaaDoor.lawParts
