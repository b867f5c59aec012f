/-
  MsgWrites: which messages, and names, may be, and any message's text, or why it has none; it is read as it was: the law returns true for every input.
-/
import Derived.Test.YtjeepmdklbfgeaaDoorRowLd
import Derived.Test.YtjeepmdklbfgeaaDoorFew
import Derived.Test.YtjeepmdklbfgeaaDoorMLaw
import Derived.Test.YtjeepmdklbfgeaaDoorRsameM
import Derived.Test.YtjeepmdklbfgeaaDoorSameM
import Derived.Test.YtjeepmdklbfgeaaDoorRmayM
import Derived.Test.YtjeepmdklbfgeaaDoorRwriteM
import Derived.Test.YtjeepmdklbfgeaaDoorReadsP
import Derived.Test.YtjeepmdklbfgeaaDoorNameL
import Derived.Deep.CutBlock
import Derived.Test.YtjeepmdklbfgeaaDoorCards
import Derived.Test.YtjeepmdklbfgeaaDoorTie
namespace Go.Proofs.YtjeepmdklbfgeaaDoor.lawWrites
open Go.ChangeMaps (open_string)
open Go.Sort Go.ChangeShapes Go.WideShapes Go.ChangeAt Go.RowKit Go.Proofs.YtjeepmdklbfgeaaDoor.Pure Go.Proofs.YtjeepmdklbfgeaaDoor.W Go.Proofs.YtjeepmdklbfgeaaDoor.W.Pure

/-- What Write gives. -/
def wrS (x : Mg) : ByteArray := if mayM x then sealB (tx (enc x)) else ⟨#[]⟩
theorem write_val (x : Mg) (u : Value) (W : World) (h : MsgV W u x) (hw : Wf x) (ht : Tab W) : Calls Tryd.prog 10 #[u] W fun e w' => e = .returned (.tuple #[.string (wrS x), .int .i64 (okE (mayM x))]) ∧ Below W.heap.size W w' := by
  unfold wrS
  rcases hm : mayM x with _ | _
  · exact write_no x u W h hm
  · exact write_yes x u W h hw hm ht
theorem wr_eq {x y : Mg} (hx : mayM x = true) (hy : mayM y = true) (wx : Wf x) (wy : Wf y) (h : wrS x = wrS y) : x = y := by
  unfold wrS at h
  rw [if_pos hx, if_pos hy] at h
  exact enc_inj hx hy wx wy (enc_le hx) (enc_le hy) h
set_option maxRecDepth 100000 in
set_option maxHeartbeats 4000000 in
theorem walk (a b : Mg) (A : Option Addr) (cA : Nat) (T : Option Addr) (cT : Nat) (A' : Option Addr) (cA' : Nat) (T' : Option Addr) (cT' : Nat) (nm : ByteArray) (w : World) (ha : Lists w a A cA T cT) (wa : Wf a) (hb : Lists w b A' cA' T' cT') (wb : Wf b) (hnm : nm.size ≤ maxLen) (ht : Tab w) :
    Calls Tryd.prog 3 #[mvv a (.slice A a.ns.length cA) (.slice T a.tb.length cT), mvv b (.slice A' b.ns.length cA') (.slice T' b.tb.length cT'), .string nm] w fun e w' => e = .returned (.bool true) ∧ Below w.heap.size w w' := by
  obtain ⟨x, ex⟩ : ∃ x, x = fewM a := ⟨_, rfl⟩
  have hfx : fewV a A cA T cT = mvv x (.slice A x.ns.length cA) (.slice T x.tb.length cT) := by rw [ex]; rfl
  have HXx : Hid (∀ W : World, Below w.heap.size w W → MsgV W (mvv x (.slice A x.ns.length cA) (.slice T x.tb.length cT)) x) := Lib.hid (fun W hj => by rw [← hfx, ex]; exact ha.few hj)
  have hwx : Wf x := ex ▸ few_wf wa
  have HFx := Lib.hid (fun (W : World) (hj : Below w.heap.size w W) => few_val a A cA T cT W (ha.on hj))
  rw [hfx] at HFx
  have hmvx : Mv (mvv x (.slice A x.ns.length cA) (.slice T x.tb.length cT)) := mv_mvv _ _ _ _ _ _ _
  clear hfx ex ha wa
  obtain ⟨y, ey⟩ : ∃ x, x = fewM b := ⟨_, rfl⟩
  have hfy : fewV b A' cA' T' cT' = mvv y (.slice A' y.ns.length cA') (.slice T' y.tb.length cT') := by rw [ey]; rfl
  have HXy : Hid (∀ W : World, Below w.heap.size w W → MsgV W (mvv y (.slice A' y.ns.length cA') (.slice T' y.tb.length cT')) y) := Lib.hid (fun W hj => by rw [← hfy, ey]; exact hb.few hj)
  have hwy : Wf y := ey ▸ few_wf wb
  have HFy := Lib.hid (fun (W : World) (hj : Below w.heap.size w W) => few_val b A' cA' T' cT' W (hb.on hj))
  rw [hfy] at HFy
  have hmvy : Mv (mvv y (.slice A' y.ns.length cA') (.slice T' y.tb.length cT')) := mv_mvv _ _ _ _ _ _ _
  clear hfy ey hb wb
  have HTb : Hid (∀ W : World, Below w.heap.size w W → Tab W) := Lib.hid (fun W hb => ht.on hb)
  have HAw : Hid (∀ W : World, Below w.heap.size w W → Calls Tryd.prog 17 #[] W fun e w' => e = .returned (.bool true) ∧ Below W.heap.size W w') := Lib.hid (fun W hb => awake_any W (HTb.out W hb))
  obtain ⟨s, hs⟩ : ∃ s, wrS x = s := ⟨_, rfl⟩
  have HTB := HTb
  have HWx := Lib.hid (fun (W : World) (hb : Below w.heap.size w W) => write_val x _ W (HXx.out W hb) hwx (HTb.out W hb))
  rw [hs] at HWx
  have HCk := Lib.hid (fun (W : World) (hb : Below w.heap.size w W) => check_msg x _ W (HXx.out W hb))
  have HMy := Lib.hid (fun (W : World) (hb : Below w.heap.size w W) => rmay_msg x _ W (HXx.out W hb))
  have HSm := Lib.hid (fun (W : World) (hb : Below w.heap.size w W) => same_msg x y _ _ W (HXx.out W hb) (HXy.out W hb))
  have HRs := Lib.hid (fun (W : World) (hb : Below w.heap.size w W) => rsame_msg x y _ _ W (HXx.out W hb) (HXy.out W hb))
  have HNm := Lib.hid (fun (W : World) => name_long nm W (by unfold maxLen at hnm; omega))
  have HRn := Lib.hid (fun (W : World) => rname_long nm W (by unfold maxLen at hnm; omega))
  have HRd : Hid (mayM x = true → ∀ W : World, Below w.heap.size w W → Calls Tryd.prog 18 #[.string s] W (ReadV W (x, 0))) := Lib.hid (fun hm W hb => by
    have h1 := readM_seal hm hwx (enc_le hm)
    have h2 : s = sealB ⟨(enc x).toArray⟩ := by rw [← hs]; unfold wrS; rw [if_pos hm]; rfl
    rw [← h2] at h1
    have h3 := read_any s W (by rw [h2, seal_size]; have := enc_le hm; show (enc x).toArray.size + 4 ≤ _; simp; omega) (HTB.out W hb)
    rw [h1] at h3
    exact h3)
  have HRw : Hid (mayM x = true → ∀ W : World, Below w.heap.size w W → Calls Tryd.prog 19 #[mvv x (.slice A x.ns.length cA) (.slice T x.tb.length cT)] W fun e w' => e = .returned (.string s) ∧ Below W.heap.size W w') := Lib.hid (fun hm W hb => by
    have h := rwrite_any x _ W (HXx.out W hb) hwx hm
    have h2 : sealB (tx (enc x)) = s := by rw [← hs]; unfold wrS; rw [if_pos hm]
    rw [h2] at h
    exact h)
  have HSx : Hid (∀ (W W' : World) (v : Value), Below w.heap.size w W → MsgV W v x → Calls Tryd.prog 14 #[v, mvv x (.slice A x.ns.length cA) (.slice T x.tb.length cT)] W fun e w' => e = .returned (.bool true) ∧ Below W.heap.size W w') := Lib.hid (fun W _ v hb hv => by
    have h := rsame_msg x x v _ W hv (HXx.out W hb)
    rw [show decide (x = x) = true from decide_eq_true rfl] at h
    exact h)
  have HS0 : Hid (mayM x = false → s = ⟨#[]⟩) := Lib.hid (fun h => by rw [← hs]; unfold wrS; rw [h]; rfl)
  have HB1 : Hid (Below w.heap.size w ((w.alloc (.cells #[.int .i64 a.kd, .int .i64 a.fr, .int .i64 a.to, .int .u64 (a.sq : Int), .int .i64 a.wh, .int .u64 a.k.i, .int .i64 a.k.s, (.slice A a.ns.length cA), (.slice T a.tb.length cT), .int .u64 (a.ep : Int), .int .u64 (a.bo : Int), .int .i64 a.ak, .string a.ts, .int .u64 (a.tn : Int), .bool a.gd] 28)).alloc (.cells #[.int .i64 b.kd, .int .i64 b.fr, .int .i64 b.to, .int .u64 (b.sq : Int), .int .i64 b.wh, .int .u64 b.k.i, .int .i64 b.k.s, (.slice A' b.ns.length cA'), (.slice T' b.tb.length cT'), .int .u64 (b.ep : Int), .int .u64 (b.bo : Int), .int .i64 b.ak, .string b.ts, .int .u64 (b.tn : Int), .bool b.gd] 28))) := Lib.hid (((Below.refl _ _).alloc (Nat.le_refl _) _).alloc (by simp) _)
  have HVa : Hid (Var ((w.alloc (.cells #[.int .i64 a.kd, .int .i64 a.fr, .int .i64 a.to, .int .u64 (a.sq : Int), .int .i64 a.wh, .int .u64 a.k.i, .int .i64 a.k.s, (.slice A a.ns.length cA), (.slice T a.tb.length cT), .int .u64 (a.ep : Int), .int .u64 (a.bo : Int), .int .i64 a.ak, .string a.ts, .int .u64 (a.tn : Int), .bool a.gd] 28)).alloc (.cells #[.int .i64 b.kd, .int .i64 b.fr, .int .i64 b.to, .int .u64 (b.sq : Int), .int .i64 b.wh, .int .u64 b.k.i, .int .i64 b.k.s, (.slice A' b.ns.length cA'), (.slice T' b.tb.length cT'), .int .u64 (b.ep : Int), .int .u64 (b.bo : Int), .int .i64 b.ak, .string b.ts, .int .u64 (b.tn : Int), .bool b.gd] 28)) w.heap.size (mvv a (.slice A a.ns.length cA) (.slice T a.tb.length cT))) := Lib.hid ((Var.new w a A T _ _ _ _).on ((Below.refl _ _).alloc (Nat.le_refl _) _))
  have HVb : Hid (Var ((w.alloc (.cells #[.int .i64 a.kd, .int .i64 a.fr, .int .i64 a.to, .int .u64 (a.sq : Int), .int .i64 a.wh, .int .u64 a.k.i, .int .i64 a.k.s, (.slice A a.ns.length cA), (.slice T a.tb.length cT), .int .u64 (a.ep : Int), .int .u64 (a.bo : Int), .int .i64 a.ak, .string a.ts, .int .u64 (a.tn : Int), .bool a.gd] 28)).alloc (.cells #[.int .i64 b.kd, .int .i64 b.fr, .int .i64 b.to, .int .u64 (b.sq : Int), .int .i64 b.wh, .int .u64 b.k.i, .int .i64 b.k.s, (.slice A' b.ns.length cA'), (.slice T' b.tb.length cT'), .int .u64 (b.ep : Int), .int .u64 (b.bo : Int), .int .i64 b.ak, .string b.ts, .int .u64 (b.tn : Int), .bool b.gd] 28)) (w.heap.size + 1) (mvv b (.slice A' b.ns.length cA') (.slice T' b.tb.length cT'))) := Lib.hid (by
    have h1 := Var.new (w.alloc (.cells #[.int .i64 a.kd, .int .i64 a.fr, .int .i64 a.to, .int .u64 (a.sq : Int), .int .i64 a.wh, .int .u64 a.k.i, .int .i64 a.k.s, (.slice A a.ns.length cA), (.slice T a.tb.length cT), .int .u64 (a.ep : Int), .int .u64 (a.bo : Int), .int .i64 a.ak, .string a.ts, .int .u64 (a.tn : Int), .bool a.gd] 28)) b A' T' b.ns.length cA' b.tb.length cT'
    have e1 : (w.alloc (.cells #[.int .i64 a.kd, .int .i64 a.fr, .int .i64 a.to, .int .u64 (a.sq : Int), .int .i64 a.wh, .int .u64 a.k.i, .int .i64 a.k.s, (.slice A a.ns.length cA), (.slice T a.tb.length cT), .int .u64 (a.ep : Int), .int .u64 (a.bo : Int), .int .i64 a.ak, .string a.ts, .int .u64 (a.tn : Int), .bool a.gd] 28)).heap.size = w.heap.size + 1 := by simp
    rw [e1] at h1
    exact h1)
  clear hs hwx hwy ht HXx HXy HTb HTB
  unfold mvv at HFx HFy HWx HCk HMy HSm HRs HRw HSx ⊢
  go_enter Tryd.func3, Tryd.ntmps3
  go_upto_region 1 with (fail)
  generalize (w.alloc (.cells #[.int .i64 a.kd, .int .i64 a.fr, .int .i64 a.to, .int .u64 (a.sq : Int), .int .i64 a.wh, .int .u64 a.k.i, .int .i64 a.k.s, (.slice A a.ns.length cA), (.slice T a.tb.length cT), .int .u64 (a.ep : Int), .int .u64 (a.bo : Int), .int .i64 a.ak, .string a.ts, .int .u64 (a.tn : Int), .bool a.gd] 28)).alloc (.cells #[.int .i64 b.kd, .int .i64 b.fr, .int .i64 b.to, .int .u64 (b.sq : Int), .int .i64 b.wh, .int .u64 b.k.i, .int .i64 b.k.s, (.slice A' b.ns.length cA'), (.slice T' b.tb.length cT'), .int .u64 (b.ep : Int), .int .u64 (b.bo : Int), .int .i64 b.ak, .string b.ts, .int .u64 (b.tn : Int), .bool b.gd] 28) = w1 at *
  have R1 := Lib.hid (fun q : Regrown => HFx.out (grow (redrawn w1 q.d) q.os) (HB1.out.trans ((below_regrown w1 q.d q.os).mono HB1.out.size)))
  have R2 := Lib.hid (fun q : Regrown => HFy.out (grow (redrawn w1 q.d) q.os) (HB1.out.trans ((below_regrown w1 q.d q.os).mono HB1.out.size)))
  have hRa := HVa.out.row
  have hRb := HVb.out.row
  have a0 := hRa.at_ 0 _ rfl
  have a1 := hRa.at_ 1 _ rfl
  have a2 := hRa.at_ 2 _ rfl
  have a3 := hRa.at_ 3 _ rfl
  have a4 := hRa.at_ 4 _ rfl
  have a5 := hRa.at_ 5 _ rfl
  have a6 := hRa.at_ 6 _ rfl
  have a7 := hRa.at_ 7 _ rfl
  have a8 := hRa.at_ 8 _ rfl
  have a9 := hRa.at_ 9 _ rfl
  have a10 := hRa.at_ 10 _ rfl
  have a11 := hRa.at_ 11 _ rfl
  have a12 := hRa.at_ 12 _ rfl
  have a13 := hRa.at_ 13 _ rfl
  have a14 := hRa.at_ 14 _ rfl
  have b0 := hRb.at_ 0 _ rfl
  have b1 := hRb.at_ 1 _ rfl
  have b2 := hRb.at_ 2 _ rfl
  have b3 := hRb.at_ 3 _ rfl
  have b4 := hRb.at_ 4 _ rfl
  have b5 := hRb.at_ 5 _ rfl
  have b6 := hRb.at_ 6 _ rfl
  have b7 := hRb.at_ 7 _ rfl
  have b8 := hRb.at_ 8 _ rfl
  have b9 := hRb.at_ 9 _ rfl
  have b10 := hRb.at_ 10 _ rfl
  have b11 := hRb.at_ 11 _ rfl
  have b12 := hRb.at_ 12 _ rfl
  have b13 := hRb.at_ 13 _ rfl
  have b14 := hRb.at_ 14 _ rfl
  have A0 := fun d os => cell_regrown a0 d os
  have A1 := fun d os => cell_regrown a1 d os
  have A2 := fun d os => cell_regrown a2 d os
  have A3 := fun d os => cell_regrown a3 d os
  have A4 := fun d os => cell_regrown a4 d os
  have A5 := fun d os => cell_regrown a5 d os
  have A6 := fun d os => cell_regrown a6 d os
  have A7 := fun d os => cell_regrown a7 d os
  have A8 := fun d os => cell_regrown a8 d os
  have A9 := fun d os => cell_regrown a9 d os
  have A10 := fun d os => cell_regrown a10 d os
  have A11 := fun d os => cell_regrown a11 d os
  have A12 := fun d os => cell_regrown a12 d os
  have A13 := fun d os => cell_regrown a13 d os
  have A14 := fun d os => cell_regrown a14 d os
  have B0 := fun d os => cell_regrown b0 d os
  have B1 := fun d os => cell_regrown b1 d os
  have B2 := fun d os => cell_regrown b2 d os
  have B3 := fun d os => cell_regrown b3 d os
  have B4 := fun d os => cell_regrown b4 d os
  have B5 := fun d os => cell_regrown b5 d os
  have B6 := fun d os => cell_regrown b6 d os
  have B7 := fun d os => cell_regrown b7 d os
  have B8 := fun d os => cell_regrown b8 d os
  have B9 := fun d os => cell_regrown b9 d os
  have B10 := fun d os => cell_regrown b10 d os
  have B11 := fun d os => cell_regrown b11 d os
  have B12 := fun d os => cell_regrown b12 d os
  have B13 := fun d os => cell_regrown b13 d os
  have B14 := fun d os => cell_regrown b14 d os
  clear hRa hRb
  refine ts_region 4 (by kernel_rfl) (by kernel_rfl) ?_
  simp only [List.take_succ_cons, List.take_zero, List.drop_succ_cons, List.drop_zero]
  iterate 4 (refine q_step ?_; intro K hK; go_simp; first | (refine hK _ ?_; clear hK K) | (refine ⟨_, fun q => Calls.regrown_of (by with_reducible exact R1.out q), hK _ ?_⟩; clear hK K) | (refine ⟨_, fun q => Calls.regrown_of (by with_reducible exact R2.out q), hK _ ?_⟩; clear hK K))
  refine q_nil ?_
  intro wz hbz
  have HVaz := Lib.hid (HVa.out.on hbz)
  have HVbz := Lib.hid (HVb.out.on hbz)
  have HBz := Lib.hid (HB1.out.trans (hbz.mono HB1.out.size))
  clear a0 a1 a2 a3 a4 a5 a6 a7 a8 a9 a10 a11 a12 a13 a14 b0 b1 b2 b3 b4 b5 b6 b7 b8 b9 b10 b11 b12 b13 b14 A0 A1 A2 A3 A4 A5 A6 A7 A8 A9 A10 A11 A12 A13 A14 B0 B1 B2 B3 B4 B5 B6 B7 B8 B9 B10 B11 B12 B13 B14 R1 R2 hbz HVa HVb HB1 HFx HFy
  go_upto_region 2 with (first
    | (refine wpList_store_var rfl _ _ rfl w.heap.size _ (mvv x (.slice A x.ns.length cA) (.slice T x.tb.length cT)) rfl rfl HVaz.out hmvx ?_; intro w2 hV2 hJ2; have HV2 := Lib.hid hV2; have HB2 : Hid (Below w.heap.size w w2) := Lib.hid (hJ2.below HBz.out (Nat.le_refl _)); have HVb2 := Lib.hid (hJ2.var HVbz.out (Nat.ne_of_gt (Nat.lt_succ_self _))); clear hV2 hJ2)
    | (refine wpList_store_var rfl _ _ rfl (w.heap.size + 1) _ (mvv y (.slice A' y.ns.length cA') (.slice T' y.tb.length cT')) rfl rfl HVb2.out hmvy ?_; intro w3 hV3 hJ3; have HVb3 := Lib.hid hV3; have HB3 : Hid (Below w.heap.size w w3) := Lib.hid (hJ3.below HB2.out (Nat.le_succ _)); have HVa3 := Lib.hid (hJ3.var HV2.out (Nat.ne_of_lt (Nat.lt_succ_self _))); clear hV3 hJ3))
  clear HVaz HVbz HBz HV2 HVb2 HB2 hmvx hmvy
  have HRa := Lib.hid HVa3.out.row
  have HRb := Lib.hid HVb3.out.row
  clear HVa3 HVb3
  have z0 : okE true = 0 := rfl
  have z1 : okE false = 1 := rfl
  have HZ := Lib.hid (And.intro z0 z1)
  clear z0 z1
  generalize hN : nameB nm = N at *
  generalize hD : decide (x = y) = D at *
  clear hN hD
  rcases h1 : mayM x with _ | _
  · rw [h1, HZ.out.2] at HWx HCk
    rw [h1] at HMy
    have hs0 := HS0.out h1
    subst hs0
    clear HRd HRw HS0 h1 HZ HSx
    go_upto_region 3 with (first
      | (refine wpList_load_mid rfl 28 _ rfl w.heap.size 0 rfl [.int .i64 x.kd, .int .i64 x.fr, .int .i64 x.to, .int .u64 (x.sq : Int), .int .i64 x.wh, .int .u64 x.k.i, .int .i64 x.k.s, (.slice A x.ns.length cA), (.slice T x.tb.length cT), .int .u64 (x.ep : Int), .int .u64 (x.bo : Int), .int .i64 x.ak, .string x.ts, .int .u64 (x.tn : Int), .bool x.gd] _ (row_range HRa.out) Tryd.underlying28 rfl (by kernel_rfl) ?_)
      | (go_at_call 10; refine (HWx.out _ HB3.out).mono ?_; rintro e w4 ⟨rfl, hb4⟩; have HB4 := Lib.hid (HB3.out.trans (hb4.mono HB3.out.size)); replace HRa := Lib.hid (HRa.out.on hb4 (show 0 < 15 by decide)); replace HRb := Lib.hid (HRb.out.on hb4 (show 0 < 15 by decide)); clear hb4))
    have hRa := HRa.out
    have hRb := HRb.out
    have R1 := Lib.hid (fun q : Regrown => HCk.out (grow (redrawn w4 q.d) q.os) (HB4.out.trans ((below_regrown w4 q.d q.os).mono HB4.out.size)))
    have R2 := Lib.hid (fun q : Regrown => HMy.out (grow (redrawn w4 q.d) q.os) (HB4.out.trans ((below_regrown w4 q.d q.os).mono HB4.out.size)))
    have R3 := Lib.hid (fun q : Regrown => HSm.out (grow (redrawn w4 q.d) q.os) (HB4.out.trans ((below_regrown w4 q.d q.os).mono HB4.out.size)))
    have R4 := Lib.hid (fun q : Regrown => HRs.out (grow (redrawn w4 q.d) q.os) (HB4.out.trans ((below_regrown w4 q.d q.os).mono HB4.out.size)))
    have R5 := Lib.hid (fun q : Regrown => HNm.out (grow (redrawn w4 q.d) q.os))
    have R6 := Lib.hid (fun q : Regrown => (HRn.out (grow (redrawn w4 q.d) q.os)).mono (fun e W' h => (And.intro h.1 (h.2 ▸ Below.refl _ _) : e = _ ∧ Below (grow (redrawn w4 q.d) q.os).heap.size (grow (redrawn w4 q.d) q.os) W')))
    have HQa := Lib.hid (fun q : Regrown => row_regrown hRa (show 0 < 15 by decide) q.d q.os)
    have HQb := Lib.hid (fun q : Regrown => row_regrown hRb (show 0 < 15 by decide) q.d q.os)
    clear hRa hRb
    refine q_enter (by kernel_rfl) (by kernel_rfl) ?_
    iterate 22 (first | (refine q_load (by rfl) _ rfl w.heap.size rfl [.int .i64 x.kd, .int .i64 x.fr, .int .i64 x.to, .int .u64 (x.sq : Int), .int .i64 x.wh, .int .u64 x.k.i, .int .i64 x.k.s, (.slice A x.ns.length cA), (.slice T x.tb.length cT), .int .u64 (x.ep : Int), .int .u64 (x.bo : Int), .int .i64 x.ak, .string x.ts, .int .u64 (x.tn : Int), .bool x.gd] rfl (fun W hC => by obtain ⟨q, rfl⟩ := hC; exact HQa.out q) ?_; simp only [List.toArray, Act.put, List.setIfInBounds_toArray, List.set_cons_zero, List.set_cons_succ]) | (refine q_load (by rfl) _ rfl (w.heap.size + 1) rfl [.int .i64 y.kd, .int .i64 y.fr, .int .i64 y.to, .int .u64 (y.sq : Int), .int .i64 y.wh, .int .u64 y.k.i, .int .i64 y.k.s, (.slice A' y.ns.length cA'), (.slice T' y.tb.length cT'), .int .u64 (y.ep : Int), .int .u64 (y.bo : Int), .int .i64 y.ak, .string y.ts, .int .u64 (y.tn : Int), .bool y.gd] rfl (fun W hC => by obtain ⟨q, rfl⟩ := hC; exact HQb.out q) ?_; simp only [List.toArray, Act.put, List.setIfInBounds_toArray, List.set_cons_zero, List.set_cons_succ]) | (refine q_step ?_; intro K hK; go_simp; first | (refine hK _ ?_; clear hK K) | (refine ⟨_, fun q => Calls.regrown_of (by with_reducible exact R1.out q), hK _ ?_⟩; clear hK K) | (refine ⟨_, fun q => Calls.regrown_of (by with_reducible exact R2.out q), hK _ ?_⟩; clear hK K) | (refine ⟨_, fun q => Calls.regrown_of (by with_reducible exact R3.out q), hK _ ?_⟩; clear hK K) | (refine ⟨_, fun q => Calls.regrown_of (by with_reducible exact R4.out q), hK _ ?_⟩; clear hK K) | (refine ⟨_, fun q => Calls.regrown_of (by with_reducible exact R5.out q), hK _ ?_⟩; clear hK K) | (refine ⟨_, fun q => Calls.regrown_of (by with_reducible exact R6.out q), hK _ ?_⟩; clear hK K)))
    refine q_nil ?_
    intro wz hbz
    replace HRa := Lib.hid (HRa.out.on hbz (show 0 < 15 by decide))
    replace HRb := Lib.hid (HRb.out.on hbz (show 0 < 15 by decide))
    have HB5 := Lib.hid (HB4.out.trans (hbz.mono HB4.out.size))
    clear HQa HQb R1 R2 R3 R4 R5 R6 hbz HNm HRn HSm HRs HCk
    go_upto_region 6 with (first
      | (refine wpList_load_mid rfl 28 _ rfl w.heap.size 0 rfl [.int .i64 x.kd, .int .i64 x.fr, .int .i64 x.to, .int .u64 (x.sq : Int), .int .i64 x.wh, .int .u64 x.k.i, .int .i64 x.k.s, (.slice A x.ns.length cA), (.slice T x.tb.length cT), .int .u64 (x.ep : Int), .int .u64 (x.bo : Int), .int .i64 x.ak, .string x.ts, .int .u64 (x.tn : Int), .bool x.gd] _ (row_range HRa.out) Tryd.underlying28 rfl (by kernel_rfl) ?_)
      | (go_at_call 12; refine (HMy.out _ HB5.out).mono ?_; rintro e w6 ⟨rfl, hb6⟩; have HB6 := Lib.hid (HB5.out.trans (hb6.mono HB5.out.size)); replace HRa := Lib.hid (HRa.out.on hb6 (show 0 < 15 by decide)); clear hb6))
    go_wp2_with fail
    refine (HAw.out _ HB6.out).mono ?_
    rintro e w7 ⟨rfl, hb7⟩
    go_wp2_with fail
    go_ret
    exact ⟨rfl, HB6.out.trans (hb7.mono HB6.out.size)⟩
  · rw [h1, HZ.out.1] at HWx HCk
    rw [h1] at HMy
    have HRd' := Lib.hid (HRd.out h1)
    have HRw' := Lib.hid (HRw.out h1)
    clear HRd HRw HS0 h1 HZ
    have HSe : Hid (s = s) := Lib.hid rfl
    go_upto_region 3 with (first
      | (refine wpList_load_mid rfl 28 _ rfl w.heap.size 0 rfl [.int .i64 x.kd, .int .i64 x.fr, .int .i64 x.to, .int .u64 (x.sq : Int), .int .i64 x.wh, .int .u64 x.k.i, .int .i64 x.k.s, (.slice A x.ns.length cA), (.slice T x.tb.length cT), .int .u64 (x.ep : Int), .int .u64 (x.bo : Int), .int .i64 x.ak, .string x.ts, .int .u64 (x.tn : Int), .bool x.gd] _ (row_range HRa.out) Tryd.underlying28 rfl (by kernel_rfl) ?_)
      | (go_at_call 10; refine (HWx.out _ HB3.out).mono ?_; rintro e w4 ⟨rfl, hb4⟩; have HB4 := Lib.hid (HB3.out.trans (hb4.mono HB3.out.size)); replace HRa := Lib.hid (HRa.out.on hb4 (show 0 < 15 by decide)); replace HRb := Lib.hid (HRb.out.on hb4 (show 0 < 15 by decide)); clear hb4))
    have hRa := HRa.out
    have hRb := HRb.out
    have R1 := Lib.hid (fun q : Regrown => HCk.out (grow (redrawn w4 q.d) q.os) (HB4.out.trans ((below_regrown w4 q.d q.os).mono HB4.out.size)))
    have R2 := Lib.hid (fun q : Regrown => HMy.out (grow (redrawn w4 q.d) q.os) (HB4.out.trans ((below_regrown w4 q.d q.os).mono HB4.out.size)))
    have R3 := Lib.hid (fun q : Regrown => HSm.out (grow (redrawn w4 q.d) q.os) (HB4.out.trans ((below_regrown w4 q.d q.os).mono HB4.out.size)))
    have R4 := Lib.hid (fun q : Regrown => HRs.out (grow (redrawn w4 q.d) q.os) (HB4.out.trans ((below_regrown w4 q.d q.os).mono HB4.out.size)))
    have R5 := Lib.hid (fun q : Regrown => HNm.out (grow (redrawn w4 q.d) q.os))
    have R6 := Lib.hid (fun q : Regrown => (HRn.out (grow (redrawn w4 q.d) q.os)).mono (fun e W' h => (And.intro h.1 (h.2 ▸ Below.refl _ _) : e = _ ∧ Below (grow (redrawn w4 q.d) q.os).heap.size (grow (redrawn w4 q.d) q.os) W')))
    have HQa := Lib.hid (fun q : Regrown => row_regrown hRa (show 0 < 15 by decide) q.d q.os)
    have HQb := Lib.hid (fun q : Regrown => row_regrown hRb (show 0 < 15 by decide) q.d q.os)
    clear hRa hRb
    refine q_enter (by kernel_rfl) (by kernel_rfl) ?_
    iterate 22 (first | (refine q_load (by rfl) _ rfl w.heap.size rfl [.int .i64 x.kd, .int .i64 x.fr, .int .i64 x.to, .int .u64 (x.sq : Int), .int .i64 x.wh, .int .u64 x.k.i, .int .i64 x.k.s, (.slice A x.ns.length cA), (.slice T x.tb.length cT), .int .u64 (x.ep : Int), .int .u64 (x.bo : Int), .int .i64 x.ak, .string x.ts, .int .u64 (x.tn : Int), .bool x.gd] rfl (fun W hC => by obtain ⟨q, rfl⟩ := hC; exact HQa.out q) ?_; simp only [List.toArray, Act.put, List.setIfInBounds_toArray, List.set_cons_zero, List.set_cons_succ]) | (refine q_load (by rfl) _ rfl (w.heap.size + 1) rfl [.int .i64 y.kd, .int .i64 y.fr, .int .i64 y.to, .int .u64 (y.sq : Int), .int .i64 y.wh, .int .u64 y.k.i, .int .i64 y.k.s, (.slice A' y.ns.length cA'), (.slice T' y.tb.length cT'), .int .u64 (y.ep : Int), .int .u64 (y.bo : Int), .int .i64 y.ak, .string y.ts, .int .u64 (y.tn : Int), .bool y.gd] rfl (fun W hC => by obtain ⟨q, rfl⟩ := hC; exact HQb.out q) ?_; simp only [List.toArray, Act.put, List.setIfInBounds_toArray, List.set_cons_zero, List.set_cons_succ]) | (refine q_step ?_; intro K hK; go_simp; first | (refine hK _ ?_; clear hK K) | (refine ⟨_, fun q => Calls.regrown_of (by with_reducible exact R1.out q), hK _ ?_⟩; clear hK K) | (refine ⟨_, fun q => Calls.regrown_of (by with_reducible exact R2.out q), hK _ ?_⟩; clear hK K) | (refine ⟨_, fun q => Calls.regrown_of (by with_reducible exact R3.out q), hK _ ?_⟩; clear hK K) | (refine ⟨_, fun q => Calls.regrown_of (by with_reducible exact R4.out q), hK _ ?_⟩; clear hK K) | (refine ⟨_, fun q => Calls.regrown_of (by with_reducible exact R5.out q), hK _ ?_⟩; clear hK K) | (refine ⟨_, fun q => Calls.regrown_of (by with_reducible exact R6.out q), hK _ ?_⟩; clear hK K)))
    refine q_nil ?_
    intro wz hbz
    replace HRa := Lib.hid (HRa.out.on hbz (show 0 < 15 by decide))
    replace HRb := Lib.hid (HRb.out.on hbz (show 0 < 15 by decide))
    have HB5 := Lib.hid (HB4.out.trans (hbz.mono HB4.out.size))
    clear HQa HQb R1 R2 R3 R4 R5 R6 hbz HNm HRn HSm HRs HCk
    go_upto_region 7 with (first
      | (refine wpList_load_mid rfl 28 _ rfl w.heap.size 0 rfl [.int .i64 x.kd, .int .i64 x.fr, .int .i64 x.to, .int .u64 (x.sq : Int), .int .i64 x.wh, .int .u64 x.k.i, .int .i64 x.k.s, (.slice A x.ns.length cA), (.slice T x.tb.length cT), .int .u64 (x.ep : Int), .int .u64 (x.bo : Int), .int .i64 x.ak, .string x.ts, .int .u64 (x.tn : Int), .bool x.gd] _ (row_range HRa.out) Tryd.underlying28 rfl (by kernel_rfl) ?_)
      | (go_at_call 12; refine (HMy.out _ HB5.out).mono ?_; rintro e w6 ⟨rfl, hb6⟩; have HB6 := Lib.hid (HB5.out.trans (hb6.mono HB5.out.size)); replace HRa := Lib.hid (HRa.out.on hb6 (show 0 < 15 by decide)); clear hb6))
    go_upto_region 8 with (go_at_call 18; refine (HRd'.out _ HB6.out).mono ?_; rintro e w7 ⟨v, rfl, hv7, hb7⟩; obtain ⟨A2, cA2, T2, cT2, rfl, g1, g2, g3, g4, g5⟩ := hv7; have HV7 : Hid (MsgV w7 (mvv x (.slice A2 x.ns.length cA2) (.slice T2 x.tb.length cT2)) x) := Lib.hid ⟨A2, cA2, T2, cT2, rfl, g1, g2, g3, g4, g5⟩; have HB7 := Lib.hid (HB6.out.trans (hb7.mono HB6.out.size)); replace HRa := Lib.hid (HRa.out.on hb7 (show 0 < 15 by decide)); clear hb7 g1 g2 g3 g4 g5; unfold mvv)
    have hal : Below w7.heap.size w7 (w7.alloc (.cells #[.int .i64 x.kd, .int .i64 x.fr, .int .i64 x.to, .int .u64 (x.sq : Int), .int .i64 x.wh, .int .u64 x.k.i, .int .i64 x.k.s, (.slice A2 x.ns.length cA2), (.slice T2 x.tb.length cT2), .int .u64 (x.ep : Int), .int .u64 (x.bo : Int), .int .i64 x.ak, .string x.ts, .int .u64 (x.tn : Int), .bool x.gd] 28)) := (Below.refl _ _).alloc (Nat.le_refl _) _
    have HB8 : Hid (Below w.heap.size w (w7.alloc (.cells #[.int .i64 x.kd, .int .i64 x.fr, .int .i64 x.to, .int .u64 (x.sq : Int), .int .i64 x.wh, .int .u64 x.k.i, .int .i64 x.k.s, (.slice A2 x.ns.length cA2), (.slice T2 x.tb.length cT2), .int .u64 (x.ep : Int), .int .u64 (x.bo : Int), .int .i64 x.ak, .string x.ts, .int .u64 (x.tn : Int), .bool x.gd] 28))) := Lib.hid (HB7.out.trans (hal.mono HB7.out.size))
    have HQ8 : Hid (Row (w7.alloc (.cells #[.int .i64 x.kd, .int .i64 x.fr, .int .i64 x.to, .int .u64 (x.sq : Int), .int .i64 x.wh, .int .u64 x.k.i, .int .i64 x.k.s, (.slice A2 x.ns.length cA2), (.slice T2 x.tb.length cT2), .int .u64 (x.ep : Int), .int .u64 (x.bo : Int), .int .i64 x.ak, .string x.ts, .int .u64 (x.tn : Int), .bool x.gd] 28)) w7.heap.size [.int .i64 x.kd, .int .i64 x.fr, .int .i64 x.to, .int .u64 (x.sq : Int), .int .i64 x.wh, .int .u64 x.k.i, .int .i64 x.k.s, (.slice A2 x.ns.length cA2), (.slice T2 x.tb.length cT2), .int .u64 (x.ep : Int), .int .u64 (x.bo : Int), .int .i64 x.ak, .string x.ts, .int .u64 (x.tn : Int), .bool x.gd]) := Lib.hid (Row.new w7 _ _)
    have HV8 := Lib.hid (HV7.out.on hal)
    replace HRa := Lib.hid (HRa.out.on hal (show 0 < 15 by decide))
    clear hal
    generalize w7.alloc (.cells #[.int .i64 x.kd, .int .i64 x.fr, .int .i64 x.to, .int .u64 (x.sq : Int), .int .i64 x.wh, .int .u64 x.k.i, .int .i64 x.k.s, (.slice A2 x.ns.length cA2), (.slice T2 x.tb.length cT2), .int .u64 (x.ep : Int), .int .u64 (x.bo : Int), .int .i64 x.ak, .string x.ts, .int .u64 (x.tn : Int), .bool x.gd] 28) = w8 at *
    have HQ9 := HQ8
    go_wp2_with (first
      | (refine wpList_load_g (by rfl) _ rfl w.heap.size rfl [.int .i64 x.kd, .int .i64 x.fr, .int .i64 x.to, .int .u64 (x.sq : Int), .int .i64 x.wh, .int .u64 x.k.i, .int .i64 x.k.s, (.slice A x.ns.length cA), (.slice T x.tb.length cT), .int .u64 (x.ep : Int), .int .u64 (x.bo : Int), .int .i64 x.ak, .string x.ts, .int .u64 (x.tn : Int), .bool x.gd] rfl HRa.out ?_; simp only [])
      | (refine wpList_load_g (by rfl) _ rfl w7.heap.size rfl [.int .i64 x.kd, .int .i64 x.fr, .int .i64 x.to, .int .u64 (x.sq : Int), .int .i64 x.wh, .int .u64 x.k.i, .int .i64 x.k.s, (.slice A2 x.ns.length cA2), (.slice T2 x.tb.length cT2), .int .u64 (x.ep : Int), .int .u64 (x.bo : Int), .int .i64 x.ak, .string x.ts, .int .u64 (x.tn : Int), .bool x.gd] rfl HQ8.out ?_; simp only [])
      | (go_at_call 19; refine (HRw'.out _ HB8.out).mono ?_; rintro e w9 ⟨rfl, hb9⟩; have HB9 := Lib.hid (HB8.out.trans (hb9.mono HB8.out.size)); have HV9 := Lib.hid (HV8.out.on hb9); replace HQ8 := Lib.hid (HQ8.out.on hb9 (show 0 < 15 by decide)); replace HRa := Lib.hid (HRa.out.on hb9 (show 0 < 15 by decide)); clear hb9)
      | (go_at_call 14; refine (HSx.out _ w9 _ HB9.out HV9.out).mono ?_; rintro e w10 ⟨rfl, hb10⟩; have HB10 := Lib.hid (HB9.out.trans (hb10.mono HB9.out.size)); clear hb10)
      | (go_at_call 17; refine (HAw.out _ HB10.out).mono ?_; rintro e w11 ⟨rfl, hb11⟩; have HB11 := Lib.hid (HB10.out.trans (hb11.mono HB10.out.size)); clear hb11))
    go_ret
    exact ⟨rfl, HB11.out⟩

theorem parOk : ∀ t ∈ (#[28, 28, 9] : Array TypeId).toList, Tryd.prog.readableRec t = true ∧ t < Tryd.prog.types.size := by
  have hall : ([28, 28, 9].all fun t => Tryd.prog.readableRec t && decide (t < Tryd.prog.types.size)) = true := by kernel_rfl
  intro t ht
  simpa using List.all_eq_true.1 hall t ht

set_option maxRecDepth 100000 in
/-- What the walk gives, for every argument and every world that holds the table. -/
theorem contract (H : Type) (enc : TypeId × Value → H) (W : World) (base : Nat) (args : Array Value) (ds gs : List (DataW H)) (before : List MemPlace)
    (hval : ∀ (j : Nat) t v, Tryd.f3.params[j]? = some t → args[j]? = some v → Value.okWide Tryd.prog W .any base t v)
    (hW : DataW.Whole enc Tryd.prog Tryd.f3.params.toList Rows.msgWritesSpec.vars false W args.toList ds gs before) (hL : laidMetH Tryd.prog Rows.msgWritesRow.laid W) :
    Calls Tryd.prog 3 args W fun e W' => ∃ v, e = .returned v ∧ Rows.msgWritesSpec.post enc Tryd.prog Tryd.f3 false true false false W args v W' := by
  have hW' := hW
  obtain ⟨p, q, hA0, hV, rfl, hfz, hnd⟩ := hW
  have hA : DataW.TrodAll enc Tryd.prog W 0 (fun _ => true) true Tryd.f3.params.toList args.toList ds p := hA0
  rw [Tryd.params3] at hA hval
  obtain ⟨v0, vs0, d0, ds0, p0, q0, hargs, rfl, rfl, h0, r0⟩ := trodAll_cons hA
  obtain ⟨v1, vs1, d1, ds1, p1, q1, rfl, rfl, rfl, h1, r1⟩ := trodAll_cons r0
  obtain ⟨v2, vs2, d2, ds2, p2, q2, rfl, rfl, rfl, h2, r2⟩ := trodAll_cons r1
  obtain ⟨rfl, rfl, rfl⟩ := trodAll_nil r2
  obtain rfl : args = #[v0, v1, v2] := by cases args; simp_all
  obtain ⟨rfl, rfl⟩ := trodVars_none hV
  obtain ⟨a, ⟨A, cA, T, cT, rfl, hLa⟩, wa⟩ := open_msg (hval 0 28 v0 rfl rfl) h0
  obtain ⟨b, ⟨A', cA', T', cT', rfl, hLb⟩, wb⟩ := open_msg (hval 1 28 v1 rfl rfl) h1
  obtain ⟨nm, rfl, rfl, rfl, hnm⟩ := open_string Tryd.underlying9 (hval 2 9 v2 rfl rfl) h2
  clear hA0
  refine (walk a b A cA T cT A' cA' T' cT' nm W hLa wa hLb wb hnm (tab_of_laid hL)).mono fun e W' ⟨he, hb⟩ => ?_
  subst he
  exact ⟨_, rfl, law_post rfl (by rw [Tryd.params3]; exact parOk) rfl hW' rfl rfl rfl hb⟩

set_option maxRecDepth 100000 in
theorem laid_met (os : Os) : laidMet Tryd.prog Rows.msgWritesRow.laid ((laidWorld os).forCall (fun _ _ => 0) ⟨#[], #[.agg #[.int .i64 0, .int .i64 0, .int .i64 0, .int .u64 0, .int .i64 0, .int .u64 0, .int .i64 0, .slice none 0 0, .slice none 0 0, .int .u64 0, .int .u64 0, .int .i64 0, .string ⟨#[]⟩, .int .u64 0, .bool false], .agg #[.int .i64 0, .int .i64 0, .int .i64 0, .int .u64 0, .int .i64 0, .int .u64 0, .int .i64 0, .slice none 0 0, .slice none 0 0, .int .u64 0, .int .u64 0, .int .i64 0, .string ⟨#[]⟩, .int .u64 0, .bool false], .string ⟨#[]⟩], []⟩).memory :=
  laidMet_of_run' 8 (by kernel_rfl) (by kernel_rfl)
set_option maxRecDepth 100000 in
theorem reads (os : Os) {H : Type} (enc : TypeId × Value → H) : ∃ places, DataW.whole enc Tryd.prog ((laidWorld os).forCall (fun _ _ => 0) ⟨#[], #[.agg #[.int .i64 0, .int .i64 0, .int .i64 0, .int .u64 0, .int .i64 0, .int .u64 0, .int .i64 0, .slice none 0 0, .slice none 0 0, .int .u64 0, .int .u64 0, .int .i64 0, .string ⟨#[]⟩, .int .u64 0, .bool false], .agg #[.int .i64 0, .int .i64 0, .int .i64 0, .int .u64 0, .int .i64 0, .int .u64 0, .int .i64 0, .slice none 0 0, .slice none 0 0, .int .u64 0, .int .u64 0, .int .i64 0, .string ⟨#[]⟩, .int .u64 0, .bool false], .string ⟨#[]⟩], []⟩).memory Tryd.f3.params.toList Rows.msgWritesSpec.vars false (#[.agg #[.int .i64 0, .int .i64 0, .int .i64 0, .int .u64 0, .int .i64 0, .int .u64 0, .int .i64 0, .slice none 0 0, .slice none 0 0, .int .u64 0, .int .u64 0, .int .i64 0, .string ⟨#[]⟩, .int .u64 0, .bool false], .agg #[.int .i64 0, .int .i64 0, .int .i64 0, .int .u64 0, .int .i64 0, .int .u64 0, .int .i64 0, .slice none 0 0, .slice none 0 0, .int .u64 0, .int .u64 0, .int .i64 0, .string ⟨#[]⟩, .int .u64 0, .bool false], .string ⟨#[]⟩] : Array Value).toList 8 = some ([.agg [.lit (.int .i64 0), .lit (.int .i64 0), .lit (.int .i64 0), .lit (.int .u64 0), .lit (.int .i64 0), .agg [.lit (.int .u64 0), .lit (.int .i64 0)], .nil, .nil, .lit (.int .u64 0), .lit (.int .u64 0), .lit (.int .i64 0), .lit (.string []), .lit (.int .u64 0), .lit (.bool false)], .agg [.lit (.int .i64 0), .lit (.int .i64 0), .lit (.int .i64 0), .lit (.int .u64 0), .lit (.int .i64 0), .agg [.lit (.int .u64 0), .lit (.int .i64 0)], .nil, .nil, .lit (.int .u64 0), .lit (.int .u64 0), .lit (.int .i64 0), .lit (.string []), .lit (.int .u64 0), .lit (.bool false)], .lit (.string [])], [], places) :=
  ⟨[], by kernel_rfl⟩

set_option maxRecDepth 100000 in
theorem lifted (os : Os) (started : os.Started) (H : Type) (enc : TypeId × Value → H) (F : Stop.Interp) :
    ReturnsInHanded {} Tryd.checked os 3 .any ((OpenSpec.ofChange Rows.msgWritesSpec).preRow enc Tryd.prog Tryd.f3 Rows.msgWritesRow.domain false Rows.msgWritesRow.laid) (((OpenSpec.ofChange Rows.msgWritesSpec).at F).post enc Tryd.prog Tryd.f3 false true false false) := by
  obtain ⟨places, hx⟩ := reads os enc
  refine returnsInHanded_of_row (C := Tryd.checked) (s := OpenSpec.ofChange Rows.msgWritesSpec) own started (by kernel_rfl) Tryd.func3
    (witness_row_at (enc := enc) (C := Tryd.checked) false (laidWorld os) #[.agg #[.int .i64 0, .int .i64 0, .int .i64 0, .int .u64 0, .int .i64 0, .int .u64 0, .int .i64 0, .slice none 0 0, .slice none 0 0, .int .u64 0, .int .u64 0, .int .i64 0, .string ⟨#[]⟩, .int .u64 0, .bool false], .agg #[.int .i64 0, .int .i64 0, .int .i64 0, .int .u64 0, .int .i64 0, .int .u64 0, .int .i64 0, .slice none 0 0, .slice none 0 0, .int .u64 0, .int .u64 0, .int .i64 0, .string ⟨#[]⟩, .int .u64 0, .bool false], .string ⟨#[]⟩] rfl (by kernel_rfl) (by kernel_rfl) (by kernel_rfl)
      (OpenSpec.preRow_of_cond 8 hx (by kernel_rfl) (fun k hk => by cases hk) (by kernel_rfl) (laid_met os))) ?_
  intro W base args ds gs before hval hW _ _ _ hL _ _
  exact contract H enc W base args ds gs before hval hW hL

theorem said : Rows.MsgWritesSaid :=
  OpenClaim.holds_of_cond 3 Tryd.f3 rfl rfl rfl rfl rfl rfl rfl ⟨rfl, rfl, rfl, rfl, rfl⟩ rfl rfl rfl rfl rfl (by kernel_rfl) Tryd.func3 (by kernel_rfl)
    (of_decide_eq_true (by kernel_rfl)) (by unfold Func.isWrapper; first | (rw [if_pos (by decide +kernel)]; kernel_rfl) | (rw [if_neg (by decide +kernel)]; exact ⟨rfl, rfl⟩))
    (fun os started H enc _ F => by rw [OpenClaim.pre_eq_preRow]; exact lifted os started H enc F)

/-- No parameter wants a stand-in; the program's own looks are off. -/
theorem plain (f : FuncId) (fn : Func) (hf : Tryd.pinned.checked.prog.funcNamed "tattle/tattlelaw10.MsgWrites" = some f) (hfn : Tryd.pinned.checked.prog.funcs[f]? = some fn) :
    false = Tryd.pinned.checked.prog.looks [] ∧ ∀ (j : Nat) t, fn.params[j]? = some t → Tryd.pinned.checked.prog.wantsStandIn t = false := by
  obtain rfl : f = 3 := Option.some.inj ((show Tryd.prog.funcNamed "tattle/tattlelaw10.MsgWrites" = some 3 by kernel_rfl).symm.trans hf) |>.symm
  obtain rfl : fn = Tryd.f3 := (Option.some.inj (Tryd.func3.symm.trans hfn)).symm
  refine ⟨by kernel_rfl, fun j t ht => ?_⟩
  rw [Tryd.params3] at ht
  have hm : t ∈ [28, 28, 9] := by simpa using Array.mem_of_getElem? ht
  have hall : ([28, 28, 9].all fun u => !Tryd.prog.wantsStandIn u) = true := by kernel_rfl
  exact (show Tryd.prog.wantsStandIn t = false by simpa using List.all_eq_true.1 hall t hm)

/-- THE CARD. -/
theorem card : Rows.MsgWritesCardSaid :=
  Claim7.holds_tied_plain_at .later [] _ _ _ _ said (fun _ h => by cases h) (by kernel_rfl) (fun _ h => by cases h) msgWrites_row_tie rfl ⟨rfl, rfl⟩ (by kernel_rfl) rfl plain (by kernel_rfl)
end Go.Proofs.YtjeepmdklbfgeaaDoor.lawWrites
