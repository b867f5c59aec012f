/-
  LoadFirst: all nodes ahead in a task's walk have as many as the bound: the law returns true for every input.
-/
import Derived.Test.YthcjjogomknddaaDoorLp
import Derived.Deep.LoopGhost
import Derived.Test.YthcjjogomknddaaDoorCards
import Derived.Test.YthcjjogomknddaaDoorTie
namespace Go.Proofs.YthcjjogomknddaaDoor.lawFirst
open Go.ChangeMaps (open_string)
open Go.Sort Go.ChangeShapes Go.WideShapes Go.ChangeAt Go.RowKit Go.Joins Go.Proofs.YthcjjogomknddaaDoor.Pure

set_option maxRecDepth 100000 in
set_option maxHeartbeats 4000000 in
theorem walk (A B C : Option Addr) (c d e k : Nat) (xs : List Int) (s t : Int) (l : List ByteArray)  (w : World) (hc : xs.length ≤ c) (hm : c ≤ maxLen) (hx : Has w 0 w.heap.size A xs) (hd : l.length ≤ d) (hmd : d ≤ maxLen) (hl : Ss w B l) (hsh : Shrt l)  :
    Calls Tryd.prog 5 #[.agg #[.slice A xs.length c, .int .i64 s, .slice B l.length d, .slice C k e, .int .i64 t]] w fun e w' => e = .returned (.bool true) ∧ Below w.heap.size w w' := by
  have HX : Hid (∀ W, Below w.heap.size w W → Has W 0 w.heap.size A xs) := Lib.hid (fun W hb => hx.on hb (Nat.le_refl _))
  have HL : Hid (∀ W, Below w.heap.size w W → Ss W B l) := Lib.hid (fun W hb => hl.on hb)
  have HB1 : Hid (Below w.heap.size w (w.alloc (.cells #[.slice A xs.length c, .int .i64 s, .slice B l.length d, .slice C k e, .int .i64 t] 26))) := Lib.hid ((Below.refl _ w).alloc (Nat.le_refl _) _)
  have HQ1 : Hid (Ab (w.alloc (.cells #[.slice A xs.length c, .int .i64 s, .slice B l.length d, .slice C k e, .int .i64 t] 26)) w.heap.size (.slice A xs.length c) (.int .i64 s) (.slice B l.length d) (.slice C k e) (.int .i64 t)) := Lib.hid (Ab.new w A B C xs.length l.length k c d e s t)
  have HLA : Hid (∀ (L : Bool), (L = true ↔ Lgt xs s l) → ∀ W, Below w.heap.size w W → Calls Tryd.prog 24 #[.agg #[.slice A xs.length c, .int .i64 s, .slice B l.length d, .slice C k e, .int .i64 t]] W fun e w' => e = .returned (.bool L) ∧ Below W.heap.size W w') := Lib.hid (fun L hL W hb => light_any A B C c d e k xs s t l W ((hx.on hb (Nat.le_refl _)).wide (Nat.zero_le _) hb.size) (hl.on hb) hsh L hL)
  by_cases hg : Lgt xs s l
  rotate_left
  · have HLT := Lib.hid (HLA.out false ⟨fun e => (by cases e), fun h => absurd h hg⟩)
    clear hx hl hsh HX HL hg HLA
    go_enter Tryd.func5, Tryd.ntmps5
    go_upto_region 1 with (fail)
    generalize w.alloc (.cells #[.slice A xs.length c, .int .i64 s, .slice B l.length d, .slice C k e, .int .i64 t] 26) = w1 at *
    obtain ⟨a0, a1, a2, a3, a4⟩ := HQ1.out
    go_wp2_with fail
    refine (HLT.out _ HB1.out).mono ?_
    rintro e w2 ⟨rfl, hb2⟩
    obtain ⟨a0, a1, a2, a3, a4⟩ := HQ1.out.on hb2
    have HB2 := Lib.hid (HB1.out.trans (hb2.mono HB1.out.size))
    go_wp2_with fail
    refine (awake_any _).mono ?_
    rintro e w9 ⟨rfl, hb9⟩
    go_wp2_with fail
    go_ret
    exact ⟨rfl, HB2.out.trans (hb9.mono HB2.out.size)⟩
  have HLT := Lib.hid (HLA.out true (iff_of_true rfl hg))
  obtain ⟨s, rfl⟩ := Int.eq_ofNat_of_zero_le (show 0 ≤ s by have := hg.s1; omega)
  have hs1 : 1 ≤ s := by have := hg.s1; omega
  have hs8 : s ≤ 8 := by have := hg.s8; omega
  have hx1 := hg.x1
  have hx6 := hg.x6
  have hl20 := hg.l20
  have hle : l.length ≤ 100 := by omega
  have HAS := Lib.hid (fun (W : World) (hb : Below w.heap.size w W) => assign_yes A B c d 0 w.heap.size xs s l W (hx.on hb (Nat.le_refl _)) hb.size (hl.on hb) hsh hg.nod hg.x1 hs1 (by omega) hg.tsk)
  have HBD := Lib.hid (fun (W : World) => bound_yes l.length xs.length W hle hx1 (by omega))
  have HRP := Lib.hid (fun (W : World) (hb : Below w.heap.size w W) => rpoints_any A c 0 w.heap.size xs s W (hx.on hb (Nat.le_refl _)) hb.size (nodesB_nums hg.nod) (by omega))
  rw [foldI_pts (nodesB_nums hg.nod)] at HRP
  have hpl : (ptsP xs s).length ≤ 100000 := by rw [pts_len]; have := Nat.mul_le_mul hx6 hs8; omega
  have hpl0 : 0 < (ptsP xs s).length := by rw [pts_len]; exact Nat.mul_pos hx1 hs1
  have HRW := Lib.hid (fun (tt : ByteArray) (AP : Option Addr) (cP : Nat) (W : World) (hp : Ps W AP (ptsP xs s)) (ht : tt.size ≤ 300) => rwalk_any AP cP (ptsP xs s) tt W hpl hp (pts_rise (nodesB_nums hg.nod) s) hpl0 ht)
  have HRl := Lib.hid (lb_len xs s l)
  have HRt := Lib.hid (fun (i : Nat) (hi : i < l.length) => lb_at xs s l hi)
  have HSZ := Lib.hid (shrt_of hg.tsk)
  have HFI := Lib.hid (fun (i : Nat) (hi : i < l.length) => lb_first hg hi)
  have hRlen : (asgA2 xs s l).length ≤ 100000 := by rw [lb_len]; omega
  have HWLK : Hid (∀ t, (wlkA xs s t).length ≤ 100000) := Lib.hid (fun t => by have := nub_le (rotN (ptsP xs s) (sumK t)); rw [rotN_len] at this; show (walkP (ptsP xs s) (sumK t)).length ≤ _; unfold walkP; omega)
  generalize boundN l.length xs.length = M at *
  generalize asgA2 xs s l = R at *
  obtain ⟨WW, hWW⟩ : ∃ WW : ByteArray → List Int, WW = wlkA xs s := ⟨_, rfl⟩
  have hWW2 : ∀ t, walkP (ptsP xs s) (sumK t) = WW t := fun t => by rw [hWW]
  rw [← hWW] at HFI HWLK
  simp only [hWW2] at HRW
  generalize ptsP xs s = P at *
  clear hpl hpl0 hg hsh hWW hWW2
  clear hx hl HLA
  go_enter Tryd.func5, Tryd.ntmps5
  go_upto_region 1 with (fail)
  generalize w.alloc (.cells #[.slice A xs.length c, .int .i64 s, .slice B l.length d, .slice C k e, .int .i64 t] 26) = w1 at *
  obtain ⟨a0, a1, a2, a3, a4⟩ := HQ1.out
  go_wp2_with fail
  refine (HLT.out _ HB1.out).mono ?_
  rintro e w2 ⟨rfl, hb⟩
  have B_1 := Lib.hid (HB1.out.trans (hb.mono HB1.out.size))
  have Q_1 := Lib.hid (HQ1.out.on hb)
  clear HB1 HQ1
  clear hb HLT a0 a1 a2 a3 a4
  obtain ⟨a0, a1, a2, a3, a4⟩ := Q_1.out
  go_wp2_with fail
  refine (HAS.out _ B_1.out).mono ?_
  rintro e w3 ⟨v, rfl, ho, hb⟩
  have B_2 := Lib.hid (B_1.out.trans (hb.mono B_1.out.size))
  have Q_2 := Lib.hid (Q_1.out.on hb)
  clear B_1 Q_1
  obtain ⟨AR, cR, rfl, hcR, huR⟩ := ho.lst
  have UR_3 := Lib.hid (huR)
  clear ho huR hb a0 a1 a2 a3 a4
  obtain ⟨a0, a1, a2, a3, a4⟩ := Q_2.out
  go_wp2_with fail
  refine (HBD.out _).mono ?_
  rintro e w4 ⟨rfl, rfl⟩
  go_wp2_with fail
  refine (HRP.out _ B_2.out).mono ?_
  rintro e w5 ⟨v5, rfl, ho, hb⟩
  have B_4 := Lib.hid (B_2.out.trans (hb.mono B_2.out.size))
  have Q_4 := Lib.hid (Q_2.out.on hb)
  have UR_4 := Lib.hid (UR_3.out.on hb)
  clear B_2 Q_2 UR_3
  obtain ⟨AP, cP, rfl, hcP, hp⟩ := ho.lst
  have P_5 := Lib.hid (hp)
  clear ho hp hb a0 a1 a2 a3 a4
  obtain ⟨a0, a1, a2, a3, a4⟩ := Q_4.out
  go_wp2_with fail
  clear a0 a1 a2 a3 a4
  go_loopg [8] R.length (fun z i wr => ∃ q : Nat, q + z = R.length ∧ i = .int .i64 q ∧ Hid (Below w5.heap.size w5 wr))
  case atStart => exact ⟨0, by omega, rfl, Lib.hid (Below.refl _ _)⟩
  case round =>
    obtain ⟨wq, ewq⟩ : ∃ wq, wq = wr := ⟨_, rfl⟩
    subst ewq
    obtain ⟨q, hq, rfl, hb⟩ := hrel
    have HBq : Hid (Below w.heap.size w wq) := Lib.hid (B_4.out.trans (hb.out.mono B_4.out.size))
    have HQq := Lib.hid (Q_4.out.on hb.out)
    have HUq := Lib.hid (UR_4.out.on hb.out)
    have HPq := Lib.hid (P_5.out.on hb.out)
    cases gk with
    | succ z =>
      have hlt : q < R.length := by omega
      have hll : q < l.length := by have := HRl.out; omega
      have q0 : (0 : Int) ≤ (q : Int) := by omega
      have q1 : (q : Int) < (R.length : Int) := by omega
      have hq1 : Hid (q + 1 + z = R.length) := Lib.hid (by omega)
      obtain ⟨aR, eR, hRo, h1⟩ := HUq.out q hlt
      obtain ⟨r0, r1⟩ := h1.flat
      obtain ⟨f, hf, hfn, hfj⟩ := HFI.out q hll
      have HW1 := Lib.hid (fun W h => HRW.out (ba l q) AP cP W h (by have := HSZ.out q hll; omega))
      have hwl := HWLK.out (ba l q)
      rw [HRt.out q hll] at r0
      obtain ⟨y, hy⟩ : ∃ y, (pu R q).n = y := ⟨_, rfl⟩
      rw [hy] at r1 hfn hfj
      have HYq := Lib.hid hy
      generalize ba l q = z2 at *
      generalize WW z2 = WK at *
      have HFN := Lib.hid hfn
      have HFJ := Lib.hid hfj
      have HWL := Lib.hid hwl
      subst eR
      clear h1 hfn hfj hy hwl hq
      go_wp2_with fail
      refine (HW1.out _ HPq.out).mono ?_
      rintro e w6 ⟨v6, rfl, ho, hb6⟩
      obtain ⟨AX, cX, rfl, hcX, hX⟩ := ho.has
      have HX6 := Lib.hid hX
      have HU6 := Lib.hid (HUq.out.on hb6)
      have HQ6 := Lib.hid (HQq.out.on hb6)
      have HB6 := Lib.hid (HBq.out.trans (hb6.mono HBq.out.size))
      have hb56 := Lib.hid (hb.out.trans (hb6.mono hb.out.size))
      clear ho hX hb6 HUq HQq HBq HPq hb HW1 r0 r1
      go_wp2_with fail
      go_loopg [10] f (fun y2 i wr => ∃ j : Nat, j + y2 = f ∧ i = .int .i64 j ∧ Hid (Below w6.heap.size w6 wr))
      case atStart => exact ⟨0, by omega, rfl, Lib.hid (Below.refl _ _)⟩
      case round =>
        obtain ⟨wj, ewj⟩ : ∃ wj, wj = wr := ⟨_, rfl⟩
        subst ewj
        obtain ⟨j, hj, rfl, hbj⟩ := hrel
        have HUj := Lib.hid (HU6.out.on hbj.out)
        have hzj := Lib.hid hbj.out.size
        have hwl2 := HWL.out
        have j0 : (0 : Int) ≤ (j : Int) := by omega
        have j1 : (j : Int) < (WK.length : Int) := by omega
        have j2 : decide ((j : Int) < (WK.length : Int)) = true := decide_eq_true j1
        have j2' : decide (j < WK.length) = true := decide_eq_true (by omega)
        obtain ⟨aX, eX, hXo, hXo2, x0⟩ := (HX6.out.on hbj.out (Nat.le_refl _)) j (by omega)
        obtain ⟨_, eR, hRo2, h1⟩ := HUj.out q hlt
        obtain rfl := Option.some.inj eR
        obtain ⟨r0, r1⟩ := h1.flat
        rw [HYq.out] at r1
        have X0 : ∀ p : Regrown, (grow (redrawn wj p.d) p.os).cell? (aX.add j) = some (.int .i64 (WK.getD j 0)) := fun p => cell_regrown x0 p.d p.os
        have R1 : ∀ p : Regrown, (grow (redrawn wj p.d) p.os).cell? ⟨(aR.add (q * 2)).block, (aR.add (q * 2)).off + 1, none⟩ = some (.int .i64 y) := fun p => cell_regrown r1 p.d p.os
        clear h1 r0 r1 eR
        subst eX
        cases gk with
        | succ y2 =>
          have hjf : j < f := by omega
          have hne := (HFJ.out j hjf).1
          have HCM := Lib.hid ((HFJ.out j hjf).2)
          generalize WK.getD j 0 = u at *
          have d1 : (u == y) = false := by simpa using hne
          clear hne
          go_upto_region 13 with (fail)
          refine q_enter (by kernel_rfl) (by kernel_rfl) ?_
          iterate 16 (refine q_step ?_; intro K hK; go_simp; first | (refine hK _ ?_; clear hK K))
          refine q_nil ?_
          intro wz hbz
          have HUz := Lib.hid (HUj.out.on hbz)
          have hbz2 : Hid (Below w6.heap.size w6 wz) := Lib.hid (hbj.out.trans (hbz.mono hzj.out))
          have x1 : wz.cell? (aX.add j) = some (.int .i64 u) := (hbz.cell (by rw [block_add]; have := hzj.out; omega)).trans x0
          have HC := Lib.hid (cnt_any (some aR) cR R u wz hRlen HUz.out)
          rw [HCM.out] at HC
          clear hbz X0 R1 x0 HUj hbj
          go_wp2_with fail
          refine HC.out.mono ?_
          rintro e w7 ⟨rfl, rfl⟩
          go_wp2_with fail
          go_roundg y2
          case measure => omega
          case rel => exact ⟨j + 1, by omega, by go_num, hbz2⟩
        | zero =>
          obtain rfl : j = f := by omega
          rw [HFN.out] at X0 x0
          have d1 : (y == y) = true := by simp
          go_upto_region 13 with (fail)
          refine q_enter (by kernel_rfl) (by kernel_rfl) ?_
          iterate 16 (refine q_step ?_; intro K hK; go_simp; first | (refine hK _ ?_; clear hK K))
          refine q_nil ?_
          intro wz hbz
          have hb5z : Hid (Below w5.heap.size w5 wz) := Lib.hid ((hb56.out.trans (hbj.out.mono hb56.out.size)).trans (hbz.mono (by have := hb56.out.size; have := hzj.out; omega)))
          clear hbz X0 R1 x0 HUj hbj
          go_wp2_with fail
          go_roundg z
          case measure => omega
          case rel => exact ⟨q + 1, hq1.out, by go_num, hb5z⟩
    | zero =>
      obtain rfl : q = R.length := by omega
      have e0 : decide ((R.length : Int) < (R.length : Int)) = false := by simp
      obtain ⟨a0, a1, a2, a3, a4⟩ := HQq.out
      go_wp2_with fail
      refine (awake_any _).mono ?_
      rintro e w9 ⟨rfl, hb9⟩
      go_wp2_with fail
      go_ret
      exact ⟨rfl, HBq.out.trans (hb9.mono HBq.out.size)⟩

theorem parOk : ∀ t ∈ (#[26] : Array TypeId).toList, Tryd.prog.readableRec t = true ∧ t < Tryd.prog.types.size := by
  have hall : ([26].all fun t => Tryd.prog.readableRec t && decide (t < Tryd.prog.types.size)) = true := by kernel_rfl
  intro t ht
  simpa using List.all_eq_true.1 hall t ht

set_option maxRecDepth 100000 in
/-- What the walk gives, for every argument and every world that holds the table. -/
theorem contract (H : Type) (enc : TypeId × Value → H) (W : World) (base : Nat) (args : Array Value) (ds gs : List (DataW H)) (before : List MemPlace)
    (hval : ∀ (j : Nat) t v, Tryd.f5.params[j]? = some t → args[j]? = some v → Value.okWide Tryd.prog W .any base t v)
    (hW : DataW.Whole enc Tryd.prog Tryd.f5.params.toList Rows.loadFirstSpec.vars false W args.toList ds gs before) (_ : laidMetH Tryd.prog Rows.loadFirstRow.laid W) :
    Calls Tryd.prog 5 args W fun e W' => ∃ v, e = .returned v ∧ Rows.loadFirstSpec.post enc Tryd.prog Tryd.f5 false true false false W args v W' := by
  have hW' := hW
  obtain ⟨p, q, hA0, hV, rfl, hfz, hnd⟩ := hW
  have hA : DataW.TrodAll enc Tryd.prog W 0 (fun _ => true) true Tryd.f5.params.toList args.toList ds p := hA0
  rw [Tryd.params5] at hA hval
  obtain ⟨v0, vs0, d0, ds0, p0, q0, hargs, rfl, rfl, h0, r0⟩ := trodAll_cons hA
  obtain ⟨rfl, rfl, rfl⟩ := trodAll_nil r0
  obtain rfl : args = #[v0] := by cases args; simp_all
  obtain ⟨rfl, rfl⟩ := trodVars_none hV
  obtain ⟨A, c, xs, s, B, d, l, C, e, u, t, rfl, hc, hm, hx, hd, hmd, hl, hsh, _, _, _, _, _, _⟩ := open_ask (hval 0 26 v0 rfl rfl) h0
  clear hA0
  refine (walk A B C c d e u.length xs s t l  W hc hm hx hd hmd hl hsh).mono fun e W' ⟨he, hb⟩ => ?_
  subst he
  exact ⟨_, rfl, law_post rfl (by rw [Tryd.params5]; exact parOk) rfl hW' rfl rfl rfl hb⟩

set_option maxRecDepth 100000 in
theorem laid_met (os : Os) : laidMet Tryd.prog Rows.loadFirstRow.laid ((laidWorld os).forCall (fun _ _ => 0) ⟨#[], #[.agg #[.slice none 0 0, .int .i64 0, .slice none 0 0, .slice none 0 0, .int .i64 0]], []⟩).memory :=
  laidMet_of_run' 8 (by kernel_rfl) (by kernel_rfl)
set_option maxRecDepth 100000 in
theorem reads (os : Os) {H : Type} (enc : TypeId × Value → H) : ∃ places, DataW.whole enc Tryd.prog ((laidWorld os).forCall (fun _ _ => 0) ⟨#[], #[.agg #[.slice none 0 0, .int .i64 0, .slice none 0 0, .slice none 0 0, .int .i64 0]], []⟩).memory Tryd.f5.params.toList Rows.loadFirstSpec.vars false (#[.agg #[.slice none 0 0, .int .i64 0, .slice none 0 0, .slice none 0 0, .int .i64 0]] : Array Value).toList 8 = some ([.agg [.nil, .lit (.int .i64 0), .nil, .nil, .lit (.int .i64 0)]], [], places) :=
  ⟨[], by kernel_rfl⟩

set_option maxRecDepth 100000 in
theorem lifted (os : Os) (started : os.Started) (H : Type) (enc : TypeId × Value → H) (F : Stop.Interp) :
    ReturnsInHanded {} Tryd.checked os 5 .any ((OpenSpec.ofChange Rows.loadFirstSpec).preRow enc Tryd.prog Tryd.f5 Rows.loadFirstRow.domain false Rows.loadFirstRow.laid) (((OpenSpec.ofChange Rows.loadFirstSpec).at F).post enc Tryd.prog Tryd.f5 false true false false) := by
  obtain ⟨places, hx⟩ := reads os enc
  refine returnsInHanded_of_row (C := Tryd.checked) (s := OpenSpec.ofChange Rows.loadFirstSpec) own started (by kernel_rfl) Tryd.func5
    (witness_row_at (enc := enc) (C := Tryd.checked) false (laidWorld os) #[.agg #[.slice none 0 0, .int .i64 0, .slice none 0 0, .slice none 0 0, .int .i64 0]] rfl (by kernel_rfl) (by kernel_rfl) (by kernel_rfl)
      (OpenSpec.preRow_of_cond 8 hx (by kernel_rfl) (fun k hk => by cases hk) (by kernel_rfl) (laid_met os))) ?_
  intro W base args ds gs before hval hW _ _ _ hL _ _
  exact contract H enc W base args ds gs before hval hW hL

theorem said : Rows.LoadFirstSaid :=
  OpenClaim.holds_of_cond 5 Tryd.f5 rfl rfl rfl rfl rfl rfl rfl ⟨rfl, rfl, rfl, rfl, rfl⟩ rfl rfl rfl rfl rfl (by kernel_rfl) Tryd.func5 (by kernel_rfl)
    (of_decide_eq_true (by kernel_rfl)) (by unfold Func.isWrapper; first | (rw [if_pos (by decide +kernel)]; kernel_rfl) | (rw [if_neg (by decide +kernel)]; exact ⟨rfl, rfl⟩))
    (fun os started H enc _ F => by rw [OpenClaim.pre_eq_preRow]; exact lifted os started H enc F)

set_option maxRecDepth 100000 in
/-- No parameter wants a stand-in; the program's own looks are off. -/
theorem plain (f : FuncId) (fn : Func) (hf : Tryd.pinned.checked.prog.funcNamed "tattle/tattlelaw14.LoadFirst" = some f) (hfn : Tryd.pinned.checked.prog.funcs[f]? = some fn) :
    false = Tryd.pinned.checked.prog.looks [] ∧ ∀ (j : Nat) t, fn.params[j]? = some t → Tryd.pinned.checked.prog.wantsStandIn t = false := by
  obtain rfl : f = 5 := Option.some.inj ((show Tryd.prog.funcNamed "tattle/tattlelaw14.LoadFirst" = some 5 by kernel_rfl).symm.trans hf) |>.symm
  obtain rfl : fn = Tryd.f5 := (Option.some.inj (Tryd.func5.symm.trans hfn)).symm
  refine ⟨by kernel_rfl, fun j t ht => ?_⟩
  rw [Tryd.params5] at ht
  have hm : t ∈ [26] := by simpa using Array.mem_of_getElem? ht
  have hall : ([26].all fun u => !Tryd.prog.wantsStandIn u) = true := by kernel_rfl
  exact (show Tryd.prog.wantsStandIn t = false by simpa using List.all_eq_true.1 hall t hm)

/-- THE CARD. -/
theorem card : Rows.LoadFirstCardSaid :=
  Claim7.holds_tied_plain_at .later [] _ _ _ _ said (fun _ h => by cases h) (by kernel_rfl) (fun _ h => by cases h) loadFirst_row_tie rfl ⟨rfl, rfl⟩ (by kernel_rfl) rfl plain (by kernel_rfl)
end Go.Proofs.YthcjjogomknddaaDoor.lawFirst
