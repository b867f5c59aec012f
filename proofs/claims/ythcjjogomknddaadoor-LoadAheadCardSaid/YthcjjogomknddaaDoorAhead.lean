/-
  LoadAhead: tasks that come first are put as if those behind them were not there, where the bound is the same: the law returns true for every input.
-/
import Derived.Test.YthcjjogomknddaaDoorLp
import Derived.Deep.LoopGhost
import Derived.Test.YthcjjogomknddaaDoorCards
import Derived.Test.YthcjjogomknddaaDoorTie
namespace Go.Proofs.YthcjjogomknddaaDoor.lawAhead
open Go.ChangeMaps (open_string)
open Go.Sort Go.ChangeShapes Go.WideShapes Go.ChangeAt Go.RowKit Go.Joins Go.Proofs.YthcjjogomknddaaDoor.Pure

set_option maxRecDepth 100000 in
set_option maxHeartbeats 4000000 in
theorem walk (A B C : Option Addr) (c d e k : Nat) (xs : List Int) (s t : Int) (l : List ByteArray)  (w : World) (hc : xs.length ≤ c) (hm : c ≤ maxLen) (hx : Has w 0 w.heap.size A xs) (hd : l.length ≤ d) (hmd : d ≤ maxLen) (hl : Ss w B l) (hsh : Shrt l)  :
    Calls Tryd.prog 7 #[.agg #[.slice A xs.length c, .int .i64 s, .slice B l.length d, .slice C k e, .int .i64 t]] w fun e w' => e = .returned (.bool true) ∧ Below w.heap.size w w' := by
  have HX : Hid (∀ W, Below w.heap.size w W → Has W 0 w.heap.size A xs) := Lib.hid (fun W hb => hx.on hb (Nat.le_refl _))
  have HL : Hid (∀ W, Below w.heap.size w W → Ss W B l) := Lib.hid (fun W hb => hl.on hb)
  have HB1 : Hid (Below w.heap.size w (w.alloc (.cells #[.slice A xs.length c, .int .i64 s, .slice B l.length d, .slice C k e, .int .i64 t] 26))) := Lib.hid ((Below.refl _ w).alloc (Nat.le_refl _) _)
  have HQ1 : Hid (Ab (w.alloc (.cells #[.slice A xs.length c, .int .i64 s, .slice B l.length d, .slice C k e, .int .i64 t] 26)) w.heap.size (.slice A xs.length c) (.int .i64 s) (.slice B l.length d) (.slice C k e) (.int .i64 t)) := Lib.hid (Ab.new w A B C xs.length l.length k c d e s t)
  have HLA : Hid (∀ (L : Bool), (L = true ↔ Lgt xs s l) → ∀ W, Below w.heap.size w W → Calls Tryd.prog 24 #[.agg #[.slice A xs.length c, .int .i64 s, .slice B l.length d, .slice C k e, .int .i64 t]] W fun e w' => e = .returned (.bool L) ∧ Below W.heap.size W w') := Lib.hid (fun L hL W hb => light_any A B C c d e k xs s t l W ((hx.on hb (Nat.le_refl _)).wide (Nat.zero_le _) hb.size) (hl.on hb) hsh L hL)
  by_cases hg : Lgt xs s l
  rotate_left
  · have HLT := Lib.hid (HLA.out false ⟨fun e => (by cases e), fun h => absurd h hg⟩)
    clear hx hl hsh HX HL hg HLA
    go_enter Tryd.func7, Tryd.ntmps7
    go_upto_region 1 with (fail)
    generalize w.alloc (.cells #[.slice A xs.length c, .int .i64 s, .slice B l.length d, .slice C k e, .int .i64 t] 26) = w1 at *
    obtain ⟨a0, a1, a2, a3, a4⟩ := HQ1.out
    go_wp2_with fail
    refine (HLT.out _ HB1.out).mono ?_
    rintro e w2 ⟨rfl, hb2⟩
    obtain ⟨a0, a1, a2, a3, a4⟩ := HQ1.out.on hb2
    have HB2 := Lib.hid (HB1.out.trans (hb2.mono HB1.out.size))
    go_wp2_with fail
    refine (awake_any _).mono ?_
    rintro e w9 ⟨rfl, hb9⟩
    go_wp2_with fail
    go_ret
    exact ⟨rfl, HB2.out.trans (hb9.mono HB2.out.size)⟩
  have HLT := Lib.hid (HLA.out true (iff_of_true rfl hg))
  obtain ⟨s, rfl⟩ := Int.eq_ofNat_of_zero_le (show 0 ≤ s by have := hg.s1; omega)
  have hs1 : 1 ≤ s := by have := hg.s1; omega
  have hs8 : s ≤ 8 := by have := hg.s8; omega
  have hx1 := hg.x1
  have hx6 := hg.x6
  have hl20 := hg.l20
  have hle : l.length ≤ 100 := by omega
  have HAS := Lib.hid (fun (W : World) (hb : Below w.heap.size w W) => assign_yes A B c d 0 w.heap.size xs s l W (hx.on hb (Nat.le_refl _)) hb.size (hl.on hb) hsh hg.nod hg.x1 hs1 (by omega) hg.tsk)
  have hbm := bound_more (t := l.length - 1) (u := l.length) (n := xs.length) hx1 (by omega)
  have HB1D := Lib.hid (fun (W : World) => bound_yes l.length xs.length W hle hx1 (by omega))
  have HB2D := Lib.hid (fun (W : World) => bound_yes (l.length - 1) xs.length W (by omega) hx1 (by omega))
  clear hx hl HLA
  go_enter Tryd.func7, Tryd.ntmps7
  go_upto_region 1 with (fail)
  generalize w.alloc (.cells #[.slice A xs.length c, .int .i64 s, .slice B l.length d, .slice C k e, .int .i64 t] 26) = w1 at *
  obtain ⟨a0, a1, a2, a3, a4⟩ := HQ1.out
  go_wp2_with fail
  refine (HLT.out _ HB1.out).mono ?_
  rintro e w2 ⟨rfl, hb⟩
  have B_1 := Lib.hid (HB1.out.trans (hb.mono HB1.out.size))
  have Q_1 := Lib.hid (HQ1.out.on hb)
  clear HB1 HQ1
  clear hb HLT a0 a1 a2 a3 a4
  obtain ⟨a0, a1, a2, a3, a4⟩ := Q_1.out
  by_cases h0 : l.length = 0
  · have e1 : ((l.length : Int) == 0) = true := by rw [beq_iff_eq]; omega
    have e1' : (l.length == 0) = true := by rw [beq_iff_eq]; omega
    clear h0 HAS HB1D HB2D hbm
    go_wp2_with fail
    refine (awake_any _).mono ?_
    rintro e w9 ⟨rfl, hb9⟩
    go_wp2_with fail
    go_ret
    exact ⟨rfl, B_1.out.trans (hb9.mono B_1.out.size)⟩
  have e1 : ((l.length : Int) == 0) = false := by rw [beq_eq_false_iff_ne]; omega
  have e1' : (l.length == 0) = false := by rw [beq_eq_false_iff_ne]; exact h0
  obtain ⟨K1, hK1⟩ : ∃ K1, l.length - 1 = K1 := ⟨_, rfl⟩
  have hKl : l.length = K1 + 1 := by omega
  have wk : IntKind.i64.wrap ((l.length : Int) - 1) = (K1 : Int) := by rw [IntWalk.i64_in _ (by omega)]; omega
  have wk2 : IntKind.i64.wrap ((K1 : Int) + 1) = (l.length : Int) := by rw [IntWalk.i64_in _ (by omega)]; omega
  rw [hK1] at HB2D hbm
  have hbl2 := bound_le (t := K1) (n := xs.length) hx1
  have hbn := bound_next (t := K1) (n := xs.length) hx1
  rw [← hKl] at hbn
  obtain ⟨aB, rfl, _, _⟩ := (HL.out _ B_1.out) 0 (by omega)
  have HLK : Hid (∀ W, Below w.heap.size w W → Ss W (some aB) (l.take K1)) := Lib.hid (fun W hb => (HL.out W hb).take K1)
  have hlk : (l.take K1).length = K1 := by rw [List.length_take]; omega
  have HAS2 := Lib.hid (fun (W : World) (hb : Below w.heap.size w W) => assign_yes A (some aB) c d 0 w.heap.size xs s (l.take K1) W (HX.out W hb) hb.size (HLK.out W hb) (hsh.take K1) hg.nod hg.x1 hs1 (by omega) (tsk_take hg.tsk K1))
  rw [hlk] at HAS2
  have HRl := Lib.hid (lb_len xs s l)
  have HR2l : Hid ((asgA2 xs s (l.take K1)).length = K1) := Lib.hid (by rw [lb_len, hlk])
  have HEQ : Hid (boundN l.length xs.length = boundN K1 xs.length → (asgA2 xs s l).take K1 = asgA2 xs s (l.take K1)) := Lib.hid (fun hb => lb_ahead xs s l K1 (by omega) hb)
  have HEK : Hid (l.length = K1 + 1) := Lib.hid hKl
  generalize asgA2 xs s (l.take K1) = R2 at *
  generalize asgA2 xs s l = R at *
  generalize boundN l.length xs.length = M1 at *
  generalize boundN K1 xs.length = M2 at *
  obtain ⟨M3, hM3⟩ : ∃ M3, M3 = M2 + 2 := ⟨_, rfl⟩
  obtain ⟨M3, hM3⟩ : ∃ M3, M3 = M2 + 2 := ⟨_, rfl⟩
  have wm : IntKind.i64.wrap ((M2 : Int) + 2) = (M3 : Int) := by rw [IntWalk.i64_in _ (by omega)]; omega
  have c1 : decide ((M1 : Int) < (M2 : Int)) = false := decide_eq_false (by omega)
  have c1' : decide (M1 < M2) = false := decide_eq_false (by omega)
  have c2 : decide ((M3 : Int) < (M1 : Int)) = false := decide_eq_false (by omega)
  have c2' : decide (M3 < M1) = false := decide_eq_false (by omega)
  have t0 : (0 : Int) ≤ (K1 : Int) := by omega
  have t1 : K1 ≤ d := by omega
  have t1' : (K1 : Int) ≤ (d : Int) := by omega
  have t2 : decide ((K1 : Int) ≤ (d : Int)) = true := decide_eq_true t1'
  have t3 : d ≤ 9223372036854775807 := by unfold maxLen at hmd; omega
  have HK20 : Hid (K1 ≤ 100) := Lib.hid (by omega)
  clear hg hsh h0 hK1 hKl hbn hbm hM3 hlk hbl2
  skip
  go_wp2_with fail
  refine (HAS.out _ B_1.out).mono ?_
  rintro e w4 ⟨v4, rfl, ho, hb⟩
  have B_2 := Lib.hid (B_1.out.trans (hb.mono B_1.out.size))
  have Q_2 := Lib.hid (Q_1.out.on hb)
  clear B_1 Q_1
  obtain ⟨AR, cR, rfl, hcR, huR⟩ := ho.lst
  have UR_3 := Lib.hid (huR)
  clear ho huR hb a0 a1 a2 a3 a4
  obtain ⟨a0, a1, a2, a3, a4⟩ := Q_2.out
  have HBd : Hid (Below w.heap.size w w4.drew) := Lib.hid (B_2.out.trans (below_drewN (Below.refl _ _) 1))
  have HQd : Hid (Ab w4.drew w.heap.size (.slice A xs.length c) (.int .i64 (s : Int)) (.slice (some aB) l.length d) (.slice C k e) (.int .i64 t)) := Lib.hid Q_2.out
  have HURd : Hid (Us w4.drew AR R) := Lib.hid UR_3.out
  go_upto_region 5 with (fail)
  refine z_enter [(0, true), (1, true), (2, true), (3, true), (4, true), (5, true), (6, true), (7, true), (8, false), (9, true), (10, true), (11, true), (12, true), (13, true)] (fun W => W.cell? ⟨w.heap.size, 0, none⟩ = some (.slice A xs.length c) ∧ W.cell? ⟨w.heap.size, 1, none⟩ = some (.int .i64 (s : Int)) ∧ W.cell? ⟨w.heap.size, 2, none⟩ = some (.slice (some aB) l.length d)) (by kernel_rfl) (by kernel_rfl) (by kernel_rfl) (fun _ _ d _ _ h => by cases d <;> exact h) ⟨HQd.out.1, HQd.out.2.1, HQd.out.2.2.1⟩ ?_
  simp only [pickL, List.drop_succ_cons, List.drop_zero]
  generalize w4.drew = wd at *
  clear B_2 Q_2 UR_3
  iterate 8 (first | (refine' z_yes ?_ (by rfl) ?_ ?_; rotate_left; (intro w' hS; (try dsimp only at hS); go_simp; try (with_reducible rfl)); simp only [Act.put, List.setIfInBounds_toArray, List.set_cons_zero, List.set_cons_succ]) | (refine z_no (by rfl) ?_; simp only [Act.put, List.setIfInBounds_toArray, List.set_cons_zero, List.set_cons_succ]))
  refine z_mem ?_
  intro K hK
  go_simp
  refine (HAS2.out _ HBd.out).mono ?_
  rintro e w5 ⟨v5, rfl, ho, hb⟩
  have B_4 := Lib.hid (HBd.out.trans (hb.mono HBd.out.size))
  have Q_4 := Lib.hid (HQd.out.on hb)
  have UR_4 := Lib.hid (HURd.out.on hb)
  clear HBd HQd HURd
  obtain ⟨A5, c5, rfl, hc5, hu5⟩ := ho.lst
  have U5_5 := Lib.hid (hu5)
  clear ho hu5 hb HAS2
  refine hK.out _ _ ⟨Q_4.out.1, Q_4.out.2.1, Q_4.out.2.2.1⟩ ?_
  clear hK
  iterate 5 (first | (refine' z_yes ?_ (by rfl) ?_ ?_; rotate_left; (intro w' hS; (try dsimp only at hS); go_simp; try (with_reducible rfl)); simp only [Act.put, List.setIfInBounds_toArray, List.set_cons_zero, List.set_cons_succ]) | (refine z_no (by rfl) ?_; simp only [Act.put, List.setIfInBounds_toArray, List.set_cons_zero, List.set_cons_succ]))
  refine z_nil ?_
  clear a0 a1 a2 a3 a4
  obtain ⟨a0, a1, a2, a3, a4⟩ := Q_4.out
  go_wp2_with fail
  refine (HB1D.out _).mono ?_
  rintro e w6 ⟨rfl, rfl⟩
  go_wp2_with fail
  refine (HB2D.out _).mono ?_
  rintro e w6 ⟨rfl, rfl⟩
  have f1 : ((R.length : Int) != (l.length : Int)) = false := by rw [HRl.out]; simp
  have f1' : (R.length != l.length) = false := by rw [HRl.out]; simp
  have hRK : K1 ≤ cR := by have := HRl.out; have := HEK.out; omega
  have HS := Lib.hid (fun (A : Option Addr) (h : M1 = M2) (hh : Us w5 A R) => same_puts A A5 cR c5 (R.take K1) R2 w5 (by rw [List.length_take]; have := HK20.out; have := Nat.min_le_left K1 R.length; omega) (hh.take K1) U5_5.out true (by rw [HEQ.out h]; simp))
  have hlR : (R.take K1).length = K1 := by rw [List.length_take]; have := HRl.out; have := HEK.out; omega
  rw [hlR] at HS
  have HSR := Lib.hid HR2l.out
  by_cases hm : M1 = M2
  · have d1 : ((M1 : Int) != (M2 : Int)) = false := by rw [hm]; simp
    have d1' : (M1 != M2) = false := by rw [hm]; simp
    obtain ⟨aR, eR, _, _⟩ : ∃ aR, AR = some aR ∧ True ∧ True := by
      rcases AR with _ | aR
      · have := (UR_4.out).none_nil; have h2 := HRl.out; rw [this] at h2; have := HEK.out; simp at h2; omega
      · exact ⟨aR, rfl, trivial, trivial⟩
    subst eR
    have HS2 := Lib.hid (HS.out _ hm UR_4.out)
    have cR1 : (K1 : Int) ≤ (cR : Int) := by omega
    have cR2 : decide ((K1 : Int) ≤ (cR : Int)) = true := decide_eq_true cR1
    clear hm HS
    go_wp2_with fail
    refine HS2.out.mono ?_
    rintro e w7 ⟨rfl, hb⟩
    have B_6 := Lib.hid (B_4.out.trans (hb.mono B_4.out.size))
    have Q_6 := Lib.hid (Q_4.out.on hb)
    have UR_6 := Lib.hid (UR_4.out.on hb)
    have U5_6 := Lib.hid (U5_5.out.on hb)
    clear B_4 Q_4 UR_4 U5_5
    clear hb HS2
    go_wp2_with fail
    refine (awake_any _).mono ?_
    rintro e w9 ⟨rfl, hb9⟩
    go_wp2_with fail
    go_ret
    exact ⟨rfl, B_6.out.trans (hb9.mono B_6.out.size)⟩
  · have d1 : ((M1 : Int) != (M2 : Int)) = true := by simp; omega
    have d1' : (M1 != M2) = true := by simp; omega
    clear hm HS
    go_wp2_with fail
    refine (awake_any _).mono ?_
    rintro e w9 ⟨rfl, hb9⟩
    go_wp2_with fail
    go_ret
    exact ⟨rfl, B_4.out.trans (hb9.mono B_4.out.size)⟩

theorem parOk : ∀ t ∈ (#[26] : Array TypeId).toList, Tryd.prog.readableRec t = true ∧ t < Tryd.prog.types.size := by
  have hall : ([26].all fun t => Tryd.prog.readableRec t && decide (t < Tryd.prog.types.size)) = true := by kernel_rfl
  intro t ht
  simpa using List.all_eq_true.1 hall t ht

set_option maxRecDepth 100000 in
/-- What the walk gives, for every argument and every world that holds the table. -/
theorem contract (H : Type) (enc : TypeId × Value → H) (W : World) (base : Nat) (args : Array Value) (ds gs : List (DataW H)) (before : List MemPlace)
    (hval : ∀ (j : Nat) t v, Tryd.f7.params[j]? = some t → args[j]? = some v → Value.okWide Tryd.prog W .any base t v)
    (hW : DataW.Whole enc Tryd.prog Tryd.f7.params.toList Rows.loadAheadSpec.vars false W args.toList ds gs before) (_ : laidMetH Tryd.prog Rows.loadAheadRow.laid W) :
    Calls Tryd.prog 7 args W fun e W' => ∃ v, e = .returned v ∧ Rows.loadAheadSpec.post enc Tryd.prog Tryd.f7 false true false false W args v W' := by
  have hW' := hW
  obtain ⟨p, q, hA0, hV, rfl, hfz, hnd⟩ := hW
  have hA : DataW.TrodAll enc Tryd.prog W 0 (fun _ => true) true Tryd.f7.params.toList args.toList ds p := hA0
  rw [Tryd.params7] at hA hval
  obtain ⟨v0, vs0, d0, ds0, p0, q0, hargs, rfl, rfl, h0, r0⟩ := trodAll_cons hA
  obtain ⟨rfl, rfl, rfl⟩ := trodAll_nil r0
  obtain rfl : args = #[v0] := by cases args; simp_all
  obtain ⟨rfl, rfl⟩ := trodVars_none hV
  obtain ⟨A, c, xs, s, B, d, l, C, e, u, t, rfl, hc, hm, hx, hd, hmd, hl, hsh, _, _, _, _, _, _⟩ := open_ask (hval 0 26 v0 rfl rfl) h0
  clear hA0
  refine (walk A B C c d e u.length xs s t l  W hc hm hx hd hmd hl hsh).mono fun e W' ⟨he, hb⟩ => ?_
  subst he
  exact ⟨_, rfl, law_post rfl (by rw [Tryd.params7]; exact parOk) rfl hW' rfl rfl rfl hb⟩

set_option maxRecDepth 100000 in
theorem laid_met (os : Os) : laidMet Tryd.prog Rows.loadAheadRow.laid ((laidWorld os).forCall (fun _ _ => 0) ⟨#[], #[.agg #[.slice none 0 0, .int .i64 0, .slice none 0 0, .slice none 0 0, .int .i64 0]], []⟩).memory :=
  laidMet_of_run' 8 (by kernel_rfl) (by kernel_rfl)
set_option maxRecDepth 100000 in
theorem reads (os : Os) {H : Type} (enc : TypeId × Value → H) : ∃ places, DataW.whole enc Tryd.prog ((laidWorld os).forCall (fun _ _ => 0) ⟨#[], #[.agg #[.slice none 0 0, .int .i64 0, .slice none 0 0, .slice none 0 0, .int .i64 0]], []⟩).memory Tryd.f7.params.toList Rows.loadAheadSpec.vars false (#[.agg #[.slice none 0 0, .int .i64 0, .slice none 0 0, .slice none 0 0, .int .i64 0]] : Array Value).toList 8 = some ([.agg [.nil, .lit (.int .i64 0), .nil, .nil, .lit (.int .i64 0)]], [], places) :=
  ⟨[], by kernel_rfl⟩

set_option maxRecDepth 100000 in
theorem lifted (os : Os) (started : os.Started) (H : Type) (enc : TypeId × Value → H) (F : Stop.Interp) :
    ReturnsInHanded {} Tryd.checked os 7 .any ((OpenSpec.ofChange Rows.loadAheadSpec).preRow enc Tryd.prog Tryd.f7 Rows.loadAheadRow.domain false Rows.loadAheadRow.laid) (((OpenSpec.ofChange Rows.loadAheadSpec).at F).post enc Tryd.prog Tryd.f7 false true false false) := by
  obtain ⟨places, hx⟩ := reads os enc
  refine returnsInHanded_of_row (C := Tryd.checked) (s := OpenSpec.ofChange Rows.loadAheadSpec) own started (by kernel_rfl) Tryd.func7
    (witness_row_at (enc := enc) (C := Tryd.checked) false (laidWorld os) #[.agg #[.slice none 0 0, .int .i64 0, .slice none 0 0, .slice none 0 0, .int .i64 0]] rfl (by kernel_rfl) (by kernel_rfl) (by kernel_rfl)
      (OpenSpec.preRow_of_cond 8 hx (by kernel_rfl) (fun k hk => by cases hk) (by kernel_rfl) (laid_met os))) ?_
  intro W base args ds gs before hval hW _ _ _ hL _ _
  exact contract H enc W base args ds gs before hval hW hL

theorem said : Rows.LoadAheadSaid :=
  OpenClaim.holds_of_cond 7 Tryd.f7 rfl rfl rfl rfl rfl rfl rfl ⟨rfl, rfl, rfl, rfl, rfl⟩ rfl rfl rfl rfl rfl (by kernel_rfl) Tryd.func7 (by kernel_rfl)
    (of_decide_eq_true (by kernel_rfl)) (by unfold Func.isWrapper; first | (rw [if_pos (by decide +kernel)]; kernel_rfl) | (rw [if_neg (by decide +kernel)]; exact ⟨rfl, rfl⟩))
    (fun os started H enc _ F => by rw [OpenClaim.pre_eq_preRow]; exact lifted os started H enc F)

set_option maxRecDepth 100000 in
/-- No parameter wants a stand-in; the program's own looks are off. -/
theorem plain (f : FuncId) (fn : Func) (hf : Tryd.pinned.checked.prog.funcNamed "tattle/tattlelaw14.LoadAhead" = some f) (hfn : Tryd.pinned.checked.prog.funcs[f]? = some fn) :
    false = Tryd.pinned.checked.prog.looks [] ∧ ∀ (j : Nat) t, fn.params[j]? = some t → Tryd.pinned.checked.prog.wantsStandIn t = false := by
  obtain rfl : f = 7 := Option.some.inj ((show Tryd.prog.funcNamed "tattle/tattlelaw14.LoadAhead" = some 7 by kernel_rfl).symm.trans hf) |>.symm
  obtain rfl : fn = Tryd.f7 := (Option.some.inj (Tryd.func7.symm.trans hfn)).symm
  refine ⟨by kernel_rfl, fun j t ht => ?_⟩
  rw [Tryd.params7] at ht
  have hm : t ∈ [26] := by simpa using Array.mem_of_getElem? ht
  have hall : ([26].all fun u => !Tryd.prog.wantsStandIn u) = true := by kernel_rfl
  exact (show Tryd.prog.wantsStandIn t = false by simpa using List.all_eq_true.1 hall t hm)

/-- THE CARD. -/
theorem card : Rows.LoadAheadCardSaid :=
  Claim7.holds_tied_plain_at .later [] _ _ _ _ said (fun _ h => by cases h) (by kernel_rfl) (fun _ h => by cases h) loadAhead_row_tie rfl ⟨rfl, rfl⟩ (by kernel_rfl) rfl plain (by kernel_rfl)
end Go.Proofs.YthcjjogomknddaaDoor.lawAhead
