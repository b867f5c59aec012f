/-
  LoadOne: a task by itself is put on the first node of its walk; all tasks on one node are put there: the law returns true for every input.
-/
import Derived.Test.YthcjjogomknddaaDoorLp
import Derived.Deep.LoopGhost
import Derived.Test.YthcjjogomknddaaDoorCards
import Derived.Test.YthcjjogomknddaaDoorTie
namespace Go.Proofs.YthcjjogomknddaaDoor.lawOne
open Go.ChangeMaps (open_string)
open Go.Sort Go.ChangeShapes Go.WideShapes Go.ChangeAt Go.RowKit Go.Joins Go.Proofs.YthcjjogomknddaaDoor.Pure

set_option maxRecDepth 100000 in
set_option maxHeartbeats 4000000 in
theorem walk (A B C : Option Addr) (c d e k : Nat) (xs : List Int) (s t : Int) (l : List ByteArray) (wn : Nat) (w : World) (hc : xs.length ≤ c) (hm : c ≤ maxLen) (hx : Has w 0 w.heap.size A xs) (hd : l.length ≤ d) (hmd : d ≤ maxLen) (hl : Ss w B l) (hsh : Shrt l) (hwn : wn ≤ 255) :
    Calls Tryd.prog 6 #[.agg #[.slice A xs.length c, .int .i64 s, .slice B l.length d, .slice C k e, .int .i64 t], .int .u8 (wn : Int)] w fun e w' => e = .returned (.bool true) ∧ Below w.heap.size w w' := by
  have HX : Hid (∀ W, Below w.heap.size w W → Has W 0 w.heap.size A xs) := Lib.hid (fun W hb => hx.on hb (Nat.le_refl _))
  have HL : Hid (∀ W, Below w.heap.size w W → Ss W B l) := Lib.hid (fun W hb => hl.on hb)
  have HB1 : Hid (Below w.heap.size w (w.alloc (.cells #[.slice A xs.length c, .int .i64 s, .slice B l.length d, .slice C k e, .int .i64 t] 26))) := Lib.hid ((Below.refl _ w).alloc (Nat.le_refl _) _)
  have HQ1 : Hid (Ab (w.alloc (.cells #[.slice A xs.length c, .int .i64 s, .slice B l.length d, .slice C k e, .int .i64 t] 26)) w.heap.size (.slice A xs.length c) (.int .i64 s) (.slice B l.length d) (.slice C k e) (.int .i64 t)) := Lib.hid (Ab.new w A B C xs.length l.length k c d e s t)
  have HLA : Hid (∀ (L : Bool), (L = true ↔ Lgt xs s l) → ∀ W, Below w.heap.size w W → Calls Tryd.prog 24 #[.agg #[.slice A xs.length c, .int .i64 s, .slice B l.length d, .slice C k e, .int .i64 t]] W fun e w' => e = .returned (.bool L) ∧ Below W.heap.size W w') := Lib.hid (fun L hL W hb => light_any A B C c d e k xs s t l W ((hx.on hb (Nat.le_refl _)).wide (Nat.zero_le _) hb.size) (hl.on hb) hsh L hL)
  by_cases hg : Lgt xs s l
  rotate_left
  · have HLT := Lib.hid (HLA.out false ⟨fun e => (by cases e), fun h => absurd h hg⟩)
    clear hx hl hsh HX HL hg HLA
    go_enter Tryd.func6, Tryd.ntmps6
    go_upto_region 1 with (fail)
    generalize w.alloc (.cells #[.slice A xs.length c, .int .i64 s, .slice B l.length d, .slice C k e, .int .i64 t] 26) = w1 at *
    obtain ⟨a0, a1, a2, a3, a4⟩ := HQ1.out
    go_wp2_with fail
    refine (HLT.out _ HB1.out).mono ?_
    rintro e w2 ⟨rfl, hb2⟩
    obtain ⟨a0, a1, a2, a3, a4⟩ := HQ1.out.on hb2
    have HB2 := Lib.hid (HB1.out.trans (hb2.mono HB1.out.size))
    go_wp2_with fail
    refine (awake_any _).mono ?_
    rintro e w9 ⟨rfl, hb9⟩
    go_wp2_with fail
    go_ret
    exact ⟨rfl, HB2.out.trans (hb9.mono HB2.out.size)⟩
  have HLT := Lib.hid (HLA.out true (iff_of_true rfl hg))
  obtain ⟨s, rfl⟩ := Int.eq_ofNat_of_zero_le (show 0 ≤ s by have := hg.s1; omega)
  have hs1 : 1 ≤ s := by have := hg.s1; omega
  have hs8 : s ≤ 8 := by have := hg.s8; omega
  have hx1 := hg.x1
  have hx6 := hg.x6
  have hl20 := hg.l20
  have hle : l.length ≤ 100 := by omega
  have HRP := Lib.hid (fun (W : World) (hb : Below w.heap.size w W) => rpoints_any A c 0 w.heap.size xs s W (hx.on hb (Nat.le_refl _)) hb.size (nodesB_nums hg.nod) (by omega))
  rw [foldI_pts (nodesB_nums hg.nod)] at HRP
  have hpl : (ptsP xs s).length ≤ 100000 := by rw [pts_len]; have := Nat.mul_le_mul hx6 hs8; omega
  have hpl0 : 0 < (ptsP xs s).length := by rw [pts_len]; exact Nat.mul_pos hx1 hs1
  have HRW := Lib.hid (fun (tt : ByteArray) (AP : Option Addr) (cP : Nat) (W : World) (hp : Ps W AP (ptsP xs s)) (ht : tt.size ≤ 300) => rwalk_any AP cP (ptsP xs s) tt W hpl hp (pts_rise (nodesB_nums hg.nod) s) hpl0 ht)
  clear hx hl HLA
  go_enter Tryd.func6, Tryd.ntmps6
  go_upto_region 1 with (fail)
  generalize w.alloc (.cells #[.slice A xs.length c, .int .i64 s, .slice B l.length d, .slice C k e, .int .i64 t] 26) = w1 at *
  obtain ⟨a0, a1, a2, a3, a4⟩ := HQ1.out
  go_wp2_with fail
  refine (HLT.out _ HB1.out).mono ?_
  rintro e w2 ⟨rfl, hb⟩
  have B_1 := Lib.hid (HB1.out.trans (hb.mono HB1.out.size))
  have Q_1 := Lib.hid (HQ1.out.on hb)
  clear HB1 HQ1
  clear hb HLT a0 a1 a2 a3 a4
  obtain ⟨a0, a1, a2, a3, a4⟩ := Q_1.out
  by_cases h0 : l.length = 0
  · have e1 : ((l.length : Int) == 0) = true := by rw [beq_iff_eq]; omega
    have e1' : (l.length == 0) = true := by rw [beq_iff_eq]; omega
    clear h0 HRP HRW
    go_wp2_with fail
    refine (awake_any _).mono ?_
    rintro e w9 ⟨rfl, hb9⟩
    go_wp2_with fail
    go_ret
    exact ⟨rfl, B_1.out.trans (hb9.mono B_1.out.size)⟩
  have e1 : ((l.length : Int) == 0) = false := by rw [beq_eq_false_iff_ne]; omega
  have e1' : (l.length == 0) = false := by rw [beq_eq_false_iff_ne]; exact h0
  have ez : ¬ l.length = 0 := h0
  obtain ⟨i, hi⟩ : ∃ i, wn % l.length = i := ⟨_, rfl⟩
  obtain ⟨n1, n2, n3, n4, n5⟩ := u8_mod wn i l.length hwn hi (by omega) (by omega)
  have n6 : IntKind.i64.wrap (wn : Int) = (wn : Int) := IntWalk.i64_in _ (by omega)
  have i0 : (0 : Int) ≤ (i : Int) := by omega
  have i1 : (i : Int) < (l.length : Int) := by omega
  clear hi
  obtain ⟨aB, rfl, hBo, b0⟩ := (HL.out _ B_1.out) i n5
  obtain ⟨x, r, hxw, hax⟩ := lb_one hg (ba l i)
  have HTS := Lib.hid (tsk_one hg.tsk n5)
  have HSZ := Lib.hid (shrt_of hg.tsk i n5)
  have hxs0 : xs.getD 0 0 ∈ xs := getD_mem xs 0 hx1
  have HAL := Lib.hid (lb_all hg _ hxs0)
  have hx0r := nodes_in hg.nod _ hxs0
  generalize ba l i = tt at *
  have HAS1 := Lib.hid (fun (W : World) (hb : Below w.heap.size w W) => assign_yes A (some ⟨W.heap.size, 0, none⟩) c 1 0 w.heap.size xs s [tt] (W.alloc (.cells #[.string tt] 9)) ((HX.out _ hb).alloc _ hb.size) (by have := hb.size; simp; omega) (Ss.one W tt _) (shrt_20 (shrt_of HTS.out)) hg.nod hg.x1 hs1 (by omega) HTS.out)
  rw [hax] at HAS1
  have HW1 := Lib.hid (fun (AP : Option Addr) (cP : Nat) (W : World) (hp : Ps W AP (ptsP xs s)) => HRW.out tt AP cP W hp (by have := HSZ.out; omega))
  have hxw2 : walkP (ptsP xs s) (sumK tt) = x :: r := hxw
  rw [hxw2] at HW1
  obtain ⟨y0, hy0⟩ : ∃ y0, xs.getD 0 0 = y0 := ⟨_, rfl⟩
  rw [hy0] at HAL hx0r
  have hx1h : ∀ W, Below w.heap.size w W → Has W 0 w.heap.size A [y0] := fun W hb j hj => by
    have hj0 : j = 0 := by simp at hj; omega
    subst hj0
    have := (HX.out W hb) 0 hx1
    rw [hy0] at this
    exact this
  have HAS2 := Lib.hid (fun (W : World) (hb : Below w.heap.size w W) => assign_yes A (some aB) c d 0 w.heap.size [y0] s l W (hx1h W hb) hb.size (HL.out W hb) hsh (nodes_one y0 hx0r) (by simp) hs1 (by omega) hg.tsk)
  have HR2l := Lib.hid (lb_len [y0] s l)
  generalize asgA2 [y0] s l = R2 at *
  have HR2c := Lib.hid (fun (A : Option Addr) (c : Nat) (W : World) (h : Us W A R2) => (cnt_any A c R2 y0 W (by rw [HR2l.out]; omega) h).mono fun e w' (hh : e = .returned (.int .i64 (cnt R2 y0 : Nat)) ∧ W = w') => (⟨hh.1, hh.2 ▸ Below.refl _ _⟩ : e = .returned (.int .i64 (cnt R2 y0 : Nat)) ∧ Below W.heap.size W w'))
  rw [HAL.out] at HR2c
  have HA0 := Lib.hid hx1h
  have hq := fun W => neq_pu ⟨tt, x⟩ ⟨tt, x⟩ W
  rw [decide_eq_true rfl] at hq
  obtain ⟨aA, rfl, _, _, _⟩ := (HX.out _ B_1.out) 0 hx1
  have cc0 : 1 ≤ c := by omega
  have cc1 : (1 : Int) ≤ (c : Int) := by omega
  have cc2 : decide ((1 : Int) ≤ (c : Int)) = true := decide_eq_true cc1
  have cc3 : c ≤ 9223372036854775807 := by unfold maxLen at hm; omega
  generalize ptsP xs s = PP at *
  clear hg hsh hwn hxs0 HAL hx0r hxw hax hxw2 hx1h hpl hpl0 HRW HTS HSZ hy0 hBo
  have B0 : ∀ p : Regrown, (grow (redrawn w2 p.d) p.os).cell? (aB.add i) = some (.string tt) := fun p => cell_regrown b0 p.d p.os
  have G2 : ∀ p : Regrown, (grow (redrawn w2 p.d) p.os).cell? ⟨w.heap.size, 2, none⟩ = some (.slice (some aB) l.length d) := fun p => cell_regrown a2 p.d p.os
  go_upto_region 3 with (fail)
  refine q_enter (by kernel_rfl) (by kernel_rfl) ?_
  iterate 11 (refine q_step ?_; intro K hK; go_simp; first | (refine hK _ ?_; clear hK K))
  refine q_nil ?_
  intro w3 hb
  have B_2 := Lib.hid (B_1.out.trans (hb.mono B_1.out.size))
  have Q_2 := Lib.hid (Q_1.out.on hb)
  clear B_1 Q_1
  clear hb B0 G2 b0 a0 a1 a2 a3 a4 n1 n2 n3 n4 n6 e1 e1'
  obtain ⟨a0, a1, a2, a3, a4⟩ := Q_2.out
  go_wp2_with fail
  refine (HAS1.out _ B_2.out).mono ?_
  rintro e w4 ⟨v4, rfl, ho, hb4⟩
  have hb : Below w3.heap.size w3 w4 := ((Below.refl _ w3).alloc (Nat.le_refl _) _).trans (hb4.mono (by simp))
  have B_3 := Lib.hid (B_2.out.trans (hb.mono B_2.out.size))
  have Q_3 := Lib.hid (Q_2.out.on hb)
  clear B_2 Q_2
  obtain ⟨A4, c4, rfl, hc4, hu4⟩ := ho.lst
  have U4_4 := Lib.hid (hu4)
  clear ho hu4 hb hb4 a0 a1 a2 a3 a4 HAS1
  obtain ⟨a0, a1, a2, a3, a4⟩ := Q_3.out
  go_wp2_with fail
  refine (HRP.out _ B_3.out).mono ?_
  rintro e w5 ⟨v5, rfl, ho, hb⟩
  have B_5 := Lib.hid (B_3.out.trans (hb.mono B_3.out.size))
  have Q_5 := Lib.hid (Q_3.out.on hb)
  have U4_5 := Lib.hid (U4_4.out.on hb)
  clear B_3 Q_3 U4_4
  obtain ⟨AP, cP, rfl, hcP, hp⟩ := ho.lst
  have P_6 := Lib.hid (hp)
  clear ho hp hb a0 a1 a2 a3 a4 HRP
  obtain ⟨a0, a1, a2, a3, a4⟩ := Q_5.out
  go_wp2_with fail
  refine (HW1.out _ _ _ P_6.out).mono ?_
  rintro e w6 ⟨v6, rfl, ho, hb⟩
  have B_7 := Lib.hid (B_5.out.trans (hb.mono B_5.out.size))
  have Q_7 := Lib.hid (Q_5.out.on hb)
  have U4_7 := Lib.hid (U4_5.out.on hb)
  have P_7 := Lib.hid (P_6.out.on hb)
  clear B_5 Q_5 U4_5 P_6
  clear P_7
  obtain ⟨A6, c6, rfl, hc6, hX6⟩ := ho.has
  clear ho hb a0 a1 a2 a3 a4 HW1
  obtain ⟨a0, a1, a2, a3, a4⟩ := Q_7.out
  obtain ⟨aU, rfl, hUo, h1⟩ := U4_7.out 0 (by simp)
  obtain ⟨u0, u1⟩ := h1.flat
  obtain ⟨aX, rfl, hXo, hXo2, x0⟩ := hX6 0 (by simp)
  have u0' : w6.cell? aU = some (.string tt) := u0
  have u1' : w6.cell? ⟨aU.block, aU.off + 1, none⟩ = some (.int .i64 x) := u1
  have x0' : w6.cell? aX = some (.int .i64 x) := x0
  have U0 : ∀ p : Regrown, (grow (redrawn w6 p.d) p.os).cell? aU = some (.string tt) := fun p => cell_regrown u0' p.d p.os
  have U1 : ∀ p : Regrown, (grow (redrawn w6 p.d) p.os).cell? ⟨aU.block, aU.off + 1, none⟩ = some (.int .i64 x) := fun p => cell_regrown u1' p.d p.os
  have X0 : ∀ p : Regrown, (grow (redrawn w6 p.d) p.os).cell? aX = some (.int .i64 x) := fun p => cell_regrown x0' p.d p.os
  clear h1 u0 u1 x0 u0' u1' x0' hX6
  clear U4_7
  go_upto_region 6 with (fail)
  refine q_enter (by kernel_rfl) (by kernel_rfl) ?_
  iterate 18 (refine q_step ?_; intro K hK; go_simp; first | (refine hK _ ?_; clear hK K))
  refine q_nil ?_
  intro w7 hb
  have B_8 := Lib.hid (B_7.out.trans (hb.mono B_7.out.size))
  have Q_8 := Lib.hid (Q_7.out.on hb)
  clear B_7 Q_7
  clear hb U0 U1 X0 a0 a1 a2 a3 a4 hq
  go_wp2_with fail
  have HBd : Hid (Below w.heap.size w w7.drew) := Lib.hid (B_8.out.trans (below_drewN (Below.refl _ _) 1))
  have HQd : Hid (Ab w7.drew w.heap.size (.slice (some aA) xs.length c) (.int .i64 (s : Int)) (.slice (some aB) l.length d) (.slice C k e) (.int .i64 t)) := Lib.hid Q_8.out
  go_upto_region 8 with (fail)
  refine z_enter [(0, true), (1, true), (2, true), (3, true), (4, true), (5, true), (6, true), (7, false), (8, true), (9, true), (10, true), (11, true), (12, true)] (fun W => W.cell? ⟨w.heap.size, 0, none⟩ = some (.slice (some aA) xs.length c) ∧ W.cell? ⟨w.heap.size, 1, none⟩ = some (.int .i64 (s : Int)) ∧ W.cell? ⟨w.heap.size, 2, none⟩ = some (.slice (some aB) l.length d)) (by kernel_rfl) (by kernel_rfl) (by kernel_rfl) (fun _ _ d _ _ h => by cases d <;> exact h) ⟨HQd.out.1, HQd.out.2.1, HQd.out.2.2.1⟩ ?_
  simp only [pickL, List.drop_succ_cons, List.drop_zero]
  generalize w7.drew = wd at *
  clear B_8 Q_8
  iterate 7 (first | (refine' z_yes ?_ (by rfl) ?_ ?_; rotate_left; (intro w' hS; (try dsimp only at hS); go_simp; try (with_reducible rfl)); simp only [Act.put, List.setIfInBounds_toArray, List.set_cons_zero, List.set_cons_succ]) | (refine z_no (by rfl) ?_; simp only [Act.put, List.setIfInBounds_toArray, List.set_cons_zero, List.set_cons_succ]))
  refine z_mem ?_
  intro K hK
  go_simp
  refine (HAS2.out _ HBd.out).mono ?_
  rintro e w8 ⟨v8, rfl, ho, hb⟩
  have B_9 := Lib.hid (HBd.out.trans (hb.mono HBd.out.size))
  have Q_9 := Lib.hid (HQd.out.on hb)
  clear HBd HQd
  obtain ⟨A8, c8, rfl, hc8, hu8⟩ := ho.lst
  have U8_10 := Lib.hid (hu8)
  clear ho hu8 hb HAS2
  refine hK.out _ _ ⟨Q_9.out.1, Q_9.out.2.1, Q_9.out.2.2.1⟩ ?_
  clear hK
  iterate 5 (first | (refine' z_yes ?_ (by rfl) ?_ ?_; rotate_left; (intro w' hS; (try dsimp only at hS); go_simp; try (with_reducible rfl)); simp only [Act.put, List.setIfInBounds_toArray, List.set_cons_zero, List.set_cons_succ]) | (refine z_no (by rfl) ?_; simp only [Act.put, List.setIfInBounds_toArray, List.set_cons_zero, List.set_cons_succ]))
  refine z_nil ?_
  obtain ⟨a0, a1, a2, a3, a4⟩ := Q_9.out
  have f1 : ((R2.length : Int) != (l.length : Int)) = false := by rw [HR2l.out]; simp
  have f1' : (R2.length != l.length) = false := by rw [HR2l.out]; simp
  go_wp2_with fail
  obtain ⟨_, eA, _, _, ha0⟩ := (HA0.out _ B_9.out) 0 (by simp)
  obtain rfl := Option.some.inj eA
  have ha0' : w8.cell? aA = some (.int .i64 y0) := ha0
  have G0 : ∀ p : Regrown, (grow (redrawn w8 p.d) p.os).cell? ⟨w.heap.size, 0, none⟩ = some (.slice (some aA) xs.length c) := fun p => cell_regrown a0 p.d p.os
  have G2 : ∀ p : Regrown, (grow (redrawn w8 p.d) p.os).cell? ⟨w.heap.size, 2, none⟩ = some (.slice (some aB) l.length d) := fun p => cell_regrown a2 p.d p.os
  have A0 : ∀ p : Regrown, (grow (redrawn w8 p.d) p.os).cell? aA = some (.int .i64 y0) := fun p => cell_regrown ha0' p.d p.os
  have HP1 := Lib.hid (fun p : Regrown => HR2c.out A8 c8 (grow (redrawn w8 p.d) p.os) (U8_10.out.on (below_regrown w8 p.d p.os)))
  have HP2 := Lib.hid (fun p : Regrown => awake_any (grow (redrawn w8 p.d) p.os))
  have xpos : 0 < xs.length := by omega
  have xpos2 : (0 : Int) < (xs.length : Int) := by omega
  have k1 : ((l.length : Int) == (l.length : Int)) = true := by simp
  have k1' : (l.length == l.length) = true := by simp
  clear ha0 ha0' a0 a1 a2 a3 a4 eA f1 f1'
  go_upto_region 11 with (fail)
  refine q_enter (by kernel_rfl) (by kernel_rfl) ?_
  iterate 14 (refine q_step ?_; intro K hK; go_simp; first | (refine hK _ ?_; clear hK K) | (refine ⟨_, fun p => Calls.regrown_of (by with_reducible exact HP1.out p), hK _ ?_⟩; clear hK K) | (refine ⟨_, fun p => Calls.regrown_of (by with_reducible exact HP2.out p), hK _ ?_⟩; clear hK K))
  refine q_nil ?_
  intro w9 hb
  go_wp2_with fail
  go_ret
  exact ⟨rfl, B_9.out.trans (hb.mono B_9.out.size)⟩

theorem parOk : ∀ t ∈ (#[26, 5] : Array TypeId).toList, Tryd.prog.readableRec t = true ∧ t < Tryd.prog.types.size := by
  have hall : ([26, 5].all fun t => Tryd.prog.readableRec t && decide (t < Tryd.prog.types.size)) = true := by kernel_rfl
  intro t ht
  simpa using List.all_eq_true.1 hall t ht

set_option maxRecDepth 100000 in
/-- What the walk gives, for every argument and every world that holds the table. -/
theorem contract (H : Type) (enc : TypeId × Value → H) (W : World) (base : Nat) (args : Array Value) (ds gs : List (DataW H)) (before : List MemPlace)
    (hval : ∀ (j : Nat) t v, Tryd.f6.params[j]? = some t → args[j]? = some v → Value.okWide Tryd.prog W .any base t v)
    (hW : DataW.Whole enc Tryd.prog Tryd.f6.params.toList Rows.loadOneSpec.vars false W args.toList ds gs before) (_ : laidMetH Tryd.prog Rows.loadOneRow.laid W) :
    Calls Tryd.prog 6 args W fun e W' => ∃ v, e = .returned v ∧ Rows.loadOneSpec.post enc Tryd.prog Tryd.f6 false true false false W args v W' := by
  have hW' := hW
  obtain ⟨p, q, hA0, hV, rfl, hfz, hnd⟩ := hW
  have hA : DataW.TrodAll enc Tryd.prog W 0 (fun _ => true) true Tryd.f6.params.toList args.toList ds p := hA0
  rw [Tryd.params6] at hA hval
  obtain ⟨v0, vs0, d0, ds0, p0, q0, hargs, rfl, rfl, h0, r0⟩ := trodAll_cons hA
  obtain ⟨v1, vs1, d1, ds1, p1, q1, rfl, rfl, rfl, h1, r1⟩ := trodAll_cons r0
  obtain ⟨rfl, rfl, rfl⟩ := trodAll_nil r1
  obtain rfl : args = #[v0, v1] := by cases args; simp_all
  obtain ⟨rfl, rfl⟩ := trodVars_none hV
  obtain ⟨A, c, xs, s, B, d, l, C, e, u, t, rfl, hc, hm, hx, hd, hmd, hl, hsh, _, _, _, _, _, _⟩ := open_ask (hval 0 26 v0 rfl rfl) h0
  obtain ⟨wn, rfl, hwn⟩ := open_u8 (hval 1 5 v1 rfl rfl) h1
  clear hA0
  refine (walk A B C c d e u.length xs s t l wn W hc hm hx hd hmd hl hsh hwn).mono fun e W' ⟨he, hb⟩ => ?_
  subst he
  exact ⟨_, rfl, law_post rfl (by rw [Tryd.params6]; exact parOk) rfl hW' rfl rfl rfl hb⟩

set_option maxRecDepth 100000 in
theorem laid_met (os : Os) : laidMet Tryd.prog Rows.loadOneRow.laid ((laidWorld os).forCall (fun _ _ => 0) ⟨#[], #[.agg #[.slice none 0 0, .int .i64 0, .slice none 0 0, .slice none 0 0, .int .i64 0], .int .u8 0], []⟩).memory :=
  laidMet_of_run' 8 (by kernel_rfl) (by kernel_rfl)
set_option maxRecDepth 100000 in
theorem reads (os : Os) {H : Type} (enc : TypeId × Value → H) : ∃ places, DataW.whole enc Tryd.prog ((laidWorld os).forCall (fun _ _ => 0) ⟨#[], #[.agg #[.slice none 0 0, .int .i64 0, .slice none 0 0, .slice none 0 0, .int .i64 0], .int .u8 0], []⟩).memory Tryd.f6.params.toList Rows.loadOneSpec.vars false (#[.agg #[.slice none 0 0, .int .i64 0, .slice none 0 0, .slice none 0 0, .int .i64 0], .int .u8 0] : Array Value).toList 8 = some ([.agg [.nil, .lit (.int .i64 0), .nil, .nil, .lit (.int .i64 0)], .lit (.int .u8 0)], [], places) :=
  ⟨[], by kernel_rfl⟩

set_option maxRecDepth 100000 in
theorem lifted (os : Os) (started : os.Started) (H : Type) (enc : TypeId × Value → H) (F : Stop.Interp) :
    ReturnsInHanded {} Tryd.checked os 6 .any ((OpenSpec.ofChange Rows.loadOneSpec).preRow enc Tryd.prog Tryd.f6 Rows.loadOneRow.domain false Rows.loadOneRow.laid) (((OpenSpec.ofChange Rows.loadOneSpec).at F).post enc Tryd.prog Tryd.f6 false true false false) := by
  obtain ⟨places, hx⟩ := reads os enc
  refine returnsInHanded_of_row (C := Tryd.checked) (s := OpenSpec.ofChange Rows.loadOneSpec) own started (by kernel_rfl) Tryd.func6
    (witness_row_at (enc := enc) (C := Tryd.checked) false (laidWorld os) #[.agg #[.slice none 0 0, .int .i64 0, .slice none 0 0, .slice none 0 0, .int .i64 0], .int .u8 0] rfl (by kernel_rfl) (by kernel_rfl) (by kernel_rfl)
      (OpenSpec.preRow_of_cond 8 hx (by kernel_rfl) (fun k hk => by cases hk) (by kernel_rfl) (laid_met os))) ?_
  intro W base args ds gs before hval hW _ _ _ hL _ _
  exact contract H enc W base args ds gs before hval hW hL

theorem said : Rows.LoadOneSaid :=
  OpenClaim.holds_of_cond 6 Tryd.f6 rfl rfl rfl rfl rfl rfl rfl ⟨rfl, rfl, rfl, rfl, rfl⟩ rfl rfl rfl rfl rfl (by kernel_rfl) Tryd.func6 (by kernel_rfl)
    (of_decide_eq_true (by kernel_rfl)) (by unfold Func.isWrapper; first | (rw [if_pos (by decide +kernel)]; kernel_rfl) | (rw [if_neg (by decide +kernel)]; exact ⟨rfl, rfl⟩))
    (fun os started H enc _ F => by rw [OpenClaim.pre_eq_preRow]; exact lifted os started H enc F)

set_option maxRecDepth 100000 in
/-- No parameter wants a stand-in; the program's own looks are off. -/
theorem plain (f : FuncId) (fn : Func) (hf : Tryd.pinned.checked.prog.funcNamed "tattle/tattlelaw14.LoadOne" = some f) (hfn : Tryd.pinned.checked.prog.funcs[f]? = some fn) :
    false = Tryd.pinned.checked.prog.looks [] ∧ ∀ (j : Nat) t, fn.params[j]? = some t → Tryd.pinned.checked.prog.wantsStandIn t = false := by
  obtain rfl : f = 6 := Option.some.inj ((show Tryd.prog.funcNamed "tattle/tattlelaw14.LoadOne" = some 6 by kernel_rfl).symm.trans hf) |>.symm
  obtain rfl : fn = Tryd.f6 := (Option.some.inj (Tryd.func6.symm.trans hfn)).symm
  refine ⟨by kernel_rfl, fun j t ht => ?_⟩
  rw [Tryd.params6] at ht
  have hm : t ∈ [26, 5] := by simpa using Array.mem_of_getElem? ht
  have hall : ([26, 5].all fun u => !Tryd.prog.wantsStandIn u) = true := by kernel_rfl
  exact (show Tryd.prog.wantsStandIn t = false by simpa using List.all_eq_true.1 hall t hm)

/-- THE CARD. -/
theorem card : Rows.LoadOneCardSaid :=
  Claim7.holds_tied_plain_at .later [] _ _ _ _ said (fun _ h => by cases h) (by kernel_rfl) (fun _ h => by cases h) loadOne_row_tie rfl ⟨rfl, rfl⟩ (by kernel_rfl) rfl plain (by kernel_rfl)
end Go.Proofs.YthcjjogomknddaaDoor.lawOne
