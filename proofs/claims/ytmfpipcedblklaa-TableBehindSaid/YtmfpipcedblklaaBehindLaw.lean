/-
  THE LAW TableBehind: what another table knows better, applied node by node, makes both merged; then it is behind in nothing.
  For any two tables; the law itself looks at the first sixty-five of each.
-/
import Derived.Test.YtmfpipcedblklaaLaw
import Derived.Test.YtmfpipcedblklaaNod
namespace Go.Proofs.Ytmfpipcedblklaa.lawBehind
open Go.Sort Go.ChangeShapes Go.WideShapes Go.ChangeAt Go.RowKit Go.Joins Go.Proofs.Ytmfpipcedblklaa.Pure

theorem three_on {w w' : World} {p q r : Addr} {v1 v2 v3 : Value} (h : w.cell? p = some v1 ∧ w.cell? q = some v2 ∧ w.cell? r = some v3) (hb : Below w.heap.size w w') : w'.cell? p = some v1 ∧ w'.cell? q = some v2 ∧ w'.cell? r = some v3 :=
  ⟨cell_on h.1 hb, cell_on h.2.1 hb, cell_on h.2.2 hb⟩

set_option maxRecDepth 100000 in
set_option maxHeartbeats 4000000 in
theorem wayBad (A B : Option Addr) (na nb la lb ca cb : Nat) (t o : List Kn) (w : World) (HFa : Hid (∀ W : World, Calls Try.prog 9 #[.slice A na ca] W fun e w' => e = .returned (.slice A la ca) ∧ W = w')) (HFb : Hid (∀ W : World, Calls Try.prog 9 #[.slice B nb cb] W fun e w' => e = .returned (.slice B lb cb) ∧ W = w'))
    (HB : Hid (∀ (W : World) X cx Y cy, Lst W X t → Lst W Y o → Calls Try.prog 14 #[.slice X la cx, .slice Y lb cy] W fun e w' => ∃ A' c', e = .returned (.tuple #[.slice A' 0 c', .int .i64 1]) ∧ Ns w' A' [] ∧ Below W.heap.size W w')) (HM : Hid (∀ (W : World) X cx Y cy, Lst W X t → Lst W Y o → Calls Try.prog 13 #[.slice X la cx, .slice Y lb cy] W fun e w' => ∃ A' c', e = .returned (.tuple #[.slice A' 0 c', .int .i64 1]) ∧ Lst w' A' [] ∧ Below W.heap.size W w')) (hT : Lst w A t) (hO : Lst w B o) :
    Calls Try.prog 6 #[.slice A na ca, .slice B nb cb] w fun e w' => e = .returned (.bool true) ∧ Below w.heap.size w w' := by
  have LT_0 := Lib.hid (hT)
  have LO_0 := Lib.hid (hO)
  clear hT hO
  go_enter Try.func6, Try.ntmps6
  go_wp2_with fail
  refine (HFa.out _).mono ?_
  rintro e w' ⟨rfl, rfl⟩
  go_wp2_with fail
  refine (HFb.out _).mono ?_
  rintro e w' ⟨rfl, rfl⟩
  go_wp2_with fail
  refine (HB.out _ _ _ _ _ LT_0.out LO_0.out).mono ?_
  rintro e w1 ⟨_, _, rfl, _, hb⟩
  have HB_1 : Hid (Below w.heap.size w w1) := Lib.hid hb
  have LT_1 := Lib.hid (LT_0.out.on hb)
  have LO_1 := Lib.hid (LO_0.out.on hb)
  clear LT_0 LO_0 hb
  go_wp2_with fail
  refine (HM.out _ _ _ _ _ LT_1.out LO_1.out).mono ?_
  rintro e w2 ⟨_, _, rfl, _, hb⟩
  have HB_2 : Hid (Below w.heap.size w w2) := Lib.hid (HB_1.out.trans (hb.mono HB_1.out.size))
  have LT_2 := Lib.hid (LT_1.out.on hb)
  have LO_2 := Lib.hid (LO_1.out.on hb)
  clear HB_1 LT_1 LO_1 hb
  go_wp2_with fail
  refine (awake_any _).mono ?_
  rintro e wE ⟨rfl, hbE⟩
  have HE : Hid (Below w.heap.size w wE) := Lib.hid (HB_2.out.trans (hbE.mono HB_2.out.size))
  clear hbE
  go_wp2_with fail
  go_ret
  exact ⟨rfl, HE.out⟩

set_option maxRecDepth 100000 in
set_option maxHeartbeats 4000000 in
theorem wayOk (A B : Option Addr) (na nb n ni ca cb : Nat) (t o m : List Kn) (is : List Nat) (S : Nat → List Kn) (w : World) (HFa : Hid (∀ W : World, Calls Try.prog 9 #[.slice A na ca] W fun e w' => e = .returned (.slice A n ca) ∧ W = w')) (HFb : Hid (∀ W : World, Calls Try.prog 9 #[.slice B nb cb] W fun e w' => e = .returned (.slice B n cb) ∧ W = w'))
    (HB : Hid (∀ (W : World) X cx Y cy, Lst W X t → Lst W Y o → Calls Try.prog 14 #[.slice X n cx, .slice Y n cy] W fun e w' => ∃ A' c', e = .returned (.tuple #[.slice A' ni c', .int .i64 0]) ∧ Ns w' A' is ∧ Below W.heap.size W w')) (HM : Hid (∀ (W : World) X cx Y cy, Lst W X t → Lst W Y o → Calls Try.prog 13 #[.slice X n cx, .slice Y n cy] W fun e w' => ∃ A' c', e = .returned (.tuple #[.slice A' n c', .int .i64 0]) ∧ Lst w' A' m ∧ Below W.heap.size W w'))
    (HA : Hid (∀ (W : World) X cx j, j < is.length → Lst W X (S j) → Calls Try.prog 12 #[.slice X n cx, .int .i64 (is.getD j 0 : Nat), .agg #[.int .u64 (kn o (is.getD j 0)).i, .int .i64 (kn o (is.getD j 0)).s]] W fun e w' => ∃ A' c', e = .returned (.tuple #[.slice A' n c', .bool true, .int .i64 0]) ∧ Lst w' A' (S (j + 1)) ∧ Below W.heap.size W w'))
    (HE : Hid (∀ (W : World) X cx Y cy, Lst W X m → Lst W Y o → Calls Try.prog 14 #[.slice X n cx, .slice Y n cy] W fun e w' => ∃ A' c', e = .returned (.tuple #[.slice A' 0 c', .int .i64 0]) ∧ Ns w' A' [] ∧ Below W.heap.size W w')) (HS : Hid (∀ (W : World) X cx Y cy, Lst W X m → Lst W Y m → Calls Try.prog 11 #[.slice X n cx, .slice Y n cy] W fun e w' => e = .returned (.bool true) ∧ Below W.heap.size W w'))
    (hT : Lst w A t) (hO : Lst w B o) (hni : ni = is.length) (hi64 : ni ≤ 64) (hon : o.length = n) (h0 : S 0 = t) (hE : S is.length = m) (hin : ∀ j, j < is.length → is.getD j 0 < n) (hri : ∀ j, j + 1 < is.length → is.getD j 0 < is.getD (j + 1) 0) :
    Calls Try.prog 6 #[.slice A na ca, .slice B nb cb] w fun e w' => e = .returned (.bool true) ∧ Below w.heap.size w w' := by
  have LT_0 := Lib.hid (hT)
  have LO_0 := Lib.hid (hO)
  have HI := Lib.hid hin
  have HR := Lib.hid hri
  have HZ := Lib.hid h0
  have HEN := Lib.hid hE
  have HON := Lib.hid hon
  have HNI := Lib.hid hni
  clear hT hO hin hri h0 hE hon hni
  go_enter Try.func6, Try.ntmps6
  go_wp2_with fail
  refine (HFa.out _).mono ?_
  rintro e w' ⟨rfl, rfl⟩
  go_wp2_with fail
  refine (HFb.out _).mono ?_
  rintro e w' ⟨rfl, rfl⟩
  go_wp2_with fail
  refine (HB.out _ _ _ _ _ LT_0.out LO_0.out).mono ?_
  rintro e w1 ⟨A1, c1, rfl, hns, hb⟩
  have HB_1 : Hid (Below w.heap.size w w1) := Lib.hid hb
  have LT_1 := Lib.hid (LT_0.out.on hb)
  have LO_1 := Lib.hid (LO_0.out.on hb)
  clear LT_0 LO_0 hb
  have NI_1 := Lib.hid hns
  clear hns
  go_wp2_with fail
  refine (HM.out _ _ _ _ _ LT_1.out LO_1.out).mono ?_
  rintro e w2 ⟨A2, c2, rfl, hl, hb⟩
  have HB_2 : Hid (Below w.heap.size w w2) := Lib.hid (HB_1.out.trans (hb.mono HB_1.out.size))
  have LT_2 := Lib.hid (LT_1.out.on hb)
  have LO_2 := Lib.hid (LO_1.out.on hb)
  have NI_2 := Lib.hid (NI_1.out.on hb)
  clear HB_1 LT_1 LO_1 NI_1 hb
  have LM_2 := Lib.hid hl
  clear hl
  have LX : Hid (Lst w2 A (S 0)) := Lib.hid (by rw [HZ.out]; exact LT_2.out)
  go_wp2_with fail
  go_loopw [9, 10] (fun x i wr => ∃ (j : Nat) (Ax : Option Addr) (cx : Nat), i = .int .i64 j ∧ x = .slice Ax n cx ∧ j ≤ ni ∧ Hid (Lst wr Ax (S j)) ∧ Hid (Below w2.heap.size w2 wr)) (fun _ i _ => ni - (intOf i).toNat)
  case atStart => exact ⟨0, A, ca, rfl, rfl, Nat.zero_le _, LX, Lib.hid (Below.refl _ _)⟩
  case round =>
    clear LX
    obtain ⟨j, Ax, cx, rfl, rfl, hj, LX, HW⟩ := hrel
    by_cases hlt : j < ni
    · have d1 : decide ((j : Int) < (ni : Int)) = true := by simpa using hlt
      have hlt' : Hid (j < is.length) := Lib.hid (by rw [← HNI.out]; exact hlt)
      obtain ⟨ai, rfl, _, i0⟩ := ((NI_2.out).on HW.out) j hlt'.out
      have hy := HI.out j hlt'.out
      obtain ⟨ao, rfl, _, h1⟩ := ((LO_2.out).on HW.out) (is.getD j 0) (by rw [HON.out]; exact hy)
      obtain ⟨b0, b1⟩ := h1.flat
      have j0 : (0 : Int) ≤ (j : Int) := by omega
      have j1 : (j : Int) < (ni : Int) := by omega
      have HAj := Lib.hid (fun W X cx h => HA.out W X cx j hlt'.out h)
      have HP : Hid (0 < j → wr.cell? (ai.add (j - 1)) = some (.int .i64 ((is.getD (j - 1) 0 : Nat) : Int)) ∧ is.getD (j - 1) 0 < is.getD j 0) := Lib.hid fun hp => by
        obtain ⟨a', e', _, h'⟩ := ((NI_2.out).on HW.out) (j - 1) (by have := hlt'.out; omega)
        cases e'
        have := HR.out (j - 1) (by have := hlt'.out; omega)
        rw [show j - 1 + 1 = j by omega] at this
        exact ⟨h', this⟩
      clear h1
      generalize is.getD j 0 = y at *
      generalize kn o y = x at *
      have y0 : (0 : Int) ≤ (y : Int) := by omega
      have y1 : (y : Int) < (n : Int) := by omega
      have g1 : decide ((y : Int) < 0) = false := by simp
      have g2 : decide ((n : Int) ≤ (y : Int)) = false := by simp; omega
      have g2' : decide (n ≤ y) = false := by simp; omega
      go_upto_region 10 with (fail)
      go_cut [80] (fun s wx => s = .bool false ∧ Hid (Below wr.heap.size wr wx))
      case first =>
        clear b0 b1
        by_cases hp : 0 < j
        · obtain ⟨p0, hq⟩ := HP.out hp
          have P0 := fun d os => cell_regrown p0 d os
          have I0 := fun d os => cell_regrown i0 d os
          clear p0 i0
          generalize is.getD (j - 1) 0 = q at *
          have g3 : decide ((0 : Int) < (j : Int)) = true := by simpa using hp
          have g4 : decide ((y : Int) ≤ (q : Int)) = false := by simp; omega
          have g4' : decide (y ≤ q) = false := by simp; omega
          have wj : IntKind.i64.wrap ((j : Int) - 1) = ((j - 1 : Nat) : Int) := by rw [IntWalk.i64_in _ (by omega)]; omega
          obtain ⟨jj, hjj⟩ : ∃ jj, jj = j - 1 := ⟨_, rfl⟩
          rw [← hjj] at P0 wj
          have q0 : (0 : Int) ≤ (jj : Int) := by omega
          have q1 : (jj : Int) < (ni : Int) := by omega
          clear hjj
          refine q_enter (by kernel_rfl) (by kernel_rfl) ?_
          iterate 30 (refine q_step ?_; intro K hK; go_simp; refine hK _ ?_; clear hK K)
          refine q_nil ?_
          intro wz hbz
          have HZ' := Lib.hid hbz
          clear hbz I0 P0
          go_wp2_with fail
          go_meet
          exact ⟨rfl, HZ'⟩
        · have g3 : decide ((0 : Int) < (j : Int)) = false := by simp; omega
          obtain rfl : j = 0 := by omega
          have i00 : wr.cell? ai = some (.int .i64 (y : Int)) := i0
          have I0 := fun d os => cell_regrown i00 d os
          clear i0 i00
          refine q_enter (by kernel_rfl) (by kernel_rfl) ?_
          iterate 30 (refine q_step ?_; intro K hK; go_simp; refine hK _ ?_; clear hK K)
          refine q_nil ?_
          intro wz hbz
          have HZ' := Lib.hid hbz
          clear hbz I0
          go_wp2_with fail
          go_meet
          exact ⟨rfl, HZ'⟩
      case rest =>
        obtain ⟨rfl, HC⟩ := hcut
        have i0' := cell_on i0 HC.out
        have b0' := cell_on b0 HC.out
        have b1' := cell_on b1 HC.out
        have LX3 := Lib.hid (LX.out.on HC.out)
        have HW3 : Hid (Below w2.heap.size w2 _) := Lib.hid (HW.out.trans (HC.out.mono HW.out.size))
        clear i0 b0 b1 HC LX HW HP
        go_wp2_with fail
        go_upto_region 12 with (fail)
        refine z_enter [(0, true), (1, true), (2, true), (3, true), (4, true), (5, true), (6, true), (7, true), (8, true), (9, true), (10, true), (11, true), (12, false), (13, true), (14, true), (15, true), (16, true), (17, true), (18, true), (19, true)] (fun w' => w'.cell? (ai.add j) = some (.int .i64 (y : Int)) ∧ w'.cell? (ao.add (y * 2)) = some (.int .u64 x.i) ∧ w'.cell? ⟨(ao.add (y * 2)).block, (ao.add (y * 2)).off + 1, none⟩ = some (.int .i64 x.s)) (by kernel_rfl) (by kernel_rfl) (by kernel_rfl) (fun _ _ d _ _ h => by cases d <;> exact h) ⟨i0', b0', b1'⟩ ?_
        simp only [pickL, List.drop_succ_cons, List.drop_zero]
        have hdr : Below wc.heap.size wc wc.drew := (Below.refl _ _).drew
        have hS : Hid (_ ∧ _) := Lib.hid (three_on ⟨i0', b0', b1'⟩ hdr)
        have LX4 := Lib.hid (LX3.out.on hdr)
        have HW4 : Hid (Below w2.heap.size w2 wc.drew) := Lib.hid (HW3.out.trans (hdr.mono HW3.out.size))
        clear i0' b0' b1' hdr LX3 HW3
        generalize wc.drew = wd at *
        iterate 12 (first | (refine' z_yes ?_ (by rfl) ?_ ?_; rotate_left; (intro w' hS; (try dsimp only at hS); go_simp; try (with_reducible rfl)); simp only [Act.put, List.setIfInBounds_toArray, List.set_cons_zero, List.set_cons_succ]) | (refine z_no (by rfl) ?_; simp only [Act.put, List.setIfInBounds_toArray, List.set_cons_zero, List.set_cons_succ]))
        refine z_mem ?_
        intro KK hK
        go_simp
        refine (HAj.out _ _ _ LX4.out).mono ?_
        rintro e w5 ⟨A5, c5, rfl, hl5, hb5⟩
        have hS5 : Hid (_ ∧ _) := Lib.hid (three_on hS.out hb5)
        have LX5 := Lib.hid hl5
        have HW5 : Hid (Below w2.heap.size w2 w5) := Lib.hid (HW4.out.trans (hb5.mono HW4.out.size))
        clear hl5 hb5 hS LX4 HW4
        refine hK.out _ _ hS5.out ?_
        clear hK
        iterate 7 (first | (refine' z_yes ?_ (by rfl) ?_ ?_; rotate_left; (intro w' hS; (try dsimp only at hS); go_simp; try (with_reducible rfl)); simp only [Act.put, List.setIfInBounds_toArray, List.set_cons_zero, List.set_cons_succ]) | (refine z_no (by rfl) ?_; simp only [Act.put, List.setIfInBounds_toArray, List.set_cons_zero, List.set_cons_succ]))
        refine z_nil ?_
        clear hS5
        go_wp2_with fail
        go_roundw
        case rel => exact ⟨j + 1, A5, c5, by go_num, rfl, by omega, LX5, HW5⟩
        case measure => simp [intOf]; omega
    · have hjn : j = is.length := by have := HNI.out; omega
      have LXE : Hid (Lst wr Ax m) := Lib.hid (by have := LX.out; rwa [hjn, HEN.out] at this)
      have d1 : decide ((j : Int) < (ni : Int)) = false := by simp; omega
      have LOE := Lib.hid ((LO_2.out).on HW.out)
      have LME := Lib.hid ((LM_2.out).on HW.out)
      have HBE : Hid (Below w.heap.size w wr) := Lib.hid ((HB_2.out).trans (HW.out.mono (HB_2.out).size))
      clear hjn LX HW
      go_wp2_with fail
      refine (HE.out _ _ _ _ _ LXE.out LOE.out).mono ?_
      rintro e w5 ⟨A5, c5, rfl, _, hb⟩
      have LX5 := Lib.hid (LXE.out.on hb)
      have LM5 := Lib.hid (LME.out.on hb)
      have HB5 : Hid (Below w.heap.size w w5) := Lib.hid (HBE.out.trans (hb.mono HBE.out.size))
      clear hb LXE LME LOE HBE
      go_wp2_with fail
      refine (HS.out _ _ _ _ _ LX5.out LM5.out).mono ?_
      rintro e w6 ⟨rfl, hb⟩
      have HB6 : Hid (Below w.heap.size w w6) := Lib.hid (HB5.out.trans (hb.mono HB5.out.size))
      clear hb LX5 LM5 HB5
      go_wp2_with fail
      refine (awake_any _).mono ?_
      rintro e wE ⟨rfl, hbE⟩
      have HEE : Hid (Below w.heap.size w wE) := Lib.hid (HB6.out.trans (hbE.mono HB6.out.size))
      clear hbE
      go_wp2_with fail
      go_ret
      exact ⟨rfl, HEE.out⟩

theorem both_iff (t o : List Kn) : both t o = true ↔ t.length = o.length ∧ mayT t = true ∧ mayT o = true := by simp [both]
theorem walk (A B : Option Addr) (ca cb : Nat) (t o : List Kn) (w : World) (ht : t.length ≤ ca ∧ ca ≤ maxLen ∧ Lst w A t ∧ FitL t) (ho : o.length ≤ cb ∧ cb ≤ maxLen ∧ Lst w B o ∧ FitL o) :
    Calls Try.prog 6 #[.slice A t.length ca, .slice B o.length cb] w fun e w' => e = .returned (.bool true) ∧ Below w.heap.size w w' := by
  have fa := few_any A ca t w ht.1 ht.2.1 ht.2.2.1
  have fb := few_any B cb o w ho.1 ho.2.1 ho.2.2.1
  have lt := ht.2.2.1.take 65
  have lo := ho.2.2.1.take 65
  have ft := ht.2.2.2.take 65
  have fo := ho.2.2.2.take 65
  have nt : (t.take 65).length ≤ 65 := by rw [List.length_take]; omega
  have no : (o.take 65).length ≤ 65 := by rw [List.length_take]; omega
  generalize t.length = kt at *
  generalize o.length = ko at *
  generalize t.take 65 = t at *
  generalize o.take 65 = o at *
  rcases hb : both t o with _ | _
  · exact wayBad A B kt ko t.length o.length ca cb t o w (Lib.hid fa) (Lib.hid fb) (Lib.hid fun W X cx Y cy h h' => beh_bad X Y cx cy t o W (by omega) (by omega) h h' hb) (Lib.hid fun W X cx Y cy h h' => mer_bad X Y cx cy t o W (by omega) (by omega) h h' hb) lt lo
  obtain ⟨hl, mt, mo⟩ := (both_iff t o).1 hb
  obtain ⟨_, t64, t3⟩ := (mayT_iff t).1 mt
  have o3 := ((mayT_iff o).1 mo).2.2
  have lm : (merL t o).length = t.length := len_merL t o
  have hbm : both (merL t o) o = true := (both_iff _ _).2 ⟨by omega, mayT_mer mt, mo⟩
  have fb' := fb
  rw [← hl] at fb'
  have hin : ∀ i ∈ behL t o, i < t.length ∧ i < o.length := fun i hi => by have := (mem_pick.1 hi).1; omega
  have hS : ∀ j, mayT (setAll t o ((behL t o).take j)) = true := fun j => by
    obtain ⟨h1, h2, _⟩ := (mayT_iff t).1 mt
    rw [mayT_iff, len_set]
    exact ⟨h1, h2, may_setAll t3 o3 _ fun i hi => hin i (List.mem_of_mem_take hi)⟩
  have hSf : ∀ j, FitL (setAll t o ((behL t o).take j)) := fun j => fit_setAll ft fo _ fun i hi => (hin i (List.mem_of_mem_take hi)).1
  refine wayOk A B kt ko t.length (behL t o).length ca cb t o (merL t o) (behL t o) (fun j => setAll t o ((behL t o).take j)) w (Lib.hid fa) (Lib.hid fb') (Lib.hid fun W X cx Y cy h h' => ?_) (Lib.hid fun W X cx Y cy h h' => ?_) (Lib.hid fun W X cx j hj h => ?_) (Lib.hid fun W X cx Y cy h h' => ?_) (Lib.hid fun W X cx Y cy h h' => ?_) lt lo rfl (by have := pick_length (behP t o) o.length; unfold behL; omega) hl.symm ?_ ?_ ?_ ?_
  · have := beh_yes X Y cx cy t o W (by omega) h h' hb
    unfold NodesE at this
    rwa [← hl] at this
  · have := mer_yes X Y cx cy t o W (by omega) h h' hb
    unfold Gives at this
    rwa [lm, ← hl] at this
  · obtain ⟨e1, e2⟩ := beh_step hl hj
    have hls : (setAll t o ((behL t o).take j)).length = t.length := len_set _ _ _
    have := tapp_yes X cx (setAll t o ((behL t o).take j)) ((behL t o).getD j 0) (kn o ((behL t o).getD j 0)) W (by omega) h (hS j) (hSf j) (by rw [hls]; exact (hin _ (getD_mem hj)).1) (may_at o3 (hin _ (getD_mem hj)).2)
    unfold Turns at this
    rw [e1, e2, len_set, len_set] at this
    exact this
  · have := beh_yes X Y cx cy (merL t o) o W (by omega) h h' hbm
    unfold NodesE at this
    rwa [beh_mer_right hl t3 o3, lm, ← hl] at this
  · have := rsame_any X Y cx cy (merL t o) (merL t o) W (by omega) h h' true (by simp)
    rwa [lm] at this
  · rfl
  · show setAll t o ((behL t o).take (behL t o).length) = _
    rw [List.take_length, setAll_beh t o hl]
  · exact fun j hj => (hin _ (getD_mem hj)).1
  · exact fun j hj => beh_rise hj

/-! ### the statement -/
theorem parOk : ∀ t ∈ (#[22, 22] : Array TypeId).toList, Try.prog.readableRec t = true ∧ t < Try.prog.types.size := by
  have hall : ([22, 22].all fun t => Try.prog.readableRec t && decide (t < Try.prog.types.size)) = true := by kernel_rfl
  intro t ht
  simpa using List.all_eq_true.1 hall t ht

/-- What the walk gives, for every argument. -/
theorem contract (H : Type) (enc : TypeId × Value → H) (W : World) (base : Nat) (args : Array Value) (ds gs : List (DataW H)) (before : List MemPlace)
    (hval : ∀ (j : Nat) t v, Try.f6.params[j]? = some t → args[j]? = some v → Value.okWide Try.prog W .any base t v)
    (hW : DataW.Whole enc Try.prog Try.f6.params.toList Rows.tableBehindSpec.vars false W args.toList ds gs before) :
    Calls Try.prog 6 args W fun e W' => ∃ v, e = .returned v ∧ Rows.tableBehindSpec.post enc Try.prog Try.f6 false true false false W args v W' := by
  have hW' := hW
  obtain ⟨p, q, hA0, hV, rfl, hfz, hnd⟩ := hW
  have hA : DataW.TrodAll enc Try.prog W 0 (fun _ => true) true Try.f6.params.toList args.toList ds p := hA0
  rw [Try.params6] at hA hval
  obtain ⟨v0, vs0, d0, ds0, p0, q0, hargs, rfl, rfl, h0, r0⟩ := trodAll_cons hA
  obtain ⟨v1, vs1, d1, ds1, p1, q1, rfl, rfl, rfl, h1, r1⟩ := trodAll_cons r0
  obtain ⟨rfl, rfl, rfl⟩ := trodAll_nil r1
  obtain rfl : args = #[v0, v1] := by cases args; simp_all
  obtain ⟨rfl, rfl⟩ := trodVars_none hV
  obtain ⟨A, ca, t, rfl, ht⟩ := open_kns (hval 0 22 v0 rfl rfl) h0
  obtain ⟨B, cb, o, rfl, ho⟩ := open_kns (hval 1 22 v1 rfl rfl) h1
  clear hA0
  refine (walk A B ca cb t o W ht ho).mono fun e W' ⟨he, hb⟩ => ?_
  subst he
  exact ⟨_, rfl, law_post rfl (by rw [Try.params6]; exact parOk) rfl hW' rfl rfl rfl hb⟩

set_option maxRecDepth 100000 in
theorem lifted (os : Os) (started : os.Started) (H : Type) (enc : TypeId × Value → H) :
    ReturnsInHanded {} Try.checked os 6 .any (Rows.tableBehindSpec.pre6 enc Try.prog Try.f6 Rows.tableBehindRow.domain false) (Rows.tableBehindSpec.post enc Try.prog Try.f6 false true false false) := by
  refine returnsInHanded_of_change (C := Try.checked) own started (by kernel_rfl) Try.func6
    (ChangeSpec.witness6 (enc := enc) (C := Try.checked) false ⟨#[], #[.slice none 0 0, .slice none 0 0], []⟩ 8 (by kernel_rfl) (by kernel_rfl) (by kernel_rfl) (by kernel_rfl)) ?_
  intro W base args ds gs before hval hW _ _
  exact contract H enc W base args ds gs before hval hW

/-- THE STATEMENT. -/
theorem said : Rows.TableBehindSaid :=
  OpenClaim.holds_of_wide 6 Try.f6 rfl rfl rfl rfl rfl rfl rfl ⟨rfl, rfl, rfl, rfl, rfl⟩ rfl rfl rfl rfl rfl (by kernel_rfl) Try.func6 (by kernel_rfl)
    (of_decide_eq_true (by kernel_rfl)) (by unfold Func.isWrapper; first | (rw [if_pos (by decide +kernel)]; kernel_rfl) | (rw [if_neg (by decide +kernel)]; exact ⟨rfl, rfl⟩))
    (fun os started H enc _ => lifted os started H enc)
end Go.Proofs.Ytmfpipcedblklaa.lawBehind
