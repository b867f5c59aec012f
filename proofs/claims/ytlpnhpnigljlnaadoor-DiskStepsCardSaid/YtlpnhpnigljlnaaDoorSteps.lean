/-
  DiskSteps: whatever was written, and torn, one behind the other: what is read is the last one that was whole: the law returns true for every input.
-/
import Derived.Test.YtlpnhpnigljlnaaDoorLw
import Derived.Test.YtlpnhpnigljlnaaDoorAk
import Derived.Test.YtlpnhpnigljlnaaDoorSt
import Derived.Test.YtlpnhpnigljlnaaDoorTailZ
import Derived.Test.YtlpnhpnigljlnaaDoorPlanC
import Derived.Test.YtlpnhpnigljlnaaDoorCards
import Derived.Test.YtlpnhpnigljlnaaDoorTie
namespace Go.Proofs.YtlpnhpnigljlnaaDoor.lawSteps
open Go.ChangeMaps (open_string)
open Go.Sort Go.ChangeShapes Go.WideShapes Go.ChangeAt Go.RowKit Go.Joins Go.Proofs.YtlpnhpnigljlnaaDoor.Pure Go.Proofs.YtlpnhpnigljlnaaDoor.Crc

set_option maxRecDepth 100000 in
set_option maxHeartbeats 4000000 in
theorem walk (A C : Option Addr) (cA cC : Nat) (l : List Sv) (os : List Int) (w : World) (_ : l.length ≤ cA) (_ : cA ≤ maxLen) (hl : Ws w A l) (hfl : FitW l) (_ : os.length ≤ cC) (_ : cC ≤ maxLen) (hi : ∀ j, j < os.length → ∃ ad, C = some ad ∧ ad.block < w.heap.size ∧ w.cell? (ad.add j) = some (.int .u8 (os.getD j 0))) (hi2 : ∀ i ∈ os, 0 ≤ i ∧ i ≤ 255) (ht : Tab w) : Calls Tryd.prog 6 #[.slice A l.length cA, .slice C os.length cC] w fun e w' => e = .returned (.bool true) ∧ Below w.heap.size w w' := by
  have HAW := Lib.hid (fun (W : World) (hT : Tab W) => awake_any W hT)
  have HLl : Hid (∀ W, Below w.heap.size w W → Ws W A l) := Lib.hid (fun W hb => hl.on hb)
  have HLf : Hid (∀ j, j < l.length → FitS (sv l j)) := Lib.hid (fun j hj => by have h := hfl j hj; exact ⟨h.1, h.2.1, h.2.2.1, h.2.2.2.1, h.2.2.2.2⟩)
  have HOc : Hid (∀ W, Below w.heap.size w W → ∀ j, j < os.length → ∃ ad, C = some ad ∧ W.cell? (ad.add j) = some (.int .u8 (os.getD j 0))) := Lib.hid (fun W hb j hj => by
    obtain ⟨ad, e, h1, h2⟩ := hi j hj
    exact ⟨ad, e, (hb.cell (p := ad.add j) (by rw [block_add]; exact h1)).trans h2⟩)
  have HOf : Hid (∀ j, j < os.length → ∃ o : Nat, os.getD j 0 = (o : Int) ∧ o ≤ 255) := Lib.hid (fun j hj => by
    have e : os.getD j 0 = os[j] := by simp [List.getD, hj]
    have h := hi2 os[j] (List.getElem_mem hj)
    rw [e]
    obtain ⟨o, ho⟩ := Int.eq_ofNat_of_zero_le h.1
    exact ⟨o, ho, by omega⟩)
  have HD_0 : Hid (DkW ((w.alloc (.cells #[.string ⟨#[]⟩, .string ⟨#[]⟩] 23)).alloc (.cells #[.int .u64 0, .int .u64 0, .int .u64 0, .int .u64 0, .int .i64 0] 26)) w.heap.size d0D) := Lib.hid ((DkW.new w d0D _).on ((Below.refl _ _).alloc (Nat.le_refl _) _))
  have HS_0 : Hid (SvW ((w.alloc (.cells #[.string ⟨#[]⟩, .string ⟨#[]⟩] 23)).alloc (.cells #[.int .u64 0, .int .u64 0, .int .u64 0, .int .u64 0, .int .i64 0] 26)) (w.heap.size + 1) nilD) := Lib.hid (by
    have h := SvW.new (w.alloc (.cells #[.string ⟨#[]⟩, .string ⟨#[]⟩] 23)) nilD 26
    have e : (w.alloc (.cells #[.string ⟨#[]⟩, .string ⟨#[]⟩] 23)).heap.size = w.heap.size + 1 := by simp
    rw [e] at h
    exact h)
  have HB_0 : Hid (Below w.heap.size w ((w.alloc (.cells #[.string ⟨#[]⟩, .string ⟨#[]⟩] 23)).alloc (.cells #[.int .u64 0, .int .u64 0, .int .u64 0, .int .u64 0, .int .i64 0] 26))) := Lib.hid (((Below.refl _ _).alloc (Nat.le_refl _) _).alloc (by simp) _)
  have HT_0 := Lib.hid (ht.on HB_0.out)
  have htab := ht.pos
  clear hl hfl hi hi2 ht
  go_enter Tryd.func6, Tryd.ntmps6
  go_upto_region 3 with (fail)
  generalize (w.alloc (.cells #[.string ⟨#[]⟩, .string ⟨#[]⟩] 23)).alloc (.cells #[.int .u64 0, .int .u64 0, .int .u64 0, .int .u64 0, .int .i64 0] 26) = w0 at *
  go_wp2_with fail
  go_loopw [7, 8] (fun b i wr => ∃ (k : Nat) (D : Dk) (La : Sv) (is : Bool), b = .bool is ∧ i = .int .i64 (k : Nat) ∧ k ≤ 20 ∧ D.a.size ≤ 64 ∧ D.b.size ≤ 64 ∧ Hid (InvS k D La is) ∧ Hid (DkW wr w.heap.size D) ∧ Hid (SvW wr (w.heap.size + 1) La) ∧ Hid (Tab wr) ∧ Hid (Below w.heap.size w wr)) (fun _ i _ => 20 - (intOf i).toNat)
  case atStart => exact ⟨0, d0D, nilD, false, rfl, rfl, by omega, by decide, by decide, Lib.hid inv_zero, HD_0, HS_0, HT_0, HB_0⟩
  case round =>
    obtain ⟨wq, ewq⟩ : ∃ wq, wq = wr := ⟨_, rfl⟩
    subst ewq
    obtain ⟨k, D, La, is, rfl, rfl, hk, hDa, hDb, hI, hD, hS, hT, hB⟩ := hrel
    clear HD_0 HS_0 HB_0 HT_0
    by_cases hin : k < l.length ∧ k < 20
    rotate_left
    · have e0 : (decide ((k : Int) < (l.length : Int)) && decide ((k : Int) < 20)) = false := by
        by_cases h1 : k < l.length
        · have h2 : ¬ k < 20 := fun h2 => hin ⟨h1, h2⟩
          rw [decide_eq_false (show ¬ (k : Int) < 20 by omega), Bool.and_false]
        · rw [decide_eq_false (show ¬ (k : Int) < (l.length : Int) by omega), Bool.false_and]
      by_cases h1 : k < l.length
      · have h2 : ¬ k < 20 := fun h2 => hin ⟨h1, h2⟩
        have e1 : decide ((k : Int) < (l.length : Int)) = true := decide_eq_true (by omega)
        have e1' : decide (k < l.length) = true := decide_eq_true h1
        have e2 : decide ((k : Int) < 20) = false := decide_eq_false (by omega)
        have e2' : decide (k < 20) = false := decide_eq_false h2
        clear e0 hin
        go_wp2_with fail
        refine (HAW.out _ hT.out).mono ?_
        rintro e w1 ⟨rfl, hb⟩
        have T_1 := Lib.hid (hT.out.on hb)
        have B_1 := Lib.hid (hB.out.trans (hb.mono hB.out.size))
        have d_1 := Lib.hid (hD.out.on hb)
        have s_1 := Lib.hid (hS.out.on hb)
        clear hT hB hD hS
        clear hb
        go_wp2_with fail
        go_ret
        exact ⟨rfl, B_1.out⟩
      · have e1 : decide ((k : Int) < (l.length : Int)) = false := decide_eq_false (by omega)
        have e1' : decide (k < l.length) = false := decide_eq_false h1
        clear e0 hin
        go_wp2_with fail
        refine (HAW.out _ hT.out).mono ?_
        rintro e w1 ⟨rfl, hb⟩
        have T_1 := Lib.hid (hT.out.on hb)
        have B_1 := Lib.hid (hB.out.trans (hb.mono hB.out.size))
        have d_1 := Lib.hid (hD.out.on hb)
        have s_1 := Lib.hid (hS.out.on hb)
        clear hT hB hD hS
        clear hb
        go_wp2_with fail
        go_ret
        exact ⟨rfl, B_1.out⟩
    · obtain ⟨h1, h2⟩ := hin
      have e1 : decide ((k : Int) < (l.length : Int)) = true := decide_eq_true (by omega)
      have e1' : decide (k < l.length) = true := decide_eq_true h1
      have e2 : decide ((k : Int) < 20) = true := decide_eq_true (by omega)
      have e2' : decide (k < 20) = true := decide_eq_true h2
      have k0 : (0 : Int) ≤ (k : Int) := by omega
      have k1 : (k : Int) < (l.length : Int) := by omega
      obtain ⟨ad, rfl, hlo, hat⟩ := (HLl.out _ hB.out) k h1
      have HIT_0 : Hid (Itm wq (ad.add (k * 5)) (sv l k)) := Lib.hid ⟨by rw [block_add]; exact hlo, hat⟩
      have HFs := Lib.hid (HLf.out k h1)
      have HM := Lib.hid (fun W => rmay_any (sv l k) W)
      obtain ⟨i0, i1, i2, i3, i4⟩ := hat.flat
      clear hat hlo
      rcases hm : mayB (sv l k) with _ | _
      · rw [hm] at HM
        clear HIT_0 hm HFs HLl HLf HOc HOf
        go_wp2_with fail
        refine (HM.out _).mono ?_
        rintro e w1 ⟨rfl, hb⟩
        have T_1 := Lib.hid (hT.out.on hb)
        have B_1 := Lib.hid (hB.out.trans (hb.mono hB.out.size))
        have d_1 := Lib.hid (hD.out.on hb)
        have s_1 := Lib.hid (hS.out.on hb)
        clear hT hB hD hS
        clear hb
        clear i0 i1 i2 i3 i4
        go_wp2_with fail
        go_roundw
        case rel => exact ⟨k + 1, D, La, is, rfl, by go_num, by omega, hDa, hDb, Lib.hid hI.out.more, d_1, s_1, T_1, B_1⟩
        case measure => simp [intOf]; omega
      · rw [hm] at HM
        have HST := Lib.hid (fun (c : Nat) => steps_facts (s := sv l k) (c := c) hI.out HFs.out hm h2 hDa hDb)
        have HTE : Hid (∀ c : Nat, c ≤ 255 → ∀ (W : World) (hT : Tab W), _) := Lib.hid (fun c hc W hT => tear_any D (sv l k) c W (by omega) (by omega) HFs.out (by omega) hT)
        have HWR := Lib.hid (fun (W : World) (hT : Tab W) => write_any D (sv l k) W (by omega) (by omega) HFs.out hT)
        have HRD := Lib.hid (fun (W : World) (hT : Tab W) => read_any D W (by omega) (by omega) hT)
        clear hm HLl HLf HFs
        go_wp2_with fail
        refine (HM.out _).mono ?_
        rintro e w1 ⟨rfl, hb⟩
        have T_1 := Lib.hid (hT.out.on hb)
        have B_1 := Lib.hid (hB.out.trans (hb.mono hB.out.size))
        have d_1 := Lib.hid (hD.out.on hb)
        have s_1 := Lib.hid (hS.out.on hb)
        have item_1 := Lib.hid (HIT_0.out.on hb)
        clear hT hB hD hS HIT_0
        clear hb
        clear i0 i1 i2 i3 i4
        go_upto_region 8 with (fail)
        go_cut [47] from 36 to 47 (fun b wx => ∃ bb : Bool, b = .bool bb ∧ (bb = true → k < os.length) ∧ w1 = wx)
        case first =>
          by_cases h3 : k < os.length
          · obtain ⟨ad2, rfl, hoc⟩ := HOc.out _ B_1.out k h3
            obtain ⟨o, ho, ho2⟩ := HOf.out k h3
            rw [ho] at hoc
            have k3 : (k : Int) < (os.length : Int) := by omega
            have e3 : decide ((k : Int) < (os.length : Int)) = true := decide_eq_true k3
            have e3' : decide (k < os.length) = true := decide_eq_true h3
            clear ho
            go_wp2_with fail
            first | exact ⟨_, rfl, fun _ => h3, rfl⟩ | (go_meet; exact ⟨_, rfl, fun _ => h3, rfl⟩)
          · have e3 : decide ((k : Int) < (os.length : Int)) = false := decide_eq_false (by omega)
            have e3' : decide (k < os.length) = false := decide_eq_false h3
            go_wp2_with fail
            first | exact ⟨_, rfl, fun h => (by cases h), rfl⟩ | (go_meet; exact ⟨_, rfl, fun h => (by cases h), rfl⟩)
        case rest =>
          obtain ⟨bb, rfl, hbb, rfl⟩ := hcut
          go_upto_if 47 with (fail)
          go_cut [9] from 48 to 52 (fun v wx => ∃ c : Nat, v = .int .i64 (c : Nat) ∧ c ≤ 255 ∧ w1 = wx)
          case first =>
            rcases bb with _ | _
            · go_wp2_with fail
              first | exact ⟨200, rfl, by omega, rfl⟩ | (go_meet; exact ⟨200, rfl, by omega, rfl⟩)
            · have h3 := hbb rfl
              obtain ⟨ad2, rfl, hoc⟩ := HOc.out _ B_1.out k h3
              obtain ⟨o, ho, ho2⟩ := HOf.out k h3
              rw [ho] at hoc
              have k3 : (k : Int) < (os.length : Int) := by omega
              clear ho hbb
              go_wp2_with fail
              first | exact ⟨o, rfl, ho2, rfl⟩ | (go_meet; exact ⟨o, rfl, ho2, rfl⟩)
          case rest =>
            obtain ⟨c, rfl, hc255, rfl⟩ := hcut
            clear HOc HOf hbb
            obtain ⟨t1, t2, ⟨hx1, hx2⟩, q0, hw⟩ := HST.out c
            have HT1 := Lib.hid (HTE.out c hc255)
            rw [t1] at HT1
            rw [t2] at HWR
            have HRX := Lib.hid (fun (W : World) (hT : Tab W) => read_any (teR D (sv l k) c) W (by omega) (by omega) hT)
            have HW := Lib.hid hw
            generalize hX : teR D (sv l k) c = X at *
            generalize teR D (sv l k) 9223372036854775807 = Y at *
            clear HST HTE t1 t2 hw hX
            go_upto_region 10 with (fail)
            go_cut [10, 11] from 53 to 62 (fun v e wx => ∃ gn : Nat, v = .pointer (some ⟨gn, 0, none⟩) ∧ e = .int .i64 0 ∧ w.heap.size + 1 < gn ∧ Hid (DkA wx gn (X)) ∧ Hid (Below w1.heap.size w1 wx))
            case first =>
              have hd0 : Below w1.heap.size w1 w1.drew := (Below.refl _ _).drew
              have HS3 : (fun W => (W.cell? ⟨w.heap.size, 0, none⟩ = some (.string D.a) ∧ W.cell? ⟨w.heap.size, 1, none⟩ = some (.string D.b)) ∧ W.cell? (ad.add (k * 5)) = some (.int .u64 (sv l k).q) ∧ W.cell? ⟨(ad.add (k * 5)).block, (ad.add (k * 5)).off + 1, none⟩ = some (.int .u64 (sv l k).b) ∧ W.cell? ⟨(ad.add (k * 5)).block, (ad.add (k * 5)).off + 2, none⟩ = some (.int .u64 (sv l k).i) ∧ W.cell? ⟨(ad.add (k * 5)).block, (ad.add (k * 5)).off + 3, none⟩ = some (.int .u64 (sv l k).e) ∧ W.cell? ⟨(ad.add (k * 5)).block, (ad.add (k * 5)).off + 4, none⟩ = some (.int .i64 (sv l k).u)) w1.drew := ⟨(d_1.out.on hd0).1, (item_1.out.on hd0).2.flat⟩
              have hlt := (s_1.out.on hd0).lt
              have HSf : Hid (∀ W, Below w1.drew.heap.size w1.drew W → (fun W => (W.cell? ⟨w.heap.size, 0, none⟩ = some (.string D.a) ∧ W.cell? ⟨w.heap.size, 1, none⟩ = some (.string D.b)) ∧ W.cell? (ad.add (k * 5)) = some (.int .u64 (sv l k).q) ∧ W.cell? ⟨(ad.add (k * 5)).block, (ad.add (k * 5)).off + 1, none⟩ = some (.int .u64 (sv l k).b) ∧ W.cell? ⟨(ad.add (k * 5)).block, (ad.add (k * 5)).off + 2, none⟩ = some (.int .u64 (sv l k).i) ∧ W.cell? ⟨(ad.add (k * 5)).block, (ad.add (k * 5)).off + 3, none⟩ = some (.int .u64 (sv l k).e) ∧ W.cell? ⟨(ad.add (k * 5)).block, (ad.add (k * 5)).off + 4, none⟩ = some (.int .i64 (sv l k).u)) W) := Lib.hid (fun W hb => ⟨((d_1.out.on hd0).on hb).1, ((item_1.out.on hd0).on hb).2.flat⟩)
              have HTe : Hid (∀ W, Below w1.drew.heap.size w1.drew W → Tab W) := Lib.hid (fun W hb => (T_1.out.on hd0).on hb)
              have HBf : Hid (∀ W, Below w1.drew.heap.size w1.drew W → Hid (Below w1.heap.size w1 W)) := Lib.hid (fun W hb => Lib.hid (hd0.trans (hb.mono hd0.size)))
              clear hd0 T_1 d_1 s_1 item_1 B_1 HW HRX HRD HWR hI
              refine p3_enter (.take 0 (.take 1 (.take 2 (.take 3 (.take 4 (.take 5 (.two 6 (.take 7 (.take 8 (.take 9 (.one 10 (.one 11 (.take 12 .done)))))) 10 (.one 6 (.take 7 (.take 8 (.take 9 (.one 11 (.take 12 .done))))))))))))) (fun W => (W.cell? ⟨w.heap.size, 0, none⟩ = some (.string D.a) ∧ W.cell? ⟨w.heap.size, 1, none⟩ = some (.string D.b)) ∧ W.cell? (ad.add (k * 5)) = some (.int .u64 (sv l k).q) ∧ W.cell? ⟨(ad.add (k * 5)).block, (ad.add (k * 5)).off + 1, none⟩ = some (.int .u64 (sv l k).b) ∧ W.cell? ⟨(ad.add (k * 5)).block, (ad.add (k * 5)).off + 2, none⟩ = some (.int .u64 (sv l k).i) ∧ W.cell? ⟨(ad.add (k * 5)).block, (ad.add (k * 5)).off + 3, none⟩ = some (.int .u64 (sv l k).e) ∧ W.cell? ⟨(ad.add (k * 5)).block, (ad.add (k * 5)).off + 4, none⟩ = some (.int .i64 (sv l k).u)) (by kernel_rfl) (by kernel_rfl) (by kernel_rfl) (fun _ _ d _ _ h => by cases d <;> exact h) HS3 ?_
              simp only [pick3, opAt, List.drop_succ_cons, List.drop_zero]
              generalize hwe : w1.drew = we at *
              clear hwe
              obtain ⟨B0, hB0⟩ : ∃ B, B = we.heap.size := ⟨_, rfl⟩
              rw [← hB0] at HSf HTe HBf hlt
              have hB_0 : Hid (Below B0 we we) := Lib.hid (Below.refl _ _)
              have hz_0 : B0 ≤ we.heap.size := Nat.le_of_eq hB0
              clear hB0 HS3
              iterate 6 (first | (refine' p3_yes ?_ (by rfl) ?_ ?_; rotate_left; (intro w' hS; (try dsimp only at hS); go_simp; try (with_reducible rfl)); simp only [Act.put, List.setIfInBounds_toArray, List.set_cons_zero, List.set_cons_succ]) | (refine p3_no (by rfl) ?_; simp only [Act.put, List.setIfInBounds_toArray, List.set_cons_zero, List.set_cons_succ]))
              refine p3_two ?_ ?_
              · intro KK hK
                go_simp
                refine (HT1.out _ (HTe.out _ hB_0.out)).mono ?_
                rintro e wc1 ⟨rfl, hbx⟩
                have hB_1 := Lib.hid (hB_0.out.trans (hbx.mono hz_0))
                have hz_1 : B0 ≤ wc1.heap.size := Nat.le_trans hz_0 hbx.size
                clear hbx hB_0
                refine hK.out _ _ (HSf.out _ hB_1.out) ?_
                clear hK
                try simp only [Act.put, List.setIfInBounds_toArray, List.set_cons_zero, List.set_cons_succ]
                iterate 3 (first | (refine' p3_yes ?_ (by rfl) ?_ ?_; rotate_left; (intro w' hS; (try dsimp only at hS); go_simp; try (with_reducible rfl)); simp only [Act.put, List.setIfInBounds_toArray, List.set_cons_zero, List.set_cons_succ]) | (refine p3_no (by rfl) ?_; simp only [Act.put, List.setIfInBounds_toArray, List.set_cons_zero, List.set_cons_succ]))
                refine p3_one ?_
                intro KK hK
                go_simp
                have hbx : Below wc1.heap.size wc1 (wc1.alloc (.cells #[.string ⟨#[]⟩, .string ⟨#[]⟩] 23)) := (Below.refl _ _).alloc (Nat.le_refl _) _
                have hB_2 := Lib.hid (hB_1.out.trans (hbx.mono hz_1))
                have hz_2 : B0 ≤ (wc1.alloc (.cells #[.string ⟨#[]⟩, .string ⟨#[]⟩] 23)).heap.size := Nat.le_trans hz_1 hbx.size
                have hp_2 : Hid (DkW (wc1.alloc (.cells #[.string ⟨#[]⟩, .string ⟨#[]⟩] 23)) wc1.heap.size ⟨⟨#[]⟩, ⟨#[]⟩⟩) := Lib.hid (DkW.new wc1 ⟨⟨#[]⟩, ⟨#[]⟩⟩ _)
                clear hbx hB_1
                obtain ⟨wc2, ewc2⟩ : ∃ x, x = wc1.alloc (.cells #[.string ⟨#[]⟩, .string ⟨#[]⟩] 23) := ⟨_, rfl⟩
                rw [← ewc2] at hB_2 hz_2 hp_2 ⊢
                clear ewc2
                have hg : B0 ≤ wc1.heap.size := hz_1
                generalize wc1.heap.size = gn at *
                refine hK.out _ _ (HSf.out _ hB_2.out) ?_
                clear hK
                try simp only [Act.put, List.setIfInBounds_toArray, List.set_cons_zero, List.set_cons_succ]
                refine p3_one ?_
                intro KK hK
                obtain ⟨⟨x0, x1⟩, xf⟩ := hp_2.out
                try simp only at x0 x1
                go_simp
                have hB_s := Lib.hid (below_set2 hB_2.out hg (.string (X).a) (.string (X).b))
                have hp_s := Lib.hid (hp_2.out.set (X))
                clear x0 x1 xf hp_2 hB_2
                refine hK.out _ _ (HSf.out _ hB_s.out) ?_
                clear hK
                try simp only [Act.put, List.setIfInBounds_toArray, List.set_cons_zero, List.set_cons_succ]
                iterate 1 (first | (refine' p3_yes ?_ (by rfl) ?_ ?_; rotate_left; (intro w' hS; (try dsimp only at hS); go_simp; try (with_reducible rfl)); simp only [Act.put, List.setIfInBounds_toArray, List.set_cons_zero, List.set_cons_succ]) | (refine p3_no (by rfl) ?_; simp only [Act.put, List.setIfInBounds_toArray, List.set_cons_zero, List.set_cons_succ]))
                refine p3_done ?_
                go_wp2_with fail
                first | exact ⟨gn, rfl, rfl, by omega, Lib.hid hp_s.out.1, HBf.out _ hB_s.out⟩ | (go_meet; exact ⟨gn, rfl, rfl, by omega, Lib.hid hp_s.out.1, HBf.out _ hB_s.out⟩)
              · intro KK hK
                go_simp
                have hbx : Below we.heap.size we (we.alloc (.cells #[.string ⟨#[]⟩, .string ⟨#[]⟩] 23)) := (Below.refl _ _).alloc (Nat.le_refl _) _
                have hB_1 := Lib.hid (hB_0.out.trans (hbx.mono hz_0))
                have hz_1 : B0 ≤ (we.alloc (.cells #[.string ⟨#[]⟩, .string ⟨#[]⟩] 23)).heap.size := Nat.le_trans hz_0 hbx.size
                have hp_1 : Hid (DkW (we.alloc (.cells #[.string ⟨#[]⟩, .string ⟨#[]⟩] 23)) we.heap.size ⟨⟨#[]⟩, ⟨#[]⟩⟩) := Lib.hid (DkW.new we ⟨⟨#[]⟩, ⟨#[]⟩⟩ _)
                clear hbx hB_0
                obtain ⟨wc1, ewc1⟩ : ∃ x, x = we.alloc (.cells #[.string ⟨#[]⟩, .string ⟨#[]⟩] 23) := ⟨_, rfl⟩
                rw [← ewc1] at hB_1 hz_1 hp_1 ⊢
                clear ewc1
                have hg : B0 ≤ we.heap.size := hz_0
                generalize we.heap.size = gn at *
                refine hK.out _ _ (HSf.out _ hB_1.out) ?_
                clear hK
                try simp only [Act.put, List.setIfInBounds_toArray, List.set_cons_zero, List.set_cons_succ]
                refine p3_one ?_
                intro KK hK
                go_simp
                refine (HT1.out _ (HTe.out _ hB_1.out)).mono ?_
                rintro e wc2 ⟨rfl, hbx⟩
                have hB_2 := Lib.hid (hB_1.out.trans (hbx.mono hz_1))
                have hz_2 : B0 ≤ wc2.heap.size := Nat.le_trans hz_1 hbx.size
                have hp_2 := Lib.hid (hp_1.out.on hbx)
                clear hbx hB_1 hp_1
                refine hK.out _ _ (HSf.out _ hB_2.out) ?_
                clear hK
                try simp only [Act.put, List.setIfInBounds_toArray, List.set_cons_zero, List.set_cons_succ]
                iterate 3 (first | (refine' p3_yes ?_ (by rfl) ?_ ?_; rotate_left; (intro w' hS; (try dsimp only at hS); go_simp; try (with_reducible rfl)); simp only [Act.put, List.setIfInBounds_toArray, List.set_cons_zero, List.set_cons_succ]) | (refine p3_no (by rfl) ?_; simp only [Act.put, List.setIfInBounds_toArray, List.set_cons_zero, List.set_cons_succ]))
                refine p3_one ?_
                intro KK hK
                obtain ⟨⟨x0, x1⟩, xf⟩ := hp_2.out
                try simp only at x0 x1
                go_simp
                have hB_s := Lib.hid (below_set2 hB_2.out hg (.string (X).a) (.string (X).b))
                have hp_s := Lib.hid (hp_2.out.set (X))
                clear x0 x1 xf hp_2 hB_2
                refine hK.out _ _ (HSf.out _ hB_s.out) ?_
                clear hK
                try simp only [Act.put, List.setIfInBounds_toArray, List.set_cons_zero, List.set_cons_succ]
                iterate 1 (first | (refine' p3_yes ?_ (by rfl) ?_ ?_; rotate_left; (intro w' hS; (try dsimp only at hS); go_simp; try (with_reducible rfl)); simp only [Act.put, List.setIfInBounds_toArray, List.set_cons_zero, List.set_cons_succ]) | (refine p3_no (by rfl) ?_; simp only [Act.put, List.setIfInBounds_toArray, List.set_cons_zero, List.set_cons_succ]))
                refine p3_done ?_
                go_wp2_with fail
                first | exact ⟨gn, rfl, rfl, by omega, Lib.hid hp_s.out.1, HBf.out _ hB_s.out⟩ | (go_meet; exact ⟨gn, rfl, rfl, by omega, Lib.hid hp_s.out.1, HBf.out _ hB_s.out⟩)
            case rest =>
              obtain ⟨wd, ewd⟩ : ∃ x, x = wc := ⟨_, rfl⟩
              subst ewd
              obtain ⟨gx, rfl, rfl, hgx, hxd, hb⟩ := hcut
              have T_2 := Lib.hid (T_1.out.on hb.out)
              have B_2 := Lib.hid (B_1.out.trans (hb.out.mono B_1.out.size))
              have d_2 := Lib.hid (d_1.out.on hb.out)
              have s_2 := Lib.hid (s_1.out.on hb.out)
              have item_2 := Lib.hid (item_1.out.on hb.out)
              clear T_1 B_1 d_1 s_1 item_1
              clear hb HT1
              go_upto_region 11 with (fail)
              go_cut [12, 13] from 63 to 71 (fun v e wx => ∃ gn : Nat, v = .pointer (some ⟨gn, 0, none⟩) ∧ e = .int .i64 0 ∧ w.heap.size + 1 < gn ∧ Hid (DkA wx gn (Y)) ∧ Hid (Below wd.heap.size wd wx))
              case first =>
                have hd0 : Below wd.heap.size wd wd.drew := (Below.refl _ _).drew
                have HS3 : (fun W => (W.cell? ⟨w.heap.size, 0, none⟩ = some (.string D.a) ∧ W.cell? ⟨w.heap.size, 1, none⟩ = some (.string D.b)) ∧ W.cell? (ad.add (k * 5)) = some (.int .u64 (sv l k).q) ∧ W.cell? ⟨(ad.add (k * 5)).block, (ad.add (k * 5)).off + 1, none⟩ = some (.int .u64 (sv l k).b) ∧ W.cell? ⟨(ad.add (k * 5)).block, (ad.add (k * 5)).off + 2, none⟩ = some (.int .u64 (sv l k).i) ∧ W.cell? ⟨(ad.add (k * 5)).block, (ad.add (k * 5)).off + 3, none⟩ = some (.int .u64 (sv l k).e) ∧ W.cell? ⟨(ad.add (k * 5)).block, (ad.add (k * 5)).off + 4, none⟩ = some (.int .i64 (sv l k).u)) wd.drew := ⟨(d_2.out.on hd0).1, (item_2.out.on hd0).2.flat⟩
                have hlt := (s_2.out.on hd0).lt
                have HSf : Hid (∀ W, Below wd.drew.heap.size wd.drew W → (fun W => (W.cell? ⟨w.heap.size, 0, none⟩ = some (.string D.a) ∧ W.cell? ⟨w.heap.size, 1, none⟩ = some (.string D.b)) ∧ W.cell? (ad.add (k * 5)) = some (.int .u64 (sv l k).q) ∧ W.cell? ⟨(ad.add (k * 5)).block, (ad.add (k * 5)).off + 1, none⟩ = some (.int .u64 (sv l k).b) ∧ W.cell? ⟨(ad.add (k * 5)).block, (ad.add (k * 5)).off + 2, none⟩ = some (.int .u64 (sv l k).i) ∧ W.cell? ⟨(ad.add (k * 5)).block, (ad.add (k * 5)).off + 3, none⟩ = some (.int .u64 (sv l k).e) ∧ W.cell? ⟨(ad.add (k * 5)).block, (ad.add (k * 5)).off + 4, none⟩ = some (.int .i64 (sv l k).u)) W) := Lib.hid (fun W hb => ⟨((d_2.out.on hd0).on hb).1, ((item_2.out.on hd0).on hb).2.flat⟩)
                have HTe : Hid (∀ W, Below wd.drew.heap.size wd.drew W → Tab W) := Lib.hid (fun W hb => (T_2.out.on hd0).on hb)
                have HBf : Hid (∀ W, Below wd.drew.heap.size wd.drew W → Hid (Below wd.heap.size wd W)) := Lib.hid (fun W hb => Lib.hid (hd0.trans (hb.mono hd0.size)))
                clear hd0 T_2 d_2 s_2 item_2 B_2 HW HRX HRD hI hxd
                refine p3_enter (.take 0 (.take 1 (.take 2 (.take 3 (.take 4 (.two 5 (.take 6 (.take 7 (.take 8 (.one 9 (.one 10 (.take 11 .done)))))) 9 (.one 5 (.take 6 (.take 7 (.take 8 (.one 10 (.take 11 .done)))))))))))) (fun W => (W.cell? ⟨w.heap.size, 0, none⟩ = some (.string D.a) ∧ W.cell? ⟨w.heap.size, 1, none⟩ = some (.string D.b)) ∧ W.cell? (ad.add (k * 5)) = some (.int .u64 (sv l k).q) ∧ W.cell? ⟨(ad.add (k * 5)).block, (ad.add (k * 5)).off + 1, none⟩ = some (.int .u64 (sv l k).b) ∧ W.cell? ⟨(ad.add (k * 5)).block, (ad.add (k * 5)).off + 2, none⟩ = some (.int .u64 (sv l k).i) ∧ W.cell? ⟨(ad.add (k * 5)).block, (ad.add (k * 5)).off + 3, none⟩ = some (.int .u64 (sv l k).e) ∧ W.cell? ⟨(ad.add (k * 5)).block, (ad.add (k * 5)).off + 4, none⟩ = some (.int .i64 (sv l k).u)) (by kernel_rfl) (by kernel_rfl) (by kernel_rfl) (fun _ _ d _ _ h => by cases d <;> exact h) HS3 ?_
                simp only [pick3, opAt, List.drop_succ_cons, List.drop_zero]
                generalize hwe : wd.drew = we at *
                clear hwe
                obtain ⟨B0, hB0⟩ : ∃ B, B = we.heap.size := ⟨_, rfl⟩
                rw [← hB0] at HSf HTe HBf hlt
                have hB_0 : Hid (Below B0 we we) := Lib.hid (Below.refl _ _)
                have hz_0 : B0 ≤ we.heap.size := Nat.le_of_eq hB0
                clear hB0 HS3
                iterate 5 (first | (refine' p3_yes ?_ (by rfl) ?_ ?_; rotate_left; (intro w' hS; (try dsimp only at hS); go_simp; try (with_reducible rfl)); simp only [Act.put, List.setIfInBounds_toArray, List.set_cons_zero, List.set_cons_succ]) | (refine p3_no (by rfl) ?_; simp only [Act.put, List.setIfInBounds_toArray, List.set_cons_zero, List.set_cons_succ]))
                refine p3_two ?_ ?_
                · intro KK hK
                  go_simp
                  refine (HWR.out _ (HTe.out _ hB_0.out)).mono ?_
                  rintro e wc1 ⟨rfl, hbx⟩
                  have hB_1 := Lib.hid (hB_0.out.trans (hbx.mono hz_0))
                  have hz_1 : B0 ≤ wc1.heap.size := Nat.le_trans hz_0 hbx.size
                  clear hbx hB_0
                  refine hK.out _ _ (HSf.out _ hB_1.out) ?_
                  clear hK
                  try simp only [Act.put, List.setIfInBounds_toArray, List.set_cons_zero, List.set_cons_succ]
                  iterate 3 (first | (refine' p3_yes ?_ (by rfl) ?_ ?_; rotate_left; (intro w' hS; (try dsimp only at hS); go_simp; try (with_reducible rfl)); simp only [Act.put, List.setIfInBounds_toArray, List.set_cons_zero, List.set_cons_succ]) | (refine p3_no (by rfl) ?_; simp only [Act.put, List.setIfInBounds_toArray, List.set_cons_zero, List.set_cons_succ]))
                  refine p3_one ?_
                  intro KK hK
                  go_simp
                  have hbx : Below wc1.heap.size wc1 (wc1.alloc (.cells #[.string ⟨#[]⟩, .string ⟨#[]⟩] 23)) := (Below.refl _ _).alloc (Nat.le_refl _) _
                  have hB_2 := Lib.hid (hB_1.out.trans (hbx.mono hz_1))
                  have hz_2 : B0 ≤ (wc1.alloc (.cells #[.string ⟨#[]⟩, .string ⟨#[]⟩] 23)).heap.size := Nat.le_trans hz_1 hbx.size
                  have hp_2 : Hid (DkW (wc1.alloc (.cells #[.string ⟨#[]⟩, .string ⟨#[]⟩] 23)) wc1.heap.size ⟨⟨#[]⟩, ⟨#[]⟩⟩) := Lib.hid (DkW.new wc1 ⟨⟨#[]⟩, ⟨#[]⟩⟩ _)
                  clear hbx hB_1
                  obtain ⟨wc2, ewc2⟩ : ∃ x, x = wc1.alloc (.cells #[.string ⟨#[]⟩, .string ⟨#[]⟩] 23) := ⟨_, rfl⟩
                  rw [← ewc2] at hB_2 hz_2 hp_2 ⊢
                  clear ewc2
                  have hg : B0 ≤ wc1.heap.size := hz_1
                  generalize wc1.heap.size = gn at *
                  refine hK.out _ _ (HSf.out _ hB_2.out) ?_
                  clear hK
                  try simp only [Act.put, List.setIfInBounds_toArray, List.set_cons_zero, List.set_cons_succ]
                  refine p3_one ?_
                  intro KK hK
                  obtain ⟨⟨x0, x1⟩, xf⟩ := hp_2.out
                  try simp only at x0 x1
                  go_simp
                  have hB_s := Lib.hid (below_set2 hB_2.out hg (.string (Y).a) (.string (Y).b))
                  have hp_s := Lib.hid (hp_2.out.set (Y))
                  clear x0 x1 xf hp_2 hB_2
                  refine hK.out _ _ (HSf.out _ hB_s.out) ?_
                  clear hK
                  try simp only [Act.put, List.setIfInBounds_toArray, List.set_cons_zero, List.set_cons_succ]
                  iterate 1 (first | (refine' p3_yes ?_ (by rfl) ?_ ?_; rotate_left; (intro w' hS; (try dsimp only at hS); go_simp; try (with_reducible rfl)); simp only [Act.put, List.setIfInBounds_toArray, List.set_cons_zero, List.set_cons_succ]) | (refine p3_no (by rfl) ?_; simp only [Act.put, List.setIfInBounds_toArray, List.set_cons_zero, List.set_cons_succ]))
                  refine p3_done ?_
                  go_wp2_with fail
                  first | exact ⟨gn, rfl, rfl, by omega, Lib.hid hp_s.out.1, HBf.out _ hB_s.out⟩ | (go_meet; exact ⟨gn, rfl, rfl, by omega, Lib.hid hp_s.out.1, HBf.out _ hB_s.out⟩)
                · intro KK hK
                  go_simp
                  have hbx : Below we.heap.size we (we.alloc (.cells #[.string ⟨#[]⟩, .string ⟨#[]⟩] 23)) := (Below.refl _ _).alloc (Nat.le_refl _) _
                  have hB_1 := Lib.hid (hB_0.out.trans (hbx.mono hz_0))
                  have hz_1 : B0 ≤ (we.alloc (.cells #[.string ⟨#[]⟩, .string ⟨#[]⟩] 23)).heap.size := Nat.le_trans hz_0 hbx.size
                  have hp_1 : Hid (DkW (we.alloc (.cells #[.string ⟨#[]⟩, .string ⟨#[]⟩] 23)) we.heap.size ⟨⟨#[]⟩, ⟨#[]⟩⟩) := Lib.hid (DkW.new we ⟨⟨#[]⟩, ⟨#[]⟩⟩ _)
                  clear hbx hB_0
                  obtain ⟨wc1, ewc1⟩ : ∃ x, x = we.alloc (.cells #[.string ⟨#[]⟩, .string ⟨#[]⟩] 23) := ⟨_, rfl⟩
                  rw [← ewc1] at hB_1 hz_1 hp_1 ⊢
                  clear ewc1
                  have hg : B0 ≤ we.heap.size := hz_0
                  generalize we.heap.size = gn at *
                  refine hK.out _ _ (HSf.out _ hB_1.out) ?_
                  clear hK
                  try simp only [Act.put, List.setIfInBounds_toArray, List.set_cons_zero, List.set_cons_succ]
                  refine p3_one ?_
                  intro KK hK
                  go_simp
                  refine (HWR.out _ (HTe.out _ hB_1.out)).mono ?_
                  rintro e wc2 ⟨rfl, hbx⟩
                  have hB_2 := Lib.hid (hB_1.out.trans (hbx.mono hz_1))
                  have hz_2 : B0 ≤ wc2.heap.size := Nat.le_trans hz_1 hbx.size
                  have hp_2 := Lib.hid (hp_1.out.on hbx)
                  clear hbx hB_1 hp_1
                  refine hK.out _ _ (HSf.out _ hB_2.out) ?_
                  clear hK
                  try simp only [Act.put, List.setIfInBounds_toArray, List.set_cons_zero, List.set_cons_succ]
                  iterate 3 (first | (refine' p3_yes ?_ (by rfl) ?_ ?_; rotate_left; (intro w' hS; (try dsimp only at hS); go_simp; try (with_reducible rfl)); simp only [Act.put, List.setIfInBounds_toArray, List.set_cons_zero, List.set_cons_succ]) | (refine p3_no (by rfl) ?_; simp only [Act.put, List.setIfInBounds_toArray, List.set_cons_zero, List.set_cons_succ]))
                  refine p3_one ?_
                  intro KK hK
                  obtain ⟨⟨x0, x1⟩, xf⟩ := hp_2.out
                  try simp only at x0 x1
                  go_simp
                  have hB_s := Lib.hid (below_set2 hB_2.out hg (.string (Y).a) (.string (Y).b))
                  have hp_s := Lib.hid (hp_2.out.set (Y))
                  clear x0 x1 xf hp_2 hB_2
                  refine hK.out _ _ (HSf.out _ hB_s.out) ?_
                  clear hK
                  try simp only [Act.put, List.setIfInBounds_toArray, List.set_cons_zero, List.set_cons_succ]
                  iterate 1 (first | (refine' p3_yes ?_ (by rfl) ?_ ?_; rotate_left; (intro w' hS; (try dsimp only at hS); go_simp; try (with_reducible rfl)); simp only [Act.put, List.setIfInBounds_toArray, List.set_cons_zero, List.set_cons_succ]) | (refine p3_no (by rfl) ?_; simp only [Act.put, List.setIfInBounds_toArray, List.set_cons_zero, List.set_cons_succ]))
                  refine p3_done ?_
                  go_wp2_with fail
                  first | exact ⟨gn, rfl, rfl, by omega, Lib.hid hp_s.out.1, HBf.out _ hB_s.out⟩ | (go_meet; exact ⟨gn, rfl, rfl, by omega, Lib.hid hp_s.out.1, HBf.out _ hB_s.out⟩)
              case rest =>
                obtain ⟨we, ewe⟩ : ∃ x, x = wc := ⟨_, rfl⟩
                subst ewe
                obtain ⟨gy, rfl, rfl, hgy, hyd, hb⟩ := hcut
                have T_3 := Lib.hid (T_2.out.on hb.out)
                have B_3 := Lib.hid (B_2.out.trans (hb.out.mono B_2.out.size))
                have d_3 := Lib.hid (d_2.out.on hb.out)
                have s_3 := Lib.hid (s_2.out.on hb.out)
                have item_3 := Lib.hid (item_2.out.on hb.out)
                have x_3 := Lib.hid (hxd.out.on hb.out)
                clear T_2 B_2 d_2 s_2 item_2 hxd
                clear hb HWR
                go_upto_region 14 with (fail)
                have hrea := hI.out.rea
                have hSb := hI.out.b
                have hSi := hI.out.i
                have hSe := hI.out.e
                have hSu := hI.out.u
                generalize hasS D = S at *
                have hw := HW.out
                clear HW hI
                rcases hw with ⟨rfl, n1, n2, hin2⟩ | ⟨hne, n1, n2, hin2⟩
                · rw [n1, n2] at HRX
                  simp only at HRX
                  have z1 : (X.a.toList == X.a.toList) = true := by simp
                  have z2 : (X.b.toList == X.b.toList) = true := by simp
                  clear n1 n2 hSb hSi hSe hSu
                  rw [hrea] at HRD
                  generalize (if is = true then (0 : Int) else 6) = E at *
                  clear hrea
                  obtain ⟨x0, x1⟩ := x_3.out
                  try simp only at x0 x1
                  obtain ⟨y0, y1⟩ := hyd.out
                  try simp only at y0 y1
                  obtain ⟨⟨s0, s1, s2, s3, s4⟩, sf⟩ := s_3.out
                  try simp only at s0 s1 s2 s3 s4
                  obtain ⟨i0, i1, i2, i3, i4⟩ := item_3.out.2.flat
                  go_upto_region 16 with (fail)
                  have HSw := Lib.hid (s_3.out.set (sv l k))
                  have HDw := Lib.hid (((((d_3.out.other (p := ⟨w.heap.size + 1, 0, none⟩) (by show w.heap.size + 1 ≠ w.heap.size; omega) (.int .u64 (sv l k).q)).other (p := ⟨w.heap.size + 1, 1, none⟩) (by show w.heap.size + 1 ≠ w.heap.size; omega) (.int .u64 (sv l k).b)).other (p := ⟨w.heap.size + 1, 2, none⟩) (by show w.heap.size + 1 ≠ w.heap.size; omega) (.int .u64 (sv l k).i)).other (p := ⟨w.heap.size + 1, 3, none⟩) (by show w.heap.size + 1 ≠ w.heap.size; omega) (.int .u64 (sv l k).e)).other (p := ⟨w.heap.size + 1, 4, none⟩) (by show w.heap.size + 1 ≠ w.heap.size; omega) (.int .i64 (sv l k).u))
                  have HXw := Lib.hid (dka_other (dka_other (dka_other (dka_other (dka_other x_3.out (p := ⟨w.heap.size + 1, 0, none⟩) (by show w.heap.size + 1 ≠ gx; omega) (.int .u64 (sv l k).q)) (p := ⟨w.heap.size + 1, 1, none⟩) (by show w.heap.size + 1 ≠ gx; omega) (.int .u64 (sv l k).b)) (p := ⟨w.heap.size + 1, 2, none⟩) (by show w.heap.size + 1 ≠ gx; omega) (.int .u64 (sv l k).i)) (p := ⟨w.heap.size + 1, 3, none⟩) (by show w.heap.size + 1 ≠ gx; omega) (.int .u64 (sv l k).e)) (p := ⟨w.heap.size + 1, 4, none⟩) (by show w.heap.size + 1 ≠ gx; omega) (.int .i64 (sv l k).u))
                  have HTw := Lib.hid (tab_set (tab_set (tab_set (tab_set (tab_set T_3.out (p := ⟨w.heap.size + 1, 0, none⟩) (by show ¬ w.heap.size + 1 = 0; omega) (.int .u64 (sv l k).q)) (p := ⟨w.heap.size + 1, 1, none⟩) (by show ¬ w.heap.size + 1 = 0; omega) (.int .u64 (sv l k).b)) (p := ⟨w.heap.size + 1, 2, none⟩) (by show ¬ w.heap.size + 1 = 0; omega) (.int .u64 (sv l k).i)) (p := ⟨w.heap.size + 1, 3, none⟩) (by show ¬ w.heap.size + 1 = 0; omega) (.int .u64 (sv l k).e)) (p := ⟨w.heap.size + 1, 4, none⟩) (by show ¬ w.heap.size + 1 = 0; omega) (.int .i64 (sv l k).u))
                  have HBw := Lib.hid (below_set5 B_3.out (show w.heap.size ≤ w.heap.size + 1 by omega) (.int .u64 (sv l k).q) (.int .u64 (sv l k).b) (.int .u64 (sv l k).i) (.int .u64 (sv l k).e) (.int .i64 (sv l k).u))
                  clear i0 i1 i2 i3 i4
                  clear x0 x1
                  clear y0 y1
                  clear s0 s1 s2 s3 s4 sf
                  clear item_3 hyd d_3 x_3 T_3 B_3 s_3
                  generalize ((((we.setCell ⟨w.heap.size + 1, 0, none⟩ (.int .u64 (sv l k).q)).setCell ⟨w.heap.size + 1, 1, none⟩ (.int .u64 (sv l k).b)).setCell ⟨w.heap.size + 1, 2, none⟩ (.int .u64 (sv l k).i)).setCell ⟨w.heap.size + 1, 3, none⟩ (.int .u64 (sv l k).e)).setCell ⟨w.heap.size + 1, 4, none⟩ (.int .i64 (sv l k).u) = wz at *
                  obtain ⟨⟨d0, d1⟩, df⟩ := HDw.out
                  try simp only at d0 d1
                  go_wp2_with fail
                  refine (HRD.out _ HTw.out).mono ?_
                  rintro e w2 ⟨rfl, hb⟩
                  clear d0 d1 df
                  have T_4 := Lib.hid (HTw.out.on hb)
                  have B_4 := Lib.hid (HBw.out.trans (hb.mono HBw.out.size))
                  have d_4 := Lib.hid (HDw.out.on hb)
                  have s_4 := Lib.hid (HSw.out.on hb)
                  have x_4 := Lib.hid (HXw.out.on hb)
                  clear HTw HBw HDw HSw HXw
                  clear hb
                  have hbn : Below w2.heap.size w2 (w2.alloc (.cells #[.int .u64 S.q, .int .u64 S.b, .int .u64 S.i, .int .u64 S.e, .int .i64 S.u] 26)) := (Below.refl _ _).alloc (Nat.le_refl _) _
                  have T_5 := Lib.hid (T_4.out.on hbn)
                  have B_5 := Lib.hid (B_4.out.trans (hbn.mono B_4.out.size))
                  have d_5 := Lib.hid (d_4.out.on hbn)
                  have s_5 := Lib.hid (s_4.out.on hbn)
                  have x_5 := Lib.hid (x_4.out.on hbn)
                  clear T_4 B_4 d_4 s_4 x_4
                  have a_5 : Hid (SvA (w2.alloc (.cells #[.int .u64 S.q, .int .u64 S.b, .int .u64 S.i, .int .u64 S.e, .int .i64 S.u] 26)) w2.heap.size S) := Lib.hid (SvA.new w2 S _)
                  clear hbn
                  go_upto_region 17 with (fail)
                  generalize w2.alloc (.cells #[.int .u64 S.q, .int .u64 S.b, .int .u64 S.i, .int .u64 S.e, .int .i64 S.u] 26) = w3 at *
                  generalize w2.heap.size = ga at *
                  obtain ⟨x0, x1⟩ := x_5.out
                  try simp only at x0 x1
                  go_wp2_with fail
                  refine (HRX.out _ T_5.out).mono ?_
                  rintro e w4 ⟨rfl, hb⟩
                  clear x0 x1
                  have T_6 := Lib.hid (T_5.out.on hb)
                  have B_6 := Lib.hid (B_5.out.trans (hb.mono B_5.out.size))
                  have d_6 := Lib.hid (d_5.out.on hb)
                  have s_6 := Lib.hid (s_5.out.on hb)
                  have x_6 := Lib.hid (x_5.out.on hb)
                  have a_6 := Lib.hid (a_5.out.on hb)
                  clear T_5 B_5 d_5 s_5 x_5 a_5
                  clear hb
                  have hbn : Below w4.heap.size w4 (w4.alloc (.cells #[.int .u64 (S.q + 1), .int .u64 (sv l k).b, .int .u64 (sv l k).i, .int .u64 (sv l k).e, .int .i64 (sv l k).u] 26)) := (Below.refl _ _).alloc (Nat.le_refl _) _
                  have T_7 := Lib.hid (T_6.out.on hbn)
                  have B_7 := Lib.hid (B_6.out.trans (hbn.mono B_6.out.size))
                  have d_7 := Lib.hid (d_6.out.on hbn)
                  have s_7 := Lib.hid (s_6.out.on hbn)
                  have x_7 := Lib.hid (x_6.out.on hbn)
                  have a_7 := Lib.hid (a_6.out.on hbn)
                  clear T_6 B_6 d_6 s_6 x_6 a_6
                  have n_7 : Hid (SvA (w4.alloc (.cells #[.int .u64 (S.q + 1), .int .u64 (sv l k).b, .int .u64 (sv l k).i, .int .u64 (sv l k).e, .int .i64 (sv l k).u] 26)) w4.heap.size (⟨S.q + 1, (sv l k).b, (sv l k).i, (sv l k).e, (sv l k).u⟩ : Sv)) := Lib.hid (SvA.new w4 (⟨S.q + 1, (sv l k).b, (sv l k).i, (sv l k).e, (sv l k).u⟩ : Sv) _)
                  clear hbn
                  go_upto_region 18 with (fail)
                  generalize w4.alloc (.cells #[.int .u64 (S.q + 1), .int .u64 (sv l k).b, .int .u64 (sv l k).i, .int .u64 (sv l k).e, .int .i64 (sv l k).u] 26) = w5 at *
                  generalize w4.heap.size = gn at *
                  obtain ⟨n0, n1, n2, n3, n4⟩ := n_7.out
                  try simp only at n0 n1 n2 n3 n4
                  obtain ⟨a0, a1, a2, a3, a4⟩ := a_7.out
                  try simp only at a0 a1 a2 a3 a4
                  obtain ⟨⟨s0, s1, s2, s3, s4⟩, sf⟩ := s_7.out
                  try simp only at s0 s1 s2 s3 s4
                  have y1 : decide (S.q + 1 < S.q) = false := decide_eq_false (by omega)
                  go_upto_region 20 with (fail)
                  clear n0 n1 n2 n3 n4
                  clear a0 a1 a2 a3 a4
                  clear s0 s1 s2 s3 s4 sf
                  obtain ⟨x0, x1⟩ := x_7.out
                  try simp only at x0 x1
                  obtain ⟨⟨d0, d1⟩, df⟩ := d_7.out
                  try simp only at d0 d1
                  go_wp2_with fail
                  have HDn := Lib.hid (d_7.out.set X)
                  have HSn := Lib.hid ((s_7.out.apart (p := ⟨w.heap.size, 0, none⟩) (by show w.heap.size ≠ w.heap.size + 1; omega) (.string X.a)).apart (p := ⟨w.heap.size, 1, none⟩) (by show w.heap.size ≠ w.heap.size + 1; omega) (.string X.b))
                  have HTn := Lib.hid (tab_set (tab_set T_7.out (p := ⟨w.heap.size, 0, none⟩) (by show ¬ w.heap.size = 0; omega) (.string X.a)) (p := ⟨w.heap.size, 1, none⟩) (by show ¬ w.heap.size = 0; omega) (.string X.b))
                  have HBn := Lib.hid (below_set2 B_7.out (Nat.le_refl _) (.string X.a) (.string X.b))
                  go_roundw
                  case rel => exact ⟨k + 1, X, (sv l k), true, rfl, by go_num, by omega, hx1, hx2, Lib.hid hin2, HDn, HSn, HTn, HBn⟩
                  case measure => simp [intOf]; omega
                · rw [n1, n2] at HRX
                  clear n1 n2
                  have y1 : decide (S.q < S.q) = false := decide_eq_false (by omega)
                  rcases hne with hne | ⟨he, hne⟩
                  · have z1 : (X.a.toList == Y.a.toList) = false := by rw [beq_eq_false_iff_ne]; exact fun h => hne (text_eq h)
                    clear hne
                    rcases is with _ | _
                    · rw [if_neg (by decide)] at hrea
                      rw [hrea] at HRD HRX
                      clear hrea hSb hSi hSe hSu
                      obtain ⟨x0, x1⟩ := x_3.out
                      try simp only at x0 x1
                      obtain ⟨y0, y1⟩ := hyd.out
                      try simp only at y0 y1
                      go_upto_region 16 with (fail)
                      clear x0 x1
                      clear y0 y1
                      clear item_3 hyd
                      obtain ⟨⟨d0, d1⟩, df⟩ := d_3.out
                      try simp only at d0 d1
                      go_wp2_with fail
                      refine (HRD.out _ T_3.out).mono ?_
                      rintro e w2 ⟨rfl, hb⟩
                      clear d0 d1 df
                      have T_4 := Lib.hid (T_3.out.on hb)
                      have B_4 := Lib.hid (B_3.out.trans (hb.mono B_3.out.size))
                      have d_4 := Lib.hid (d_3.out.on hb)
                      have s_4 := Lib.hid (s_3.out.on hb)
                      have x_4 := Lib.hid (x_3.out.on hb)
                      clear T_3 B_3 d_3 s_3 x_3
                      clear hb
                      have hbn : Below w2.heap.size w2 (w2.alloc (.cells #[.int .u64 S.q, .int .u64 S.b, .int .u64 S.i, .int .u64 S.e, .int .i64 S.u] 26)) := (Below.refl _ _).alloc (Nat.le_refl _) _
                      have T_5 := Lib.hid (T_4.out.on hbn)
                      have B_5 := Lib.hid (B_4.out.trans (hbn.mono B_4.out.size))
                      have d_5 := Lib.hid (d_4.out.on hbn)
                      have s_5 := Lib.hid (s_4.out.on hbn)
                      have x_5 := Lib.hid (x_4.out.on hbn)
                      clear T_4 B_4 d_4 s_4 x_4
                      have a_5 : Hid (SvA (w2.alloc (.cells #[.int .u64 S.q, .int .u64 S.b, .int .u64 S.i, .int .u64 S.e, .int .i64 S.u] 26)) w2.heap.size S) := Lib.hid (SvA.new w2 S _)
                      clear hbn
                      go_upto_region 17 with (fail)
                      generalize w2.alloc (.cells #[.int .u64 S.q, .int .u64 S.b, .int .u64 S.i, .int .u64 S.e, .int .i64 S.u] 26) = w3 at *
                      generalize w2.heap.size = ga at *
                      obtain ⟨x0, x1⟩ := x_5.out
                      try simp only at x0 x1
                      go_wp2_with fail
                      refine (HRX.out _ T_5.out).mono ?_
                      rintro e w4 ⟨rfl, hb⟩
                      clear x0 x1
                      have T_6 := Lib.hid (T_5.out.on hb)
                      have B_6 := Lib.hid (B_5.out.trans (hb.mono B_5.out.size))
                      have d_6 := Lib.hid (d_5.out.on hb)
                      have s_6 := Lib.hid (s_5.out.on hb)
                      have x_6 := Lib.hid (x_5.out.on hb)
                      have a_6 := Lib.hid (a_5.out.on hb)
                      clear T_5 B_5 d_5 s_5 x_5 a_5
                      clear hb
                      have hbn : Below w4.heap.size w4 (w4.alloc (.cells #[.int .u64 S.q, .int .u64 S.b, .int .u64 S.i, .int .u64 S.e, .int .i64 S.u] 26)) := (Below.refl _ _).alloc (Nat.le_refl _) _
                      have T_7 := Lib.hid (T_6.out.on hbn)
                      have B_7 := Lib.hid (B_6.out.trans (hbn.mono B_6.out.size))
                      have d_7 := Lib.hid (d_6.out.on hbn)
                      have s_7 := Lib.hid (s_6.out.on hbn)
                      have x_7 := Lib.hid (x_6.out.on hbn)
                      have a_7 := Lib.hid (a_6.out.on hbn)
                      clear T_6 B_6 d_6 s_6 x_6 a_6
                      have n_7 : Hid (SvA (w4.alloc (.cells #[.int .u64 S.q, .int .u64 S.b, .int .u64 S.i, .int .u64 S.e, .int .i64 S.u] 26)) w4.heap.size S) := Lib.hid (SvA.new w4 S _)
                      clear hbn
                      go_upto_region 18 with (fail)
                      generalize w4.alloc (.cells #[.int .u64 S.q, .int .u64 S.b, .int .u64 S.i, .int .u64 S.e, .int .i64 S.u] 26) = w5 at *
                      generalize w4.heap.size = gn at *
                      obtain ⟨n0, n1, n2, n3, n4⟩ := n_7.out
                      try simp only at n0 n1 n2 n3 n4
                      obtain ⟨a0, a1, a2, a3, a4⟩ := a_7.out
                      try simp only at a0 a1 a2 a3 a4
                      go_upto_region 20 with (fail)
                      clear n0 n1 n2 n3 n4
                      clear a0 a1 a2 a3 a4
                      obtain ⟨x0, x1⟩ := x_7.out
                      try simp only at x0 x1
                      obtain ⟨⟨d0, d1⟩, df⟩ := d_7.out
                      try simp only at d0 d1
                      go_wp2_with fail
                      have HDn := Lib.hid (d_7.out.set X)
                      have HSn := Lib.hid ((s_7.out.apart (p := ⟨w.heap.size, 0, none⟩) (by show w.heap.size ≠ w.heap.size + 1; omega) (.string X.a)).apart (p := ⟨w.heap.size, 1, none⟩) (by show w.heap.size ≠ w.heap.size + 1; omega) (.string X.b))
                      have HTn := Lib.hid (tab_set (tab_set T_7.out (p := ⟨w.heap.size, 0, none⟩) (by show ¬ w.heap.size = 0; omega) (.string X.a)) (p := ⟨w.heap.size, 1, none⟩) (by show ¬ w.heap.size = 0; omega) (.string X.b))
                      have HBn := Lib.hid (below_set2 B_7.out (Nat.le_refl _) (.string X.a) (.string X.b))
                      go_roundw
                      case rel => exact ⟨k + 1, X, La, false, rfl, by go_num, by omega, hx1, hx2, Lib.hid hin2, HDn, HSn, HTn, HBn⟩
                      case measure => simp [intOf]; omega
                    · rw [if_pos rfl] at hrea
                      rw [hrea] at HRD HRX
                      have eLa : La = ⟨La.q, S.b, S.i, S.e, S.u⟩ := by rw [hSb rfl, hSi rfl, hSe rfl, hSu rfl]
                      have HLa := Lib.hid eLa
                      clear eLa hrea hSb hSi hSe hSu
                      obtain ⟨x0, x1⟩ := x_3.out
                      try simp only at x0 x1
                      obtain ⟨y0, y1⟩ := hyd.out
                      try simp only at y0 y1
                      go_upto_region 16 with (fail)
                      clear x0 x1
                      clear y0 y1
                      clear item_3 hyd
                      obtain ⟨⟨d0, d1⟩, df⟩ := d_3.out
                      try simp only at d0 d1
                      go_wp2_with fail
                      refine (HRD.out _ T_3.out).mono ?_
                      rintro e w2 ⟨rfl, hb⟩
                      clear d0 d1 df
                      have T_4 := Lib.hid (T_3.out.on hb)
                      have B_4 := Lib.hid (B_3.out.trans (hb.mono B_3.out.size))
                      have d_4 := Lib.hid (d_3.out.on hb)
                      have s_4 := Lib.hid (s_3.out.on hb)
                      have x_4 := Lib.hid (x_3.out.on hb)
                      clear T_3 B_3 d_3 s_3 x_3
                      clear hb
                      have hbn : Below w2.heap.size w2 (w2.alloc (.cells #[.int .u64 S.q, .int .u64 S.b, .int .u64 S.i, .int .u64 S.e, .int .i64 S.u] 26)) := (Below.refl _ _).alloc (Nat.le_refl _) _
                      have T_5 := Lib.hid (T_4.out.on hbn)
                      have B_5 := Lib.hid (B_4.out.trans (hbn.mono B_4.out.size))
                      have d_5 := Lib.hid (d_4.out.on hbn)
                      have s_5 := Lib.hid (s_4.out.on hbn)
                      have x_5 := Lib.hid (x_4.out.on hbn)
                      clear T_4 B_4 d_4 s_4 x_4
                      have a_5 : Hid (SvA (w2.alloc (.cells #[.int .u64 S.q, .int .u64 S.b, .int .u64 S.i, .int .u64 S.e, .int .i64 S.u] 26)) w2.heap.size S) := Lib.hid (SvA.new w2 S _)
                      clear hbn
                      go_upto_region 17 with (fail)
                      generalize w2.alloc (.cells #[.int .u64 S.q, .int .u64 S.b, .int .u64 S.i, .int .u64 S.e, .int .i64 S.u] 26) = w3 at *
                      generalize w2.heap.size = ga at *
                      obtain ⟨x0, x1⟩ := x_5.out
                      try simp only at x0 x1
                      go_wp2_with fail
                      refine (HRX.out _ T_5.out).mono ?_
                      rintro e w4 ⟨rfl, hb⟩
                      clear x0 x1
                      have T_6 := Lib.hid (T_5.out.on hb)
                      have B_6 := Lib.hid (B_5.out.trans (hb.mono B_5.out.size))
                      have d_6 := Lib.hid (d_5.out.on hb)
                      have s_6 := Lib.hid (s_5.out.on hb)
                      have x_6 := Lib.hid (x_5.out.on hb)
                      have a_6 := Lib.hid (a_5.out.on hb)
                      clear T_5 B_5 d_5 s_5 x_5 a_5
                      clear hb
                      have hbn : Below w4.heap.size w4 (w4.alloc (.cells #[.int .u64 S.q, .int .u64 S.b, .int .u64 S.i, .int .u64 S.e, .int .i64 S.u] 26)) := (Below.refl _ _).alloc (Nat.le_refl _) _
                      have T_7 := Lib.hid (T_6.out.on hbn)
                      have B_7 := Lib.hid (B_6.out.trans (hbn.mono B_6.out.size))
                      have d_7 := Lib.hid (d_6.out.on hbn)
                      have s_7 := Lib.hid (s_6.out.on hbn)
                      have x_7 := Lib.hid (x_6.out.on hbn)
                      have a_7 := Lib.hid (a_6.out.on hbn)
                      clear T_6 B_6 d_6 s_6 x_6 a_6
                      have n_7 : Hid (SvA (w4.alloc (.cells #[.int .u64 S.q, .int .u64 S.b, .int .u64 S.i, .int .u64 S.e, .int .i64 S.u] 26)) w4.heap.size S) := Lib.hid (SvA.new w4 S _)
                      clear hbn
                      go_upto_region 18 with (fail)
                      generalize w4.alloc (.cells #[.int .u64 S.q, .int .u64 S.b, .int .u64 S.i, .int .u64 S.e, .int .i64 S.u] 26) = w5 at *
                      generalize w4.heap.size = gn at *
                      obtain ⟨n0, n1, n2, n3, n4⟩ := n_7.out
                      try simp only at n0 n1 n2 n3 n4
                      obtain ⟨a0, a1, a2, a3, a4⟩ := a_7.out
                      try simp only at a0 a1 a2 a3 a4
                      have hs2 := s_7.out
                      rw [HLa.out] at hs2
                      obtain ⟨⟨s0, s1, s2, s3, s4⟩, sf⟩ := hs2
                      simp only at s0 s1 s2 s3 s4
                      go_upto_region 20 with (fail)
                      clear n0 n1 n2 n3 n4
                      clear s0 s1 s2 s3 s4 sf
                      clear a0 a1 a2 a3 a4
                      obtain ⟨x0, x1⟩ := x_7.out
                      try simp only at x0 x1
                      obtain ⟨⟨d0, d1⟩, df⟩ := d_7.out
                      try simp only at d0 d1
                      go_wp2_with fail
                      have HDn := Lib.hid (d_7.out.set X)
                      have HSn := Lib.hid ((s_7.out.apart (p := ⟨w.heap.size, 0, none⟩) (by show w.heap.size ≠ w.heap.size + 1; omega) (.string X.a)).apart (p := ⟨w.heap.size, 1, none⟩) (by show w.heap.size ≠ w.heap.size + 1; omega) (.string X.b))
                      have HTn := Lib.hid (tab_set (tab_set T_7.out (p := ⟨w.heap.size, 0, none⟩) (by show ¬ w.heap.size = 0; omega) (.string X.a)) (p := ⟨w.heap.size, 1, none⟩) (by show ¬ w.heap.size = 0; omega) (.string X.b))
                      have HBn := Lib.hid (below_set2 B_7.out (Nat.le_refl _) (.string X.a) (.string X.b))
                      go_roundw
                      case rel => exact ⟨k + 1, X, La, true, rfl, by go_num, by omega, hx1, hx2, Lib.hid hin2, HDn, HSn, HTn, HBn⟩
                      case measure => simp [intOf]; omega
                  · have z1 : (X.a.toList == Y.a.toList) = true := by rw [he]; simp
                    have z2 : (X.b.toList == Y.b.toList) = false := by rw [beq_eq_false_iff_ne]; exact fun h => hne (text_eq h)
                    clear hne he
                    rcases is with _ | _
                    · rw [if_neg (by decide)] at hrea
                      rw [hrea] at HRD HRX
                      clear hrea hSb hSi hSe hSu
                      obtain ⟨x0, x1⟩ := x_3.out
                      try simp only at x0 x1
                      obtain ⟨y0, y1⟩ := hyd.out
                      try simp only at y0 y1
                      go_upto_region 16 with (fail)
                      clear x0 x1
                      clear y0 y1
                      clear item_3 hyd
                      obtain ⟨⟨d0, d1⟩, df⟩ := d_3.out
                      try simp only at d0 d1
                      go_wp2_with fail
                      refine (HRD.out _ T_3.out).mono ?_
                      rintro e w2 ⟨rfl, hb⟩
                      clear d0 d1 df
                      have T_4 := Lib.hid (T_3.out.on hb)
                      have B_4 := Lib.hid (B_3.out.trans (hb.mono B_3.out.size))
                      have d_4 := Lib.hid (d_3.out.on hb)
                      have s_4 := Lib.hid (s_3.out.on hb)
                      have x_4 := Lib.hid (x_3.out.on hb)
                      clear T_3 B_3 d_3 s_3 x_3
                      clear hb
                      have hbn : Below w2.heap.size w2 (w2.alloc (.cells #[.int .u64 S.q, .int .u64 S.b, .int .u64 S.i, .int .u64 S.e, .int .i64 S.u] 26)) := (Below.refl _ _).alloc (Nat.le_refl _) _
                      have T_5 := Lib.hid (T_4.out.on hbn)
                      have B_5 := Lib.hid (B_4.out.trans (hbn.mono B_4.out.size))
                      have d_5 := Lib.hid (d_4.out.on hbn)
                      have s_5 := Lib.hid (s_4.out.on hbn)
                      have x_5 := Lib.hid (x_4.out.on hbn)
                      clear T_4 B_4 d_4 s_4 x_4
                      have a_5 : Hid (SvA (w2.alloc (.cells #[.int .u64 S.q, .int .u64 S.b, .int .u64 S.i, .int .u64 S.e, .int .i64 S.u] 26)) w2.heap.size S) := Lib.hid (SvA.new w2 S _)
                      clear hbn
                      go_upto_region 17 with (fail)
                      generalize w2.alloc (.cells #[.int .u64 S.q, .int .u64 S.b, .int .u64 S.i, .int .u64 S.e, .int .i64 S.u] 26) = w3 at *
                      generalize w2.heap.size = ga at *
                      obtain ⟨x0, x1⟩ := x_5.out
                      try simp only at x0 x1
                      go_wp2_with fail
                      refine (HRX.out _ T_5.out).mono ?_
                      rintro e w4 ⟨rfl, hb⟩
                      clear x0 x1
                      have T_6 := Lib.hid (T_5.out.on hb)
                      have B_6 := Lib.hid (B_5.out.trans (hb.mono B_5.out.size))
                      have d_6 := Lib.hid (d_5.out.on hb)
                      have s_6 := Lib.hid (s_5.out.on hb)
                      have x_6 := Lib.hid (x_5.out.on hb)
                      have a_6 := Lib.hid (a_5.out.on hb)
                      clear T_5 B_5 d_5 s_5 x_5 a_5
                      clear hb
                      have hbn : Below w4.heap.size w4 (w4.alloc (.cells #[.int .u64 S.q, .int .u64 S.b, .int .u64 S.i, .int .u64 S.e, .int .i64 S.u] 26)) := (Below.refl _ _).alloc (Nat.le_refl _) _
                      have T_7 := Lib.hid (T_6.out.on hbn)
                      have B_7 := Lib.hid (B_6.out.trans (hbn.mono B_6.out.size))
                      have d_7 := Lib.hid (d_6.out.on hbn)
                      have s_7 := Lib.hid (s_6.out.on hbn)
                      have x_7 := Lib.hid (x_6.out.on hbn)
                      have a_7 := Lib.hid (a_6.out.on hbn)
                      clear T_6 B_6 d_6 s_6 x_6 a_6
                      have n_7 : Hid (SvA (w4.alloc (.cells #[.int .u64 S.q, .int .u64 S.b, .int .u64 S.i, .int .u64 S.e, .int .i64 S.u] 26)) w4.heap.size S) := Lib.hid (SvA.new w4 S _)
                      clear hbn
                      go_upto_region 18 with (fail)
                      generalize w4.alloc (.cells #[.int .u64 S.q, .int .u64 S.b, .int .u64 S.i, .int .u64 S.e, .int .i64 S.u] 26) = w5 at *
                      generalize w4.heap.size = gn at *
                      obtain ⟨n0, n1, n2, n3, n4⟩ := n_7.out
                      try simp only at n0 n1 n2 n3 n4
                      obtain ⟨a0, a1, a2, a3, a4⟩ := a_7.out
                      try simp only at a0 a1 a2 a3 a4
                      go_upto_region 20 with (fail)
                      clear n0 n1 n2 n3 n4
                      clear a0 a1 a2 a3 a4
                      obtain ⟨x0, x1⟩ := x_7.out
                      try simp only at x0 x1
                      obtain ⟨⟨d0, d1⟩, df⟩ := d_7.out
                      try simp only at d0 d1
                      go_wp2_with fail
                      have HDn := Lib.hid (d_7.out.set X)
                      have HSn := Lib.hid ((s_7.out.apart (p := ⟨w.heap.size, 0, none⟩) (by show w.heap.size ≠ w.heap.size + 1; omega) (.string X.a)).apart (p := ⟨w.heap.size, 1, none⟩) (by show w.heap.size ≠ w.heap.size + 1; omega) (.string X.b))
                      have HTn := Lib.hid (tab_set (tab_set T_7.out (p := ⟨w.heap.size, 0, none⟩) (by show ¬ w.heap.size = 0; omega) (.string X.a)) (p := ⟨w.heap.size, 1, none⟩) (by show ¬ w.heap.size = 0; omega) (.string X.b))
                      have HBn := Lib.hid (below_set2 B_7.out (Nat.le_refl _) (.string X.a) (.string X.b))
                      go_roundw
                      case rel => exact ⟨k + 1, X, La, false, rfl, by go_num, by omega, hx1, hx2, Lib.hid hin2, HDn, HSn, HTn, HBn⟩
                      case measure => simp [intOf]; omega
                    · rw [if_pos rfl] at hrea
                      rw [hrea] at HRD HRX
                      have eLa : La = ⟨La.q, S.b, S.i, S.e, S.u⟩ := by rw [hSb rfl, hSi rfl, hSe rfl, hSu rfl]
                      have HLa := Lib.hid eLa
                      clear eLa hrea hSb hSi hSe hSu
                      obtain ⟨x0, x1⟩ := x_3.out
                      try simp only at x0 x1
                      obtain ⟨y0, y1⟩ := hyd.out
                      try simp only at y0 y1
                      go_upto_region 16 with (fail)
                      clear x0 x1
                      clear y0 y1
                      clear item_3 hyd
                      obtain ⟨⟨d0, d1⟩, df⟩ := d_3.out
                      try simp only at d0 d1
                      go_wp2_with fail
                      refine (HRD.out _ T_3.out).mono ?_
                      rintro e w2 ⟨rfl, hb⟩
                      clear d0 d1 df
                      have T_4 := Lib.hid (T_3.out.on hb)
                      have B_4 := Lib.hid (B_3.out.trans (hb.mono B_3.out.size))
                      have d_4 := Lib.hid (d_3.out.on hb)
                      have s_4 := Lib.hid (s_3.out.on hb)
                      have x_4 := Lib.hid (x_3.out.on hb)
                      clear T_3 B_3 d_3 s_3 x_3
                      clear hb
                      have hbn : Below w2.heap.size w2 (w2.alloc (.cells #[.int .u64 S.q, .int .u64 S.b, .int .u64 S.i, .int .u64 S.e, .int .i64 S.u] 26)) := (Below.refl _ _).alloc (Nat.le_refl _) _
                      have T_5 := Lib.hid (T_4.out.on hbn)
                      have B_5 := Lib.hid (B_4.out.trans (hbn.mono B_4.out.size))
                      have d_5 := Lib.hid (d_4.out.on hbn)
                      have s_5 := Lib.hid (s_4.out.on hbn)
                      have x_5 := Lib.hid (x_4.out.on hbn)
                      clear T_4 B_4 d_4 s_4 x_4
                      have a_5 : Hid (SvA (w2.alloc (.cells #[.int .u64 S.q, .int .u64 S.b, .int .u64 S.i, .int .u64 S.e, .int .i64 S.u] 26)) w2.heap.size S) := Lib.hid (SvA.new w2 S _)
                      clear hbn
                      go_upto_region 17 with (fail)
                      generalize w2.alloc (.cells #[.int .u64 S.q, .int .u64 S.b, .int .u64 S.i, .int .u64 S.e, .int .i64 S.u] 26) = w3 at *
                      generalize w2.heap.size = ga at *
                      obtain ⟨x0, x1⟩ := x_5.out
                      try simp only at x0 x1
                      go_wp2_with fail
                      refine (HRX.out _ T_5.out).mono ?_
                      rintro e w4 ⟨rfl, hb⟩
                      clear x0 x1
                      have T_6 := Lib.hid (T_5.out.on hb)
                      have B_6 := Lib.hid (B_5.out.trans (hb.mono B_5.out.size))
                      have d_6 := Lib.hid (d_5.out.on hb)
                      have s_6 := Lib.hid (s_5.out.on hb)
                      have x_6 := Lib.hid (x_5.out.on hb)
                      have a_6 := Lib.hid (a_5.out.on hb)
                      clear T_5 B_5 d_5 s_5 x_5 a_5
                      clear hb
                      have hbn : Below w4.heap.size w4 (w4.alloc (.cells #[.int .u64 S.q, .int .u64 S.b, .int .u64 S.i, .int .u64 S.e, .int .i64 S.u] 26)) := (Below.refl _ _).alloc (Nat.le_refl _) _
                      have T_7 := Lib.hid (T_6.out.on hbn)
                      have B_7 := Lib.hid (B_6.out.trans (hbn.mono B_6.out.size))
                      have d_7 := Lib.hid (d_6.out.on hbn)
                      have s_7 := Lib.hid (s_6.out.on hbn)
                      have x_7 := Lib.hid (x_6.out.on hbn)
                      have a_7 := Lib.hid (a_6.out.on hbn)
                      clear T_6 B_6 d_6 s_6 x_6 a_6
                      have n_7 : Hid (SvA (w4.alloc (.cells #[.int .u64 S.q, .int .u64 S.b, .int .u64 S.i, .int .u64 S.e, .int .i64 S.u] 26)) w4.heap.size S) := Lib.hid (SvA.new w4 S _)
                      clear hbn
                      go_upto_region 18 with (fail)
                      generalize w4.alloc (.cells #[.int .u64 S.q, .int .u64 S.b, .int .u64 S.i, .int .u64 S.e, .int .i64 S.u] 26) = w5 at *
                      generalize w4.heap.size = gn at *
                      obtain ⟨n0, n1, n2, n3, n4⟩ := n_7.out
                      try simp only at n0 n1 n2 n3 n4
                      obtain ⟨a0, a1, a2, a3, a4⟩ := a_7.out
                      try simp only at a0 a1 a2 a3 a4
                      have hs2 := s_7.out
                      rw [HLa.out] at hs2
                      obtain ⟨⟨s0, s1, s2, s3, s4⟩, sf⟩ := hs2
                      simp only at s0 s1 s2 s3 s4
                      go_upto_region 20 with (fail)
                      clear n0 n1 n2 n3 n4
                      clear s0 s1 s2 s3 s4 sf
                      clear a0 a1 a2 a3 a4
                      obtain ⟨x0, x1⟩ := x_7.out
                      try simp only at x0 x1
                      obtain ⟨⟨d0, d1⟩, df⟩ := d_7.out
                      try simp only at d0 d1
                      go_wp2_with fail
                      have HDn := Lib.hid (d_7.out.set X)
                      have HSn := Lib.hid ((s_7.out.apart (p := ⟨w.heap.size, 0, none⟩) (by show w.heap.size ≠ w.heap.size + 1; omega) (.string X.a)).apart (p := ⟨w.heap.size, 1, none⟩) (by show w.heap.size ≠ w.heap.size + 1; omega) (.string X.b))
                      have HTn := Lib.hid (tab_set (tab_set T_7.out (p := ⟨w.heap.size, 0, none⟩) (by show ¬ w.heap.size = 0; omega) (.string X.a)) (p := ⟨w.heap.size, 1, none⟩) (by show ¬ w.heap.size = 0; omega) (.string X.b))
                      have HBn := Lib.hid (below_set2 B_7.out (Nat.le_refl _) (.string X.a) (.string X.b))
                      go_roundw
                      case rel => exact ⟨k + 1, X, La, true, rfl, by go_num, by omega, hx1, hx2, Lib.hid hin2, HDn, HSn, HTn, HBn⟩
                      case measure => simp [intOf]; omega

theorem parOk : ∀ t ∈ (#[48, 49] : Array TypeId).toList, Tryd.prog.readableRec t = true ∧ t < Tryd.prog.types.size := by
  have hall : ([48, 49].all fun t => Tryd.prog.readableRec t && decide (t < Tryd.prog.types.size)) = true := by kernel_rfl
  intro t ht
  simpa using List.all_eq_true.1 hall t ht

/-- What the walk gives, for every argument and every world that holds the table. -/
theorem contract (H : Type) (enc : TypeId × Value → H) (W : World) (base : Nat) (args : Array Value) (ds gs : List (DataW H)) (before : List MemPlace)
    (hval : ∀ (j : Nat) t v, Tryd.f6.params[j]? = some t → args[j]? = some v → Value.okWide Tryd.prog W .any base t v)
    (hW : DataW.Whole enc Tryd.prog Tryd.f6.params.toList Rows.diskStepsSpec.vars false W args.toList ds gs before) (hL : laidMetH Tryd.prog Rows.diskStepsRow.laid W) :
    Calls Tryd.prog 6 args W fun e W' => ∃ v, e = .returned v ∧ Rows.diskStepsSpec.post enc Tryd.prog Tryd.f6 false true false false W args v W' := by
  have hW' := hW
  obtain ⟨p, q, hA0, hV, rfl, hfz, hnd⟩ := hW
  have hA : DataW.TrodAll enc Tryd.prog W 0 (fun _ => true) true Tryd.f6.params.toList args.toList ds p := hA0
  rw [Tryd.params6] at hA hval
  obtain ⟨v0, vs0, d0, ds0, p0, q0, hargs, rfl, rfl, h0, r0⟩ := trodAll_cons hA
  obtain ⟨v1, vs1, d1, ds1, p1, q1, rfl, rfl, rfl, h1, r1⟩ := trodAll_cons r0
  obtain ⟨rfl, rfl, rfl⟩ := trodAll_nil r1
  obtain rfl : args = #[v0, v1] := by cases args; simp_all
  obtain ⟨rfl, rfl⟩ := trodVars_none hV
  obtain ⟨A, cA, l, rfl, hcA, hmA, hl, hfl⟩ := open_W (hval 0 48 v0 rfl rfl) h0
  obtain ⟨C, cC, is, rfl, hcC, hmC, hi, hi2⟩ := open_octs (hval 1 49 v1 rfl rfl) h1
  clear hA0
  refine (walk A C cA cC l is W hcA hmA hl hfl hcC hmC hi hi2 (tab_of_laid hL)).mono fun e W' ⟨he, hb⟩ => ?_
  subst he
  exact ⟨_, rfl, law_post rfl (by rw [Tryd.params6]; exact parOk) rfl hW' rfl rfl rfl hb⟩

theorem laid_met (os : Os) : laidMet Tryd.prog Rows.diskStepsRow.laid ((laidWorld os).forCall (fun _ _ => 0) ⟨#[], #[.slice none 0 0, .slice none 0 0], []⟩).memory :=
  laidMet_of_run' 8 (by kernel_rfl) (by kernel_rfl)
theorem reads (os : Os) {H : Type} (enc : TypeId × Value → H) : ∃ places, DataW.whole enc Tryd.prog ((laidWorld os).forCall (fun _ _ => 0) ⟨#[], #[.slice none 0 0, .slice none 0 0], []⟩).memory Tryd.f6.params.toList Rows.diskStepsSpec.vars false (#[.slice none 0 0, .slice none 0 0] : Array Value).toList 8 = some ([.nil, .nil], [], places) :=
  ⟨[], by kernel_rfl⟩

set_option maxRecDepth 100000 in
theorem lifted (os : Os) (started : os.Started) (H : Type) (enc : TypeId × Value → H) (F : Stop.Interp) :
    ReturnsInHanded {} Tryd.checked os 6 .any ((OpenSpec.ofChange Rows.diskStepsSpec).preRow enc Tryd.prog Tryd.f6 Rows.diskStepsRow.domain false Rows.diskStepsRow.laid) (((OpenSpec.ofChange Rows.diskStepsSpec).at F).post enc Tryd.prog Tryd.f6 false true false false) := by
  obtain ⟨places, hx⟩ := reads os enc
  refine returnsInHanded_of_row (C := Tryd.checked) (s := OpenSpec.ofChange Rows.diskStepsSpec) own started (by kernel_rfl) Tryd.func6
    (witness_row_at (enc := enc) (C := Tryd.checked) false (laidWorld os) #[.slice none 0 0, .slice none 0 0] rfl (by kernel_rfl) (by kernel_rfl) (by kernel_rfl)
      (OpenSpec.preRow_of_cond 8 hx (by kernel_rfl) (fun k hk => by cases hk) (by kernel_rfl) (laid_met os))) ?_
  intro W base args ds gs before hval hW _ _ _ hL _ _
  exact contract H enc W base args ds gs before hval hW hL

theorem said : Rows.DiskStepsSaid :=
  OpenClaim.holds_of_cond 6 Tryd.f6 rfl rfl rfl rfl rfl rfl rfl ⟨rfl, rfl, rfl, rfl, rfl⟩ rfl rfl rfl rfl rfl (by kernel_rfl) Tryd.func6 (by kernel_rfl)
    (of_decide_eq_true (by kernel_rfl)) (by unfold Func.isWrapper; first | (rw [if_pos (by decide +kernel)]; kernel_rfl) | (rw [if_neg (by decide +kernel)]; exact ⟨rfl, rfl⟩))
    (fun os started H enc _ F => by rw [OpenClaim.pre_eq_preRow]; exact lifted os started H enc F)

/-- No parameter wants a stand-in; the program's own looks are off. -/
theorem plain (f : FuncId) (fn : Func) (hf : Tryd.pinned.checked.prog.funcNamed "tattle/tattlelaw16.DiskSteps" = some f) (hfn : Tryd.pinned.checked.prog.funcs[f]? = some fn) :
    false = Tryd.pinned.checked.prog.looks [] ∧ ∀ (j : Nat) t, fn.params[j]? = some t → Tryd.pinned.checked.prog.wantsStandIn t = false := by
  obtain rfl : f = 6 := Option.some.inj ((show Tryd.prog.funcNamed "tattle/tattlelaw16.DiskSteps" = some 6 by kernel_rfl).symm.trans hf) |>.symm
  obtain rfl : fn = Tryd.f6 := (Option.some.inj (Tryd.func6.symm.trans hfn)).symm
  refine ⟨by kernel_rfl, fun j t ht => ?_⟩
  rw [Tryd.params6] at ht
  have hm : t ∈ [48, 49] := by simpa using Array.mem_of_getElem? ht
  have hall : ([48, 49].all fun u => !Tryd.prog.wantsStandIn u) = true := by kernel_rfl
  exact (show Tryd.prog.wantsStandIn t = false by simpa using List.all_eq_true.1 hall t hm)

/-- THE CARD. -/
theorem card : Rows.DiskStepsCardSaid :=
  Claim7.holds_tied_plain_at .later [] _ _ _ _ said (fun _ h => by cases h) (by kernel_rfl) (fun _ h => by cases h) diskSteps_row_tie rfl ⟨rfl, rfl⟩ (by kernel_rfl) rfl plain (by kernel_rfl)
end Go.Proofs.YtlpnhpnigljlnaaDoor.lawSteps
