/-
  PlanFewest: no fewer moves make one the other one: the law returns true for every input.
-/
import Derived.Test.YtdbndkccgpmkbaaFl
namespace Go.Proofs.Ytdbndkccgpmkbaa.lawFewest
open Go.ChangeMaps (open_string)
open Go.Sort Go.ChangeShapes Go.WideShapes Go.ChangeAt Go.RowKit Go.Joins Go.Proofs.Ytdbndkccgpmkbaa.Pure

set_option maxRecDepth 100000 in
set_option maxHeartbeats 4000000 in
theorem walk (A : Option Addr) (ca : Nat) (a0 : List Pu) (B : Option Addr) (cb : Nat) (b0 : List Pu) (wn : Nat) (w : World) (hca : a0.length ≤ ca) (hma : ca ≤ maxLen) (ha : Us w A a0) (sa : ShrtU a0) (hcb : b0.length ≤ cb) (hmb : cb ≤ maxLen) (hb : Us w B b0) (sb : ShrtU b0) (hwn : wn ≤ 255) :
    Calls Try.prog 5 #[.slice A a0.length ca, .slice B b0.length cb, .int .u8 (wn : Int)] w fun e w' => e = .returned (.bool true) ∧ Below w.heap.size w w' := by
  have HPa := Lib.hid (puts_any A ca a0 w hca hma ha)
  rw [← take_len a0] at HPa
  have Ha_0 := Lib.hid (ha.take 101)
  have Sa := (sa.take 101).map
  have hla : (a0.take 101).length ≤ 101 := by rw [take_len]; omega
  have HPb := Lib.hid (puts_any B cb b0 w hcb hmb hb)
  rw [← take_len b0] at HPb
  have Hb_0 := Lib.hid (hb.take 101)
  have Sb := (sb.take 101).map
  have hlb : (b0.take 101).length ≤ 101 := by rw [take_len]; omega
  generalize a0.take 101 = a at *
  generalize b0.take 101 = b at *
  generalize a0.length = na at *
  generalize b0.length = nb at *
  have B_0 := Lib.hid (Below.refl w.heap.size w)
  clear hca hma ha sa
  clear hcb hmb hb sb
  have HD := Lib.hid (fun (A B : Option Addr) (ca cb : Nat) (W : World) (hA : Us W A a) (hB : Us W B b) => diff_any A B ca cb a b W (by omega) (by omega) hA hB Sa Sb)
  by_cases he : dE a b = 0
  · by_cases h0 : (dR a b).length = 0
    · have hab := same_none he h0
      rw [he] at HD
      have HS := Lib.hid (fun (A B : Option Addr) (ca cb : Nat) (W : World) (hA : Us W A b) (hB : Us W B b) => same_puts A B ca cb b b W (by omega) hA hB true (by simp))
      rw [← hab] at HS
      have HAB := Lib.hid hab
      have q1 : (((dR a b).length : Int) == 0) = true := by rw [h0]; rfl
      have q1' : ((dR a b).length == 0) = true := by rw [h0]; rfl
      generalize dR a b = d at *
      clear he h0 hab Sa Sb hlb hwn
      go_enter Try.func5, Try.ntmps5
      go_wp2_with fail
      refine HPa.out.mono ?_
      rintro e w0 ⟨rfl, rfl⟩
      go_wp2_with fail
      refine HPb.out.mono ?_
      rintro e w0 ⟨rfl, rfl⟩
      clear HPa HPb
      go_wp2_with fail
      refine (HD.out _ _ _ _ _ Ha_0.out Hb_0.out).mono ?_
      rintro e w2 ⟨v2, rfl, ho, hb⟩
      have a_1 := Lib.hid (Ha_0.out.on hb)
      have b_1 := Lib.hid (Hb_0.out.on hb)
      have B_1 := Lib.hid (B_0.out.trans (hb.mono B_0.out.size))
      clear Ha_0 Hb_0 B_0
      obtain ⟨Ad, kd, rfl, hkd, hu⟩ := ho.lst
      have d_2 := Lib.hid (hu)
      clear ho hu
      clear hb
      have HSX : Hid (Calls Try.prog 21 #[.slice A a.length ca, .slice B b.length cb] w2 fun e w' => e = .returned (.bool true) ∧ Below w2.heap.size w2 w') := Lib.hid (same_puts A B ca cb a b w2 (by omega) a_1.out b_1.out true (by rw [HAB.out]; simp))
      clear HS
      go_wp2_with fail
      refine HSX.out.mono ?_
      rintro e w3 ⟨rfl, hb⟩
      have a_3 := Lib.hid (a_1.out.on hb)
      have b_3 := Lib.hid (b_1.out.on hb)
      have B_3 := Lib.hid (B_1.out.trans (hb.mono B_1.out.size))
      have d_3 := Lib.hid (d_2.out.on hb)
      clear a_1 b_1 B_1 d_2
      clear hb HSX
      go_wp2_with fail
      refine (awake_any _).mono ?_
      rintro e w99 ⟨rfl, hb99⟩
      go_wp2_with fail
      go_ret
      exact ⟨rfl, B_3.out.trans (hb99.mono B_3.out.size)⟩
    · obtain ⟨hoa, hob, hod, _⟩ := makes he
      have hld := hod.len
      obtain ⟨k, hk⟩ : ∃ k, wn % (dR a b).length = k := ⟨_, rfl⟩
      obtain ⟨n1, n2, n3, n4, n5⟩ := u8_mod wn k (dR a b).length hwn hk (by omega) (by omega)
      have n6 : IntKind.i64.wrap (wn : Int) = (wn : Int) := IntWalk.i64_in _ (by omega)
      obtain ⟨hol, hcase, hab⟩ := fewest he n5
      have hll := hol.len
      have Sl := shrt_mov hol
      have HA1 := Lib.hid (fun (A B : Option Addr) (ca cb : Nat) (W : World) (hA : Us W A a) (hB : Vs W B ((dR a b).take k ++ (dR a b).drop (k + 1))) => apply_any A B ca cb a ((dR a b).take k ++ (dR a b).drop (k + 1)) W (by omega) (by omega) hA hB Sa Sl)
      have HS2 := Lib.hid (fun (A B : Option Addr) (ca cb : Nat) (W : World) (hA : Us W A a) (hB : Us W B b) => same_puts A B ca cb a b W (by omega) hA hB false (decide_eq_false hab))
      have HS1 := Lib.hid (fun (hx : ¬ aR a ((dR a b).take k ++ (dR a b).drop (k + 1)) = b) (hn : (aR a ((dR a b).take k ++ (dR a b).drop (k + 1))).length ≤ 100000) (A B : Option Addr) (ca cb : Nat) (W : World) (hA : Us W A (aR a ((dR a b).take k ++ (dR a b).drop (k + 1)))) (hB : Us W B b) => same_puts A B ca cb _ b W hn hA hB false (decide_eq_false hx))
      have hxl := aR_len a ((dR a b).take k ++ (dR a b).drop (k + 1))
      have HS3 := Lib.hid (fun hx => HS1.out hx hxl)
      rw [he] at HD
      generalize aR a ((dR a b).take k ++ (dR a b).drop (k + 1)) = X at *
      generalize aE a ((dR a b).take k ++ (dR a b).drop (k + 1)) = E at *
      generalize dR a b = d at *
      have q1 : ((d.length : Int) == 0) = false := by rw [beq_eq_false_iff_ne]; omega
      have q1' : (d.length == 0) = false := by rw [beq_eq_false_iff_ne]; exact h0
      have HCASE := Lib.hid hcase
      clear HS1 hxl hcase hoa hob hod hk hol hab hll Sl Sa Sb hwn he h0
      go_enter Try.func5, Try.ntmps5
      go_wp2_with fail
      refine HPa.out.mono ?_
      rintro e w0 ⟨rfl, rfl⟩
      go_wp2_with fail
      refine HPb.out.mono ?_
      rintro e w0 ⟨rfl, rfl⟩
      clear HPa HPb
      go_wp2_with fail
      refine (HD.out _ _ _ _ _ Ha_0.out Hb_0.out).mono ?_
      rintro e w2 ⟨v2, rfl, ho, hb⟩
      have a_1 := Lib.hid (Ha_0.out.on hb)
      have b_1 := Lib.hid (Hb_0.out.on hb)
      have B_1 := Lib.hid (B_0.out.trans (hb.mono B_0.out.size))
      clear Ha_0 Hb_0 B_0
      obtain ⟨Ad, kd, rfl, hkd, hu⟩ := ho.lst
      have d_2 := Lib.hid (hu)
      clear ho hu
      clear hb
      obtain ⟨add, rfl, hlo, _⟩ := d_2.out 0 (by omega)
      have m2 : (0 : Int) ≤ (k : Int) := by omega
      have m3 : (k : Int) ≤ (kd : Int) := by omega
      have m4 : k ≤ kd := by omega
      obtain ⟨k1, hk1⟩ : ∃ k1, k + 1 = k1 := ⟨_, rfl⟩
      have m1 : IntKind.i64.wrap ((k : Int) + 1) = (k1 : Int) := by rw [IntWalk.i64_in _ (by omega)]; omega
      have m5 : (0 : Int) ≤ (k1 : Int) := by omega
      have m6 : (k1 : Int) ≤ (d.length : Int) := by omega
      have m7 : k1 ≤ d.length := by omega
      have m8 : d.length ≤ kd := hkd
      rw [hk1] at HA1
      go_upto_region 8 with (fail)
      refine z_enter [(1, true), (2, true), (3, true), (5, true), (6, true), (7, true), (8, true), (0, false), (4, false), (9, false), (10, true)] (fun _ => True) (by kernel_rfl) (by kernel_rfl) (by kernel_rfl) (fun _ _ d _ _ h => by cases d <;> exact h) trivial ?_
      simp only [pickL, List.drop_succ_cons, List.drop_zero]
      iterate 7 (first | (refine' z_yes ?_ (by rfl) ?_ ?_; rotate_left; (intro w' hS; (try dsimp only at hS); go_simp; try (with_reducible rfl)); simp only [Act.put, List.setIfInBounds_toArray, List.set_cons_zero, List.set_cons_succ]) | (refine z_no (by rfl) ?_; simp only [Act.put, List.setIfInBounds_toArray, List.set_cons_zero, List.set_cons_succ]))
      obtain ⟨P, hP⟩ : ∃ P, (if kd = k1 then some add else some (add.add (k1 * 3))) = P := ⟨_, rfl⟩
      have HP : Hid (∀ W, Vs W (some add) d → Vs W P (d.drop k1)) := Lib.hid (fun W hv => by
        by_cases e : kd = k1
        · have : d.drop k1 = [] := List.drop_eq_nil_iff.2 (by omega)
          rw [this]; exact Vs.nil _ _
        · rw [← hP, if_neg e]; exact hv.drop k1)
      rw [hP]
      clear hP
      obtain ⟨wd, hwd⟩ : ∃ wd, w2.drew = wd := ⟨_, rfl⟩
      have hbd : Below w2.heap.size w2 wd := by rw [← hwd]; exact (Below.refl _ _).drew
      rw [hwd]
      clear hwd
      obtain ⟨B0, hB0⟩ : ∃ B0, w2.heap.size = B0 := ⟨_, rfl⟩
      have hlk : (d.take k).length = k := by rw [List.length_take]; omega
      have hlr : (d.drop k1).length = d.length - k1 := by rw [List.length_drop]
      have HBD := Lib.hid hbd
      have hz0 : B0 ≤ wd.heap.size := by rw [← hB0]; exact hbd.size
      have HB0 := Lib.hid hB0
      clear hbd hB0
      refine z_mem ?_
      intro K hK
      go_simp
      have ho1 : OwnV (wd.alloc (.cells #[] 39)) B0 (.slice (some ⟨wd.heap.size, 0, none⟩) 0 0) [] := World.ownsRow_made wd #[] 0 hz0 (Nat.zero_le _) rfl
      have HB1 : Hid (Below w2.heap.size w2 (wd.alloc (.cells #[] 39))) := Lib.hid (HBD.out.alloc HBD.out.size _)
      have hz1 : B0 ≤ (wd.alloc (.cells #[] 39)).heap.size := by have := HB1.out.size; have := HB0.out; omega
      refine hK.out _ _ trivial ?_
      clear hK
      refine z_mem ?_
      intro K hK
      rw [if_pos (by rfl)]
      refine wp_appendV _ _ rfl B0 _ [] rfl ho1 (some add) kd (d.take k) (by rw [hlk]; rfl) ((d_2.out.on HB1.out).take k) (by simp; omega) hz1 ?_
      intro v3 w3 ho3 hg3 _
      have HB3 : Hid (Below w2.heap.size w2 w3) := Lib.hid (below_grownV HB1.out ho1 hg3 (by have := HB0.out; omega) (by have := HB0.out; omega))
      have hz3 : B0 ≤ w3.heap.size := by have := HB3.out.size; have := HB0.out; omega
      rw [List.nil_append] at ho3
      refine hK.out _ _ trivial ?_
      clear hK ho1 hz1 hg3
      refine z_mem ?_
      intro K hK
      rw [if_pos (by rfl)]
      refine wp_appendV _ _ rfl B0 v3 (d.take k) rfl ho3 P (kd - k1) (d.drop k1) (by rw [hlr]; rfl) (HP.out _ (d_2.out.on HB3.out)) (by rw [hlk, hlr]; omega) hz3 ?_
      intro v4 w4 ho4 hg4 _
      generalize d.take k ++ d.drop k1 = G at *
      have hb : Below w2.heap.size w2 w4 := below_grownV HB3.out ho3 hg4 (by have := HB0.out; omega) (by have := HB0.out; omega)
      refine hK.out _ _ trivial ?_
      clear hK ho3 hz3 hg4 hz0
      clear d_2
      have a_3 := Lib.hid (a_1.out.on hb)
      have b_3 := Lib.hid (b_1.out.on hb)
      have B_3 := Lib.hid (B_1.out.trans (hb.mono B_1.out.size))
      clear a_1 b_1 B_1
      clear hb HB3 HB1 HBD HP hlk hlr
      obtain ⟨A4, k4, rfl, hk4, hu4⟩ := ho4.lst
      have e_4 := Lib.hid (hu4)
      clear hu4 ho4
      simp only [Act.put, List.setIfInBounds_toArray, List.set_cons_zero, List.set_cons_succ]
      iterate 1 (first | (refine' z_yes ?_ (by rfl) ?_ ?_; rotate_left; (intro w' hS; (try dsimp only at hS); go_simp; try (with_reducible rfl)); simp only [Act.put, List.setIfInBounds_toArray, List.set_cons_zero, List.set_cons_succ]) | (refine z_no (by rfl) ?_; simp only [Act.put, List.setIfInBounds_toArray, List.set_cons_zero, List.set_cons_succ]))
      refine z_nil ?_
      go_wp2_with fail
      refine (HA1.out _ _ _ _ _ a_3.out e_4.out).mono ?_
      rintro e w5 ⟨v5, rfl, ho, hb⟩
      clear e_4
      have a_5 := Lib.hid (a_3.out.on hb)
      have b_5 := Lib.hid (b_3.out.on hb)
      have B_5 := Lib.hid (B_3.out.trans (hb.mono B_3.out.size))
      clear a_3 b_3 B_3
      obtain ⟨Ax, kx, rfl, hkx, hu⟩ := ho.lst
      have x_6 := Lib.hid (hu)
      clear ho hu
      clear hb
      rcases HCASE.out with h9 | ⟨h9, hx⟩
      · subst h9
        clear HS3 HCASE
        go_wp2_with fail
        refine (HS2.out _ _ _ _ _ a_5.out b_5.out).mono ?_
        rintro e w6 ⟨rfl, hb⟩
        have a_7 := Lib.hid (a_5.out.on hb)
        have b_7 := Lib.hid (b_5.out.on hb)
        have B_7 := Lib.hid (B_5.out.trans (hb.mono B_5.out.size))
        have x_7 := Lib.hid (x_6.out.on hb)
        clear a_5 b_5 B_5 x_6
        clear hb
        go_wp2_with fail
        refine (awake_any _).mono ?_
        rintro e w99 ⟨rfl, hb99⟩
        go_wp2_with fail
        go_ret
        exact ⟨rfl, B_7.out.trans (hb99.mono B_7.out.size)⟩
      · subst h9
        have HS4 := Lib.hid (HS3.out hx)
        clear HS3 HCASE hx
        go_wp2_with fail
        refine (HS4.out _ _ _ _ _ x_6.out b_5.out).mono ?_
        rintro e w6 ⟨rfl, hb⟩
        clear x_6
        have a_7 := Lib.hid (a_5.out.on hb)
        have b_7 := Lib.hid (b_5.out.on hb)
        have B_7 := Lib.hid (B_5.out.trans (hb.mono B_5.out.size))
        clear a_5 b_5 B_5
        clear hb
        go_wp2_with fail
        refine (HS2.out _ _ _ _ _ a_7.out b_7.out).mono ?_
        rintro e w7 ⟨rfl, hb⟩
        have a_8 := Lib.hid (a_7.out.on hb)
        have b_8 := Lib.hid (b_7.out.on hb)
        have B_8 := Lib.hid (B_7.out.trans (hb.mono B_7.out.size))
        clear a_7 b_7 B_7
        clear hb
        go_wp2_with fail
        refine (awake_any _).mono ?_
        rintro e w99 ⟨rfl, hb99⟩
        go_wp2_with fail
        go_ret
        exact ⟨rfl, B_8.out.trans (hb99.mono B_8.out.size)⟩
  · rw [dR_of he] at HD
    have q1 : (dE a b == 0) = false := by simpa using he
    have q2 : (dE a b != 0) = true := by simpa using he
    generalize dE a b = E at *
    clear he Sa Sb hla hlb hwn
    go_enter Try.func5, Try.ntmps5
    go_wp2_with fail
    refine HPa.out.mono ?_
    rintro e w0 ⟨rfl, rfl⟩
    go_wp2_with fail
    refine HPb.out.mono ?_
    rintro e w0 ⟨rfl, rfl⟩
    clear HPa HPb
    go_wp2_with fail
    refine (HD.out _ _ _ _ _ Ha_0.out Hb_0.out).mono ?_
    rintro e w2 ⟨v2, rfl, ho, hb⟩
    have a_1 := Lib.hid (Ha_0.out.on hb)
    have b_1 := Lib.hid (Hb_0.out.on hb)
    have B_1 := Lib.hid (B_0.out.trans (hb.mono B_0.out.size))
    clear Ha_0 Hb_0 B_0
    obtain ⟨Ad, kd, rfl, hkd, hu⟩ := ho.lst
    have d_2 := Lib.hid (hu)
    clear ho hu
    clear hb
    go_wp2_with fail
    refine (awake_any _).mono ?_
    rintro e w99 ⟨rfl, hb99⟩
    go_wp2_with fail
    go_ret
    exact ⟨rfl, B_1.out.trans (hb99.mono B_1.out.size)⟩

theorem parOk : ∀ t ∈ (#[22, 22, 5] : Array TypeId).toList, Try.prog.readableRec t = true ∧ t < Try.prog.types.size := by
  have hall : ([22, 22, 5].all fun t => Try.prog.readableRec t && decide (t < Try.prog.types.size)) = true := by kernel_rfl
  intro t ht
  simpa using List.all_eq_true.1 hall t ht

set_option maxRecDepth 100000 in
/-- What the walk gives, for every argument. -/
theorem contract (H : Type) (enc : TypeId × Value → H) (W : World) (base : Nat) (args : Array Value) (ds gs : List (DataW H)) (before : List MemPlace)
    (hval : ∀ (j : Nat) t v, Try.f5.params[j]? = some t → args[j]? = some v → Value.okWide Try.prog W .any base t v)
    (hW : DataW.Whole enc Try.prog Try.f5.params.toList Rows.planFewestSpec.vars false W args.toList ds gs before) :
    Calls Try.prog 5 args W fun e W' => ∃ v, e = .returned v ∧ Rows.planFewestSpec.post enc Try.prog Try.f5 false true false false W args v W' := by
  have hW' := hW
  obtain ⟨p, q, hA0, hV, rfl, hfz, hnd⟩ := hW
  have hA : DataW.TrodAll enc Try.prog W 0 (fun _ => true) true Try.f5.params.toList args.toList ds p := hA0
  rw [Try.params5] at hA hval
  obtain ⟨v0, vs0, d0, ds0, p0, q0, hargs, rfl, rfl, h0, r0⟩ := trodAll_cons hA
  obtain ⟨v1, vs1, d1, ds1, p1, q1, rfl, rfl, rfl, h1, r1⟩ := trodAll_cons r0
  obtain ⟨v2, vs2, d2, ds2, p2, q2, rfl, rfl, rfl, h2, r2⟩ := trodAll_cons r1
  obtain ⟨rfl, rfl, rfl⟩ := trodAll_nil r2
  obtain rfl : args = #[v0, v1, v2] := by cases args; simp_all
  obtain ⟨rfl, rfl⟩ := trodVars_none hV
  obtain ⟨A, ca, a0, rfl, hca, hma, ha, sa⟩ := open_puts (hval 0 22 v0 rfl rfl) h0
  obtain ⟨B, cb, b0, rfl, hcb, hmb, hb, sb⟩ := open_puts (hval 1 22 v1 rfl rfl) h1
  obtain ⟨wn, rfl, hwn⟩ := open_u8 (hval 2 5 v2 rfl rfl) h2
  clear hA0
  refine (walk A ca a0 B cb b0 wn W hca hma ha sa hcb hmb hb sb hwn).mono fun e W' ⟨he, hb⟩ => ?_
  subst he
  exact ⟨_, rfl, law_post rfl (by rw [Try.params5]; exact parOk) rfl hW' rfl rfl rfl hb⟩

set_option maxRecDepth 100000 in
theorem lifted (os : Os) (started : os.Started) (H : Type) (enc : TypeId × Value → H) :
    ReturnsInHanded {} Try.checked os 5 .any (Rows.planFewestSpec.pre6 enc Try.prog Try.f5 Rows.planFewestRow.domain false) (Rows.planFewestSpec.post enc Try.prog Try.f5 false true false false) := by
  refine returnsInHanded_of_change (C := Try.checked) own started (by kernel_rfl) Try.func5
    (ChangeSpec.witness6 (enc := enc) (C := Try.checked) false ⟨#[], #[.slice none 0 0, .slice none 0 0, .int .u8 0], []⟩ 8 (by kernel_rfl) (by kernel_rfl) (by kernel_rfl) (by kernel_rfl)) ?_
  intro W base args ds gs before hval hW _ _
  exact contract H enc W base args ds gs before hval hW

/-- THE STATEMENT. -/
theorem said : Rows.PlanFewestSaid :=
  OpenClaim.holds_of_wide 5 Try.f5 rfl rfl rfl rfl rfl rfl rfl ⟨rfl, rfl, rfl, rfl, rfl⟩ rfl rfl rfl rfl rfl (by kernel_rfl) Try.func5 (by kernel_rfl)
    (of_decide_eq_true (by kernel_rfl)) (by unfold Func.isWrapper; first | (rw [if_pos (by decide +kernel)]; kernel_rfl) | (rw [if_neg (by decide +kernel)]; exact ⟨rfl, rfl⟩))
    (fun os started H enc _ => lifted os started H enc)
end Go.Proofs.Ytdbndkccgpmkbaa.lawFewest
