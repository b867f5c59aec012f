/-
  The walks of Read, and of the document's Second and Read.
-/
import Derived.Test.YtlpnhpnigljlnaaDoorHs
namespace Go.Proofs.YtlpnhpnigljlnaaDoor
open Go.Sort Go.RowKit Go.Proofs.YtlpnhpnigljlnaaDoor.Pure

/-- Whether it has anything. -/
noncomputable def reaE (d : Dk) : Int := if hasO d = true then 0 else 6
theorem has_no {d : Dk} (h : hasO d = false) : hasS d = nilD := by
  rw [hasO_is] at h
  rw [hasS_is]
  cases hr : reaD parC d with
  | none => rfl
  | some s => rw [hr] at h; cases h
set_option maxRecDepth 100000 in
set_option maxHeartbeats 4000000 in
theorem read_any (d : Dk) (w : World) (ha : d.a.size ≤ 140737488351232) (hb : d.b.size ≤ 140737488351232) (ht : Tab w) : Calls Tryd.prog 12 #[.agg #[.string d.a, .string d.b]] w fun e w' => e = .returned (.tuple #[.agg #[.int .u64 (hasS d).q, .int .u64 (hasS d).b, .int .u64 (hasS d).i, .int .u64 (hasS d).e, .int .i64 (hasS d).u], .int .i64 (reaE d)]) ∧ Below w.heap.size w w' := by
  have HH := Lib.hid (fun (W : World) (hT : Tab W) => has_any d W ha hb hT)
  have HD1 := Lib.hid (DkA.new w d 23)
  have HB1 : Hid (Below w.heap.size w (w.alloc (.cells #[.string d.a, .string d.b] 23))) := Lib.hid ((Below.refl _ _).alloc (Nat.le_refl _) _)
  have HT1 := Lib.hid (ht.on HB1.out)
  have hsz : (w.alloc (.cells #[.string d.a, .string d.b] 23)).heap.size = w.heap.size + 1 := by simp
  obtain ⟨RE, hRE⟩ : ∃ r, r = reaE d := ⟨_, rfl⟩
  rw [← hRE]
  have HE1 : Hid (hasO d = true → RE = 0) := Lib.hid (fun h => by rw [hRE]; unfold reaE; rw [h]; rfl)
  have HE0 : Hid (hasO d = false → RE = 6 ∧ hasS d = nilD) := Lib.hid (fun h => ⟨by rw [hRE]; unfold reaE; rw [h]; rfl, has_no h⟩)
  clear hRE ht
  obtain ⟨S, hS⟩ : ∃ r, hasS d = r := ⟨_, rfl⟩
  rw [hS] at HH HE0 ⊢
  clear hS
  generalize hasO d = O at *
  go_enter Tryd.func12, Tryd.ntmps12
  go_upto_region 1 with (fail)
  generalize w.alloc (.cells #[.string d.a, .string d.b] 23) = w1 at *
  have hbn : Below w1.heap.size w1 (w1.alloc (.cells #[.int .u64 0, .int .u64 0, .int .u64 0, .int .u64 0, .int .i64 0] 26)) := (Below.refl _ _).alloc (Nat.le_refl _) _
  have HR2 : Hid (SvW (w1.alloc (.cells #[.int .u64 0, .int .u64 0, .int .u64 0, .int .u64 0, .int .i64 0] 26)) w1.heap.size nilD) := Lib.hid (SvW.new w1 nilD _)
  rw [hsz] at HR2
  have HB2 := Lib.hid (HB1.out.trans (hbn.mono HB1.out.size))
  have HD2 := Lib.hid (HD1.out.on hbn)
  have HT2 := Lib.hid (HT1.out.on hbn)
  have hB2w : w.heap.size ≤ w.heap.size + 1 := Nat.le_succ _
  clear hbn HD1 HB1 HT1 hsz
  generalize w1.alloc (.cells #[.int .u64 0, .int .u64 0, .int .u64 0, .int .u64 0, .int .i64 0] 26) = w2 at *
  obtain ⟨a0, a1⟩ := HD2.out
  go_wp2_with fail
  refine (HH.out _ HT2.out).mono ?_
  rintro e w3 ⟨rfl, hb3⟩
  have HB3 := Lib.hid (HB2.out.trans (hb3.mono HB2.out.size))
  have HR3 := Lib.hid (HR2.out.on hb3)
  clear hb3 HB2 HR2 HD2 HT2 HH a0 a1
  have hbn : Below w3.heap.size w3 (w3.alloc (.cells #[.bool O, .int .u64 S.q, .int .u64 S.b, .int .u64 S.i, .int .u64 S.e, .int .i64 S.u] 64)) := (Below.refl _ _).alloc (Nat.le_refl _) _
  have HFd := Lib.hid (FdA.new w3 O S 64)
  have HB4 := Lib.hid (HB3.out.trans (hbn.mono HB3.out.size))
  have HR4 := Lib.hid (HR3.out.on hbn)
  clear hbn HB3 HR3
  go_upto_region 2 with (fail)
  generalize w3.alloc (.cells #[.bool O, .int .u64 S.q, .int .u64 S.b, .int .u64 S.i, .int .u64 S.e, .int .i64 S.u] 64) = w4 at *
  generalize w3.heap.size = gf at *
  obtain ⟨b0, b1, b2, b3, b4, b5⟩ := HFd.out
  obtain ⟨⟨r0, r1, r2, r3, r4⟩, rf⟩ := HR4.out
  simp only [nilD] at r0 r1 r2 r3 r4
  rcases O with _ | _
  · obtain ⟨e1, rfl⟩ := HE0.out rfl
    have HE := Lib.hid e1
    clear e1 HE0 HE1
    have HF := Lib.hid (HR4.out.set nilD)
    have HBf := Lib.hid (below_set5 HB4.out hB2w (.int .u64 (nilD).q) (.int .u64 (nilD).b) (.int .u64 (nilD).i) (.int .u64 (nilD).e) (.int .i64 (nilD).u))
    try simp only at HF HBf
    simp only [nilD] at HF HBf b0 b1 b2 b3 b4 b5
    go_wp2_with fail
    clear r0 r1 r2 r3 r4 rf
    generalize hwf : World.setCell _ _ _ = wf
    rw [hwf] at HF HBf
    obtain ⟨⟨r0, r1, r2, r3, r4⟩, rf⟩ := HF.out
    try simp only at r0 r1 r2 r3 r4
    exact bodyPost_ret (v := .tuple #[.agg #[.int .u64 nilD.q, .int .u64 nilD.b, .int .u64 nilD.i, .int .u64 nilD.e, .int .i64 nilD.u], .int .i64 6]) (by simp [results, Tryd.results12, go_sem, r0, r1, r2, r3, r4, nilD]) rfl ⟨by rw [HE.out], HBf.out⟩
  · have HE := Lib.hid (HE1.out rfl)
    clear HE0 HE1
    have HF := Lib.hid (HR4.out.set S)
    have HBf := Lib.hid (below_set5 HB4.out hB2w (.int .u64 (S).q) (.int .u64 (S).b) (.int .u64 (S).i) (.int .u64 (S).e) (.int .i64 (S).u))
    try simp only at HF HBf
    go_wp2_with fail
    clear r0 r1 r2 r3 r4 rf
    generalize hwf : World.setCell _ _ _ = wf
    rw [hwf] at HF HBf
    obtain ⟨⟨r0, r1, r2, r3, r4⟩, rf⟩ := HF.out
    try simp only at r0 r1 r2 r3 r4
    exact bodyPost_ret (v := .tuple #[.agg #[.int .u64 S.q, .int .u64 S.b, .int .u64 S.i, .int .u64 S.e, .int .i64 S.u], .int .i64 0]) (by simp [results, Tryd.results12, go_sem, r0, r1, r2, r3, r4]) rfl ⟨by rw [HE.out], HBf.out⟩
set_option maxRecDepth 100000 in
set_option maxHeartbeats 4000000 in
theorem second_any (d : Dk) (w : World) (ha : d.a.size ≤ 140737488351232) (hb : d.b.size ≤ 140737488351232) : Calls Tryd.prog 27 #[.agg #[.string d.a, .string d.b]] w fun e w' => e = .returned (.bool (secD parC d)) ∧ Below w.heap.size w w' := by
  have HPA := Lib.hid (fun (W : World) => rparse_any d.a W ha)
  have HPB := Lib.hid (fun (W : World) => rparse_any d.b W hb)
  have HD1 := Lib.hid (DkA.new w d 23)
  have HB1 : Hid (Below w.heap.size w (w.alloc (.cells #[.string d.a, .string d.b] 23))) := Lib.hid ((Below.refl _ _).alloc (Nat.le_refl _) _)
  rw [sec_is, okP_iff, okP_iff]
  obtain ⟨EA, hEA⟩ : ∃ E, parE d.a = E := ⟨_, rfl⟩
  obtain ⟨EB, hEB⟩ : ∃ E, parE d.b = E := ⟨_, rfl⟩
  rw [hEA] at HPA
  rw [hEB] at HPB
  rw [hEA, hEB]
  generalize parS d.a = sa at *
  generalize parS d.b = sb at *
  clear hEA hEB
  have za : ((EA : Int) != 0) = !(EA == 0) := by rcases EA with _ | E <;> simp <;> omega
  have za' : (EA != 0) = !(EA == 0) := rfl
  have zb : ((EB : Int) == 0) = (EB == 0) := by rcases EB with _ | E <;> simp <;> omega
  generalize (EA == 0) = ZA at *
  generalize (EB == 0) = ZB at *
  generalize hc : decide (sa.q < sb.q) = C at *
  go_enter Tryd.func27, Tryd.ntmps27
  go_upto_region 1 with (fail)
  generalize w.alloc (.cells #[.string d.a, .string d.b] 23) = w1 at *
  obtain ⟨a0, a1⟩ := HD1.out
  go_wp2_with fail
  refine (HPA.out _).mono ?_
  rintro e w2 ⟨rfl, hb2⟩
  have HB2 := Lib.hid (HB1.out.trans (hb2.mono HB1.out.size))
  have HD2 := Lib.hid (HD1.out.on hb2)
  clear hb2 HB1 HD1 HPA a0 a1
  have hbn : Below w2.heap.size w2 (w2.alloc (.cells #[.int .u64 sa.q, .int .u64 sa.b, .int .u64 sa.i, .int .u64 sa.e, .int .i64 sa.u] 26)) := (Below.refl _ _).alloc (Nat.le_refl _) _
  have HS3 := Lib.hid (SvA.new w2 sa 26)
  have HB3 := Lib.hid (HB2.out.trans (hbn.mono HB2.out.size))
  have HD3 := Lib.hid (HD2.out.on hbn)
  clear hbn HB2 HD2
  go_upto_region 2 with (fail)
  generalize w2.alloc (.cells #[.int .u64 sa.q, .int .u64 sa.b, .int .u64 sa.i, .int .u64 sa.e, .int .i64 sa.u] 26) = w3 at *
  generalize w2.heap.size = g3 at *
  obtain ⟨a0, a1⟩ := HD3.out
  go_wp2_with fail
  refine (HPB.out _).mono ?_
  rintro e w4 ⟨rfl, hb4⟩
  have HB4 := Lib.hid (HB3.out.trans (hb4.mono HB3.out.size))
  have HS4 := Lib.hid (HS3.out.on hb4)
  clear hb4 HB3 HD3 HS3 HPB a0 a1
  have hbn : Below w4.heap.size w4 (w4.alloc (.cells #[.int .u64 sb.q, .int .u64 sb.b, .int .u64 sb.i, .int .u64 sb.e, .int .i64 sb.u] 26)) := (Below.refl _ _).alloc (Nat.le_refl _) _
  have HS5 := Lib.hid (SvA.new w4 sb 26)
  have HB5 := Lib.hid (HB4.out.trans (hbn.mono HB4.out.size))
  have HT5 := Lib.hid (HS4.out.on hbn)
  clear hbn HB4 HS4
  go_upto_region 3 with (fail)
  generalize w4.alloc (.cells #[.int .u64 sb.q, .int .u64 sb.b, .int .u64 sb.i, .int .u64 sb.e, .int .i64 sb.u] 26) = w5 at *
  generalize w4.heap.size = g5 at *
  obtain ⟨b0, b1, b2, b3, b4⟩ := HS5.out
  obtain ⟨c0, c1, c2, c3, c4⟩ := HT5.out
  rcases ZB with _ | _
  · go_wp2_with fail
    go_ret
    exact ⟨by simp, HB5.out⟩
  · rcases ZA with _ | _
    · go_wp2_with fail
      go_ret
      exact ⟨by simp, HB5.out⟩
    · rcases C with _ | _
      · go_wp2_with fail
        go_ret
        exact ⟨by simp, HB5.out⟩
      · go_wp2_with fail
        go_ret
        exact ⟨by simp, HB5.out⟩
set_option maxRecDepth 100000 in
set_option maxHeartbeats 4000000 in
theorem rread_any (d : Dk) (w : World) (ha : d.a.size ≤ 140737488351232) (hb : d.b.size ≤ 140737488351232) : Calls Tryd.prog 13 #[.agg #[.string d.a, .string d.b]] w fun e w' => e = .returned (.tuple #[.agg #[.int .u64 (hasS d).q, .int .u64 (hasS d).b, .int .u64 (hasS d).i, .int .u64 (hasS d).e, .int .i64 (hasS d).u], .int .i64 (reaE d)]) ∧ Below w.heap.size w w' := by
  have HSE := Lib.hid (fun (W : World) => second_any d W ha hb)
  have hht : (hasT d).size ≤ 140737488351232 := by unfold hasT; split <;> assumption
  have HPR := Lib.hid (fun (W : World) => rparse_any (hasT d) W hht)
  have HD1 := Lib.hid (DkA.new w d 23)
  have HB1 : Hid (Below w.heap.size w (w.alloc (.cells #[.string d.a, .string d.b] 23))) := Lib.hid ((Below.refl _ _).alloc (Nat.le_refl _) _)
  have hsz : (w.alloc (.cells #[.string d.a, .string d.b] 23)).heap.size = w.heap.size + 1 := by simp
  obtain ⟨RE, hRE⟩ : ∃ r, r = reaE d := ⟨_, rfl⟩
  rw [← hRE]
  have hO := okP_iff (hasT d)
  have HE1 : Hid (parE (hasT d) = 0 → RE = 0) := Lib.hid (fun h => by rw [hRE]; unfold reaE hasO; rw [hO, h]; rfl)
  have HE0 : Hid (¬ parE (hasT d) = 0 → RE = 6 ∧ hasS d = nilD) := Lib.hid (fun h => by
    have h2 : hasO d = false := by unfold hasO; rw [hO]; simpa using h
    exact ⟨by rw [hRE]; unfold reaE; rw [h2]; rfl, has_no h2⟩)
  have hSS : parS (hasT d) = hasS d := rfl
  rw [hSS] at HPR
  obtain ⟨S, hS⟩ : ∃ r, hasS d = r := ⟨_, rfl⟩
  rw [hS] at HPR HE0 ⊢
  have HX : Hid (hasT d = if secD parC d = true then d.b else d.a) := Lib.hid rfl
  generalize secD parC d = Z at *
  obtain ⟨E, hE⟩ : ∃ r, parE (hasT d) = r := ⟨_, rfl⟩
  rw [hE] at HPR HE0 HE1
  generalize hasT d = T at *
  clear hRE hO hSS hS hE hht
  go_enter Tryd.func13, Tryd.ntmps13
  go_upto_region 1 with (fail)
  generalize w.alloc (.cells #[.string d.a, .string d.b] 23) = w1 at *
  have hbn : Below w1.heap.size w1 (w1.alloc (.cells #[.int .u64 0, .int .u64 0, .int .u64 0, .int .u64 0, .int .i64 0] 26)) := (Below.refl _ _).alloc (Nat.le_refl _) _
  have HR2 : Hid (SvW (w1.alloc (.cells #[.int .u64 0, .int .u64 0, .int .u64 0, .int .u64 0, .int .i64 0] 26)) w1.heap.size nilD) := Lib.hid (SvW.new w1 nilD _)
  rw [hsz] at HR2
  have HB2 := Lib.hid (HB1.out.trans (hbn.mono HB1.out.size))
  have HD2 := Lib.hid (HD1.out.on hbn)
  have hB2w : w.heap.size ≤ w.heap.size + 1 := Nat.le_succ _
  clear hbn HD1 HB1 hsz
  generalize w1.alloc (.cells #[.int .u64 0, .int .u64 0, .int .u64 0, .int .u64 0, .int .i64 0] 26) = w2 at *
  obtain ⟨a0, a1⟩ := HD2.out
  go_wp2_with fail
  refine (HSE.out _).mono ?_
  rintro e w3 ⟨rfl, hb3⟩
  have HB3 := Lib.hid (HB2.out.trans (hb3.mono HB2.out.size))
  have HR3 := Lib.hid (HR2.out.on hb3)
  have HD3 := Lib.hid (HD2.out.on hb3)
  clear hb3 HB2 HR2 HD2 HSE a0 a1
  obtain ⟨a0, a1⟩ := HD3.out
  go_upto_if 10 with (fail)
  go_cut [4] from 11 to 12 (fun v wx => v = .string T ∧ w3 = wx)
  case first =>
    have hX := HX.out
    rcases Z with _ | _
    · rw [if_neg (by decide)] at hX
      have HX2 := Lib.hid hX
      clear hX
      go_wp2_with fail
      first | exact ⟨by rw [HX2.out], rfl⟩ | (go_meet; exact ⟨by rw [HX2.out], rfl⟩)
    · rw [if_pos rfl] at hX
      have HX2 := Lib.hid hX
      clear hX
      go_wp2_with fail
      first | exact ⟨by rw [HX2.out], rfl⟩ | (go_meet; exact ⟨by rw [HX2.out], rfl⟩)
  case rest =>
    obtain ⟨rfl, rfl⟩ := hcut
    clear a0 a1
    go_wp2_with fail
    refine (HPR.out _).mono ?_
    rintro e w5 ⟨rfl, hb5⟩
    have HB5 := Lib.hid (HB3.out.trans (hb5.mono HB3.out.size))
    have HR5 := Lib.hid (HR3.out.on hb5)
    clear hb5 HB3 HR3 HD3 HPR
    have hbn : Below w5.heap.size w5 (w5.alloc (.cells #[.int .u64 S.q, .int .u64 S.b, .int .u64 S.i, .int .u64 S.e, .int .i64 S.u] 26)) := (Below.refl _ _).alloc (Nat.le_refl _) _
    have HS6 := Lib.hid (SvA.new w5 S 26)
    have HB4 := Lib.hid (HB5.out.trans (hbn.mono HB5.out.size))
    have HR4 := Lib.hid (HR5.out.on hbn)
    clear hbn HB5 HR5
    go_upto_region 5 with (fail)
    generalize w5.alloc (.cells #[.int .u64 S.q, .int .u64 S.b, .int .u64 S.i, .int .u64 S.e, .int .i64 S.u] 26) = w6 at *
    generalize w5.heap.size = g6 at *
    obtain ⟨b0, b1, b2, b3, b4⟩ := HS6.out
    obtain ⟨⟨r0, r1, r2, r3, r4⟩, rf⟩ := HR4.out
    simp only [nilD] at r0 r1 r2 r3 r4
    by_cases he : E = 0
    · have HE := Lib.hid (HE1.out he)
      have z1 : ((E : Int) != 0) = false := by rw [he]; rfl
      have z2 : (E != 0) = false := by rw [he]; rfl
      clear HE0 HE1 he HX
      have HF := Lib.hid (HR4.out.set S)
      have HBf := Lib.hid (below_set5 HB4.out hB2w (.int .u64 (S).q) (.int .u64 (S).b) (.int .u64 (S).i) (.int .u64 (S).e) (.int .i64 (S).u))
      try simp only at HF HBf
      go_wp2_with fail
      clear r0 r1 r2 r3 r4 rf
      generalize hwf : World.setCell _ _ _ = wf
      rw [hwf] at HF HBf
      obtain ⟨⟨r0, r1, r2, r3, r4⟩, rf⟩ := HF.out
      try simp only at r0 r1 r2 r3 r4
      exact bodyPost_ret (v := .tuple #[.agg #[.int .u64 S.q, .int .u64 S.b, .int .u64 S.i, .int .u64 S.e, .int .i64 S.u], .int .i64 0]) (by simp [results, Tryd.results13, go_sem, r0, r1, r2, r3, r4]) rfl ⟨by rw [HE.out], HBf.out⟩
    · obtain ⟨e1, rfl⟩ := HE0.out he
      have HE := Lib.hid e1
      have z1 : ((E : Int) != 0) = true := by simpa using he
      have z2 : (E != 0) = true := by simpa using he
      clear e1 HE0 HE1 he HX
      have HF := Lib.hid (HR4.out.set nilD)
      have HBf := Lib.hid (below_set5 HB4.out hB2w (.int .u64 (nilD).q) (.int .u64 (nilD).b) (.int .u64 (nilD).i) (.int .u64 (nilD).e) (.int .i64 (nilD).u))
      try simp only at HF HBf
      simp only [nilD] at HF HBf b0 b1 b2 b3 b4
      go_wp2_with fail
      clear r0 r1 r2 r3 r4 rf
      generalize hwf : World.setCell _ _ _ = wf
      rw [hwf] at HF HBf
      obtain ⟨⟨r0, r1, r2, r3, r4⟩, rf⟩ := HF.out
      try simp only at r0 r1 r2 r3 r4
      exact bodyPost_ret (v := .tuple #[.agg #[.int .u64 nilD.q, .int .u64 nilD.b, .int .u64 nilD.i, .int .u64 nilD.e, .int .i64 nilD.u], .int .i64 6]) (by simp [results, Tryd.results13, go_sem, r0, r1, r2, r3, r4, nilD]) rfl ⟨by rw [HE.out], HBf.out⟩
end Go.Proofs.YtlpnhpnigljlnaaDoor
