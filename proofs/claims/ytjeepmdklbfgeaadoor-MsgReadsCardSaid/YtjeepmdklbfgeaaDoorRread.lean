/-
  The document's Read, of a text whose sum is right.
-/
import Derived.Test.YtjeepmdklbfgeaaDoorRdKit
import Derived.Test.YtjeepmdklbfgeaaDoorRowLd
namespace Go.Proofs.YtjeepmdklbfgeaaDoor
open Go.Sort Go.RowKit Go.Proofs.YtjeepmdklbfgeaaDoor.Pure Go.Proofs.YtjeepmdklbfgeaaDoor.W Go.Proofs.YtjeepmdklbfgeaaDoor.W.Pure

set_option maxRecDepth 100000 in
set_option maxHeartbeats 8000000 in
theorem rread_got (S : ByteArray) (w : World) (h4 : 4 ≤ S.size) (hl : S.size ≤ 4100) (ho : Opens S)
    (hMay : ∀ (m : Mg) (u : Value) (W : World), MsgV W u m → Calls Tryd.prog 12 #[u] W fun e w' => e = .returned (.bool (mayM m)) ∧ Below W.heap.size W w')
    (hWr : ∀ (m : Mg) (u : Value) (W : World), MsgV W u m → Wf m → mayM m = true → Calls Tryd.prog 19 #[u] W fun e w' => e = .returned (.string (sealB (tx (enc m)))) ∧ Below W.heap.size W w') :
    Calls Tryd.prog 20 #[.string S] w (ReadV w (readM S)) := by
  have HMay := Lib.hid hMay
  have HWr := Lib.hid hWr
  clear hMay hWr
  have hO := fun W => ropen_yes S W h4 hl ho
  have hNo := readM_no h4 hl ho
  have hYes := readM_yes h4 hl ho
  have hsz : (inner S).size ≤ 140737488351232 := by unfold inner; rw [ByteArray.size_extract]; omega
  rw [show S.extract 0 (S.size - 4) = inner S from rfl] at hO
  generalize inner S = s at *
  generalize readM S = F at *
  have HO := Lib.hid hO
  have HNo := Lib.hid hNo
  have HYes := Lib.hid hYes
  have HSz := Lib.hid hsz
  clear hO hNo hYes hsz h4 hl ho
  have hkd := upto_kd s
  have hDec := upto_all s
  have HWf := Lib.hid (dec_wf s)
  have HSm := Lib.hid (dec_small s)
  have HE3 : Hid ((upto s 3).1.ns = []) := Lib.hid (upto_ns3 s)
  have HT3 : Hid ((upto s 3).1.tb = []) := Lib.hid (upto_tb s)
  have HE4 : Hid ((upto s 4).1.tb = []) := Lib.hid (upto_tb4 s)
  have HU4 : Hid ((pof (decH s).1.kd).contains 4 = true → (upto s 4).1.ns = []) := Lib.hid (upto_ns s)
  have HBad : Hid ((pof (decH s).1.kd).contains 8 = true → (ttx s (upto s 8).2).2.b = true → (dec s).2.b = true) := Lib.hid ttx_bad
  have HC9 : Hid ((pof (decH s).1.kd).contains 9 = (pof (decH s).1.kd).contains 8) := Lib.hid (c_nine s)
  have hK : 0 ≤ (decH s).1.kd ∧ (decH s).1.kd ≤ 12 := by
    have := tnum_most s 12 t0
    exact ⟨Int.natCast_nonneg _, by show ((_ : Nat) : Int) ≤ _; omega⟩
  have hH : upto s 0 = decH s := rfl
  have HX0 : Hid ((((pof (decH s).1.kd).contains 0 = true → upto s 1 = takeP s 0 (upto s 0).1 (upto s 0).2) ∧ ((pof (decH s).1.kd).contains 0 = false → upto s 1 = upto s 0)) ∧ (upto s 0).2.p ≤ s.size) := Lib.hid ⟨⟨fun h => (upto_succ s 0).trans (stp_yes (hkd 0) h), fun h => (upto_succ s 0).trans (stp_no (hkd 0) h)⟩, upto_le s 0⟩
  have HX1 : Hid ((((pof (decH s).1.kd).contains 1 = true → upto s 2 = takeP s 1 (upto s 1).1 (upto s 1).2) ∧ ((pof (decH s).1.kd).contains 1 = false → upto s 2 = upto s 1)) ∧ (upto s 1).2.p ≤ s.size) := Lib.hid ⟨⟨fun h => (upto_succ s 1).trans (stp_yes (hkd 1) h), fun h => (upto_succ s 1).trans (stp_no (hkd 1) h)⟩, upto_le s 1⟩
  have HX2 : Hid ((((pof (decH s).1.kd).contains 2 = true → upto s 3 = takeP s 2 (upto s 2).1 (upto s 2).2) ∧ ((pof (decH s).1.kd).contains 2 = false → upto s 3 = upto s 2)) ∧ (upto s 2).2.p ≤ s.size) := Lib.hid ⟨⟨fun h => (upto_succ s 2).trans (stp_yes (hkd 2) h), fun h => (upto_succ s 2).trans (stp_no (hkd 2) h)⟩, upto_le s 2⟩
  have HX3 : Hid ((((pof (decH s).1.kd).contains 3 = true → upto s 4 = takeP s 3 (upto s 3).1 (upto s 3).2) ∧ ((pof (decH s).1.kd).contains 3 = false → upto s 4 = upto s 3)) ∧ (upto s 3).2.p ≤ s.size) := Lib.hid ⟨⟨fun h => (upto_succ s 3).trans (stp_yes (hkd 3) h), fun h => (upto_succ s 3).trans (stp_no (hkd 3) h)⟩, upto_le s 3⟩
  have HX4 : Hid ((((pof (decH s).1.kd).contains 4 = true → upto s 5 = takeP s 4 (upto s 4).1 (upto s 4).2) ∧ ((pof (decH s).1.kd).contains 4 = false → upto s 5 = upto s 4)) ∧ (upto s 4).2.p ≤ s.size) := Lib.hid ⟨⟨fun h => (upto_succ s 4).trans (stp_yes (hkd 4) h), fun h => (upto_succ s 4).trans (stp_no (hkd 4) h)⟩, upto_le s 4⟩
  have HX5 : Hid ((((pof (decH s).1.kd).contains 5 = true → upto s 6 = takeP s 5 (upto s 5).1 (upto s 5).2) ∧ ((pof (decH s).1.kd).contains 5 = false → upto s 6 = upto s 5)) ∧ (upto s 5).2.p ≤ s.size) := Lib.hid ⟨⟨fun h => (upto_succ s 5).trans (stp_yes (hkd 5) h), fun h => (upto_succ s 5).trans (stp_no (hkd 5) h)⟩, upto_le s 5⟩
  have HX6 : Hid ((((pof (decH s).1.kd).contains 6 = true → upto s 7 = takeP s 6 (upto s 6).1 (upto s 6).2) ∧ ((pof (decH s).1.kd).contains 6 = false → upto s 7 = upto s 6)) ∧ (upto s 6).2.p ≤ s.size) := Lib.hid ⟨⟨fun h => (upto_succ s 6).trans (stp_yes (hkd 6) h), fun h => (upto_succ s 6).trans (stp_no (hkd 6) h)⟩, upto_le s 6⟩
  have HX7 : Hid ((((pof (decH s).1.kd).contains 7 = true → upto s 8 = takeP s 7 (upto s 7).1 (upto s 7).2) ∧ ((pof (decH s).1.kd).contains 7 = false → upto s 8 = upto s 7)) ∧ (upto s 7).2.p ≤ s.size) := Lib.hid ⟨⟨fun h => (upto_succ s 7).trans (stp_yes (hkd 7) h), fun h => (upto_succ s 7).trans (stp_no (hkd 7) h)⟩, upto_le s 7⟩
  have HX8 : Hid ((((pof (decH s).1.kd).contains 8 = true → upto s 9 = takeP s 8 (upto s 8).1 (upto s 8).2) ∧ ((pof (decH s).1.kd).contains 8 = false → upto s 9 = upto s 8)) ∧ (upto s 8).2.p ≤ s.size) := Lib.hid ⟨⟨fun h => (upto_succ s 8).trans (stp_yes (hkd 8) h), fun h => (upto_succ s 8).trans (stp_no (hkd 8) h)⟩, upto_le s 8⟩
  have HX9 : Hid ((((pof (decH s).1.kd).contains 9 = true → upto s 10 = takeP s 9 (upto s 9).1 (upto s 9).2) ∧ ((pof (decH s).1.kd).contains 9 = false → upto s 10 = upto s 9)) ∧ (upto s 9).2.p ≤ s.size) := Lib.hid ⟨⟨fun h => (upto_succ s 9).trans (stp_yes (hkd 9) h), fun h => (upto_succ s 9).trans (stp_no (hkd 9) h)⟩, upto_le s 9⟩
  have HX10 : Hid ((((pof (decH s).1.kd).contains 10 = true → upto s 11 = takeP s 10 (upto s 10).1 (upto s 10).2) ∧ ((pof (decH s).1.kd).contains 10 = false → upto s 11 = upto s 10)) ∧ (upto s 10).2.p ≤ s.size) := Lib.hid ⟨⟨fun h => (upto_succ s 10).trans (stp_yes (hkd 10) h), fun h => (upto_succ s 10).trans (stp_no (hkd 10) h)⟩, upto_le s 10⟩
  clear hkd
  obtain ⟨D, hD⟩ : ∃ D, D = dec s := ⟨_, rfl⟩
  rw [← hD] at hDec HWf HSm HBad
  simp only [← hD] at HNo HYes
  clear hD
  have HH := Lib.hid hH
  clear hH
  generalize hKe : (decH s).1.kd = K at *
  have HKd := Lib.hid hKe
  clear hKe
  generalize upto s 0 = x0 at *
  generalize upto s 1 = x1 at *
  generalize upto s 2 = x2 at *
  generalize upto s 3 = x3 at *
  generalize upto s 4 = x4 at *
  generalize upto s 5 = x5 at *
  generalize upto s 6 = x6 at *
  generalize upto s 7 = x7 at *
  generalize upto s 8 = x8 at *
  generalize upto s 9 = x9 at *
  generalize upto s 10 = x10 at *
  generalize upto s 11 = x11 at *
  obtain ⟨B0, hB0⟩ : ∃ B, B = (pof K).contains 0 := ⟨_, rfl⟩
  rw [← hB0] at HX0
  have HB0 := Lib.hid hB0
  obtain ⟨B1, hB1⟩ : ∃ B, B = (pof K).contains 1 := ⟨_, rfl⟩
  rw [← hB1] at HX1
  have HB1 := Lib.hid hB1
  obtain ⟨B2, hB2⟩ : ∃ B, B = (pof K).contains 2 := ⟨_, rfl⟩
  rw [← hB2] at HX2
  have HB2 := Lib.hid hB2
  obtain ⟨B3, hB3⟩ : ∃ B, B = (pof K).contains 3 := ⟨_, rfl⟩
  rw [← hB3] at HX3
  have HB3 := Lib.hid hB3
  obtain ⟨B4, hB4⟩ : ∃ B, B = (pof K).contains 4 := ⟨_, rfl⟩
  rw [← hB4] at HX4
  have HB4 := Lib.hid hB4
  obtain ⟨B5, hB5⟩ : ∃ B, B = (pof K).contains 5 := ⟨_, rfl⟩
  rw [← hB5] at HX5
  have HB5 := Lib.hid hB5
  obtain ⟨B6, hB6⟩ : ∃ B, B = (pof K).contains 6 := ⟨_, rfl⟩
  rw [← hB6] at HX6
  have HB6 := Lib.hid hB6
  obtain ⟨B7, hB7⟩ : ∃ B, B = (pof K).contains 7 := ⟨_, rfl⟩
  rw [← hB7] at HX7
  have HB7 := Lib.hid hB7
  obtain ⟨B8, hB8⟩ : ∃ B, B = (pof K).contains 8 := ⟨_, rfl⟩
  rw [← hB8] at HX8
  have HB8 := Lib.hid hB8
  obtain ⟨B9, hB9⟩ : ∃ B, B = (pof K).contains 9 := ⟨_, rfl⟩
  rw [← hB9] at HX9
  have HB9 := Lib.hid hB9
  obtain ⟨B10, hB10⟩ : ∃ B, B = (pof K).contains 10 := ⟨_, rfl⟩
  rw [← hB10] at HX10
  have HB10 := Lib.hid hB10
  rw [← hB4] at HU4
  rw [← hB8] at HBad HC9
  rw [← hB9] at HC9
  have HX8' : Hid (((B8 = true → x9 = takeP s 8 x8.1 x8.2 ∧ x10 = takeP s 9 x9.1 x9.2) ∧ (B8 = false → x10 = x8)) ∧ x8.2.p ≤ s.size ∧ x9.2.p ≤ s.size) := Lib.hid (by
    obtain ⟨⟨y8, n8⟩, l8⟩ := HX8.out
    obtain ⟨⟨y9, n9⟩, l9⟩ := HX9.out
    have e := HC9.out
    exact ⟨⟨fun h => ⟨y8 h, y9 (e.trans h)⟩, fun h => (n9 (e.trans h)).trans (n8 h)⟩, l8, l9⟩)
  clear HX8 HX9
  have HX8 := HX8'
  clear HX8' HB9 HC9
  clear hB0 hB1 hB2 hB3 hB4 hB5 hB6 hB7 hB8 hB9 hB10
  have HK : Hid (K = 0 ∨ K = 1 ∨ K = 2 ∨ K = 3 ∨ K = 4 ∨ K = 5 ∨ K = 6 ∨ K = 7 ∨ K = 8 ∨ K = 9 ∨ K = 10 ∨ K = 11 ∨ K = 12) := Lib.hid (by omega)
  have HDc := Lib.hid hDec
  clear hK hDec
  have HB0 : Hid (Below w.heap.size w (w.alloc (.cells #[.int .i64 0, .int .i64 0, .int .i64 0, .int .u64 0, .int .i64 0, .int .u64 0, .int .i64 0, .slice none 0 0, .slice none 0 0, .int .u64 0, .int .u64 0, .int .i64 0, .string ⟨#[]⟩, .int .u64 0, .bool false] 28))) := Lib.hid ((Below.refl _ _).alloc (Nat.le_refl _) _)
  have HR0 : Hid (Var (w.alloc (.cells #[.int .i64 0, .int .i64 0, .int .i64 0, .int .u64 0, .int .i64 0, .int .u64 0, .int .i64 0, .slice none 0 0, .slice none 0 0, .int .u64 0, .int .u64 0, .int .i64 0, .string ⟨#[]⟩, .int .u64 0, .bool false] 28)) w.heap.size (.agg zcs.toArray)) := Lib.hid (Var.new w zm none none 0 0 0 0)
  have z0 : w.heap.size < (w.alloc (.cells #[.int .i64 0, .int .i64 0, .int .i64 0, .int .u64 0, .int .i64 0, .int .u64 0, .int .i64 0, .slice none 0 0, .slice none 0 0, .int .u64 0, .int .u64 0, .int .i64 0, .string ⟨#[]⟩, .int .u64 0, .bool false] 28)).heap.size := by simp
  obtain ⟨r, er⟩ : ∃ r, r = w.heap.size := ⟨_, rfl⟩
  go_enter Tryd.func20, Tryd.ntmps20
  go_upto_region 1 with (fail)
  generalize w.alloc (.cells #[.int .i64 0, .int .i64 0, .int .i64 0, .int .u64 0, .int .i64 0, .int .u64 0, .int .i64 0, .slice none 0 0, .slice none 0 0, .int .u64 0, .int .u64 0, .int .i64 0, .string ⟨#[]⟩, .int .u64 0, .bool false] 28) = w1 at *
  go_upto_region 2 with (go_at_call 44; refine (HO.out _).mono ?_; rintro e w2 ⟨rfl, hb2⟩; have HB2 := Lib.hid (HB0.out.trans (hb2.mono HB0.out.size)); have HR2 := Lib.hid (HR0.out.on hb2); have z2 := hb2.size; clear hb2)
  have HS0 : Hid (Sto w ((w2.alloc (.cells #[.string s, .int .i64 0, .bool true] 78)).alloc (.cells #[.int .i64 0, .int .i64 0, .int .i64 0, .int .u64 0, .int .i64 0, .int .u64 0, .int .i64 0, .slice none 0 0, .slice none 0 0, .int .u64 0, .int .u64 0, .int .i64 0, .string ⟨#[]⟩, .int .u64 0, .bool false] 28)) r w2.heap.size (w2.heap.size + 1) s (zm, t0) (.slice none 0 0) (.slice none 0 0)) := Lib.hid (by
    have hr1 := Row.new w2 #[.string s, .int .i64 0, .bool true] 78
    have hb1 : Below w2.heap.size w2 (w2.alloc (.cells #[.string s, .int .i64 0, .bool true] 78)) := (Below.refl _ _).alloc (Nat.le_refl _) _
    have e1 : (w2.alloc (.cells #[.string s, .int .i64 0, .bool true] 78)).heap.size = w2.heap.size + 1 := by simp
    generalize w2.alloc (.cells #[.string s, .int .i64 0, .bool true] 78) = wx at *
    have hr2 := Row.new wx #[.int .i64 0, .int .i64 0, .int .i64 0, .int .u64 0, .int .i64 0, .int .u64 0, .int .i64 0, .slice none 0 0, .slice none 0 0, .int .u64 0, .int .u64 0, .int .i64 0, .string ⟨#[]⟩, .int .u64 0, .bool false] 28
    have hb2 : Below wx.heap.size wx (wx.alloc (.cells #[.int .i64 0, .int .i64 0, .int .i64 0, .int .u64 0, .int .i64 0, .int .u64 0, .int .i64 0, .slice none 0 0, .slice none 0 0, .int .u64 0, .int .u64 0, .int .i64 0, .string ⟨#[]⟩, .int .u64 0, .bool false] 28)) := (Below.refl _ _).alloc (Nat.le_refl _) _
    rw [e1] at hr2
    have hlt := HB0.out.size
    exact ⟨hr1.on hb2 (show 0 < 3 by decide), ⟨hr2, OwnN.nil _ _, Own.nil _ _⟩, er ▸ ((HR2.out.on hb1).on hb2), (HB2.out.trans (hb1.mono (by omega))).trans (hb2.mono (by omega)), ⟨by omega, by omega, by omega⟩, fun _ => rfl, fun _ => rfl⟩)
  clear HR0 HB0 HO HB2 HR2
  go_upto_region 7 with (fail)
  generalize (w2.alloc (.cells #[.string s, .int .i64 0, .bool true] 78)).alloc (.cells #[.int .i64 0, .int .i64 0, .int .i64 0, .int .u64 0, .int .i64 0, .int .u64 0, .int .i64 0, .slice none 0 0, .slice none 0 0, .int .u64 0, .int .u64 0, .int .i64 0, .string ⟨#[]⟩, .int .u64 0, .bool false] 28) = w3 at *
  rw [← er]
  obtain ⟨bt, ebt⟩ : ∃ bt, bt = w2.heap.size := ⟨_, rfl⟩
  obtain ⟨bm, ebm⟩ : ∃ bm, bm = w2.heap.size + 1 := ⟨_, rfl⟩
  simp only [← ebt] at *
  simp only [← ebm] at *
  clear ebt ebm er z0 z2
  -- the head
  obtain ⟨⟨n1, t1⟩, hR1⟩ : ∃ R, tnum s 12 t0 = R := ⟨_, rfl⟩
  obtain ⟨⟨n2, t2⟩, hR2⟩ : ∃ R, tnum s 63 t1 = R := ⟨_, rfl⟩
  obtain ⟨⟨n3, t3⟩, hR3⟩ : ∃ R, tnum s 63 t2 = R := ⟨_, rfl⟩
  have hq1 := tnum_le s 12 t0 (Nat.zero_le _)
  rw [hR1] at hq1
  have hq2 := tnum_le s 63 t1 hq1
  rw [hR2] at hq2
  have HN1 := Lib.hid (num_at 12 rfl hR1 HSz.out (Nat.zero_le _))
  have HN2 := Lib.hid (num_at 63 rfl hR2 HSz.out hq1)
  have HN3 := Lib.hid (num_at 63 rfl hR3 HSz.out hq2)
  have hm1 := tnum_most s 12 t0
  rw [hR1] at hm1
  have hm2 := tnum_most s 63 t1
  rw [hR2] at hm2
  have hm3 := tnum_most s 63 t2
  rw [hR3] at hm3
  simp only [] at hm1 hm2 hm3
  have hx0 : x0 = ({ zm with kd := (n1 : Int), fr := (n2 : Int), «to» := (n3 : Int) }, t3) := by
    rw [HH.out]; unfold decH; rw [hR1]; simp only []; rw [hR2]; simp only []; rw [hR3]
  have hKn : K = (n1 : Int) := by rw [← HKd.out, ← HH.out, hx0]
  have HX := Lib.hid hx0
  have HKn := Lib.hid hKn
  have v1 : IntKind.i64.wrap (n1 : Int) = (n1 : Int) := IntWalk.i64_in _ ⟨by omega, by omega⟩
  have v2 : IntKind.i64.wrap (n2 : Int) = (n2 : Int) := IntWalk.i64_in _ ⟨by omega, by omega⟩
  have v3 : IntKind.i64.wrap (n3 : Int) = (n3 : Int) := IntWalk.i64_in _ ⟨by omega, by omega⟩
  have ob := HS0.out.o
  have d1 : ¬ bm = bt := by omega
  have d2 : ¬ bt = bm := by omega
  clear hx0 hKn hR1 hR2 hR3 hq1 hq2 hm1 hm2 hm3 HH HKd
  have a0 := HS0.out.t.at_ 0 _ rfl
  have a1 : w3.cell? ⟨bt, 1, none⟩ = some (.int .i64 0) := HS0.out.t.at_ 1 _ rfl
  have a2 : w3.cell? ⟨bt, 2, none⟩ = some (.bool true) := HS0.out.t.at_ 2 _ rfl
  have af := HS0.out.t.2
  go_upto_region 8 with (go_at_call 45; refine (HN1.out _).mono ?_; rintro e wa ⟨rfl, hb⟩; have HSa := Lib.hid (HS0.out.on hb); clear hb a0 a1 a2 af; have a0 := HSa.out.t.at_ 0 _ rfl; have a1 := HSa.out.t.at_ 1 _ rfl; have a2 := HSa.out.t.at_ 2 _ rfl; have af := HSa.out.t.2)
  have HSb := Lib.hid (HSa.out.setR t1)
  clear HSa a0 a1 a2 af HS0 HN1
  generalize ((wa.setCell ⟨bt, 0, none⟩ (.string s)).setCell ⟨bt, 1, none⟩ (.int .i64 (t1.p : Int))).setCell ⟨bt, 2, none⟩ (.bool (!t1.b)) = wb at *
  have a0 := HSb.out.t.at_ 0 _ rfl
  have a1 := HSb.out.t.at_ 1 _ rfl
  have a2 := HSb.out.t.at_ 2 _ rfl
  have af := HSb.out.t.2
  go_upto_region 9 with (go_at_call 45; refine (HN2.out _).mono ?_; rintro e wa2 ⟨rfl, hb⟩; have HSa := Lib.hid (HSb.out.on hb); clear hb a0 a1 a2 af; have a0 := HSa.out.t.at_ 0 _ rfl; have a1 := HSa.out.t.at_ 1 _ rfl; have a2 := HSa.out.t.at_ 2 _ rfl; have af := HSa.out.t.2)
  have HSc := Lib.hid (HSa.out.setR t2)
  clear HSa a0 a1 a2 af HSb HN2
  generalize ((wa2.setCell ⟨bt, 0, none⟩ (.string s)).setCell ⟨bt, 1, none⟩ (.int .i64 (t2.p : Int))).setCell ⟨bt, 2, none⟩ (.bool (!t2.b)) = wc1 at *
  have a0 := HSc.out.t.at_ 0 _ rfl
  have a1 := HSc.out.t.at_ 1 _ rfl
  have a2 := HSc.out.t.at_ 2 _ rfl
  have af := HSc.out.t.2
  go_upto_region 10 with (go_at_call 45; refine (HN3.out _).mono ?_; rintro e wa3 ⟨rfl, hb⟩; have HSa := Lib.hid (HSc.out.on hb); clear hb a0 a1 a2 af; have a0 := HSa.out.t.at_ 0 _ rfl; have a1 := HSa.out.t.at_ 1 _ rfl; have a2 := HSa.out.t.at_ 2 _ rfl; have af := HSa.out.t.2)
  have HSd := Lib.hid (HSa.out.setR t3)
  clear HSa a0 a1 a2 af HSc HN3
  generalize ((wa3.setCell ⟨bt, 0, none⟩ (.string s)).setCell ⟨bt, 1, none⟩ (.int .i64 (t3.p : Int))).setCell ⟨bt, 2, none⟩ (.bool (!t3.b)) = wd at *
  have m0 := HSd.out.m.1.at_ 0 _ rfl
  have m1 := HSd.out.m.1.at_ 1 _ rfl
  have m2 := HSd.out.m.1.at_ 2 _ rfl
  have mf := HSd.out.m.1.2
  go_upto_region 11 with (fail)
  have HS0 : Hid (Sto w (((wd.setCell ⟨bm, 0, none⟩ (.int .i64 (n1 : Int))).setCell ⟨bm, 1, none⟩ (.int .i64 (n2 : Int))).setCell ⟨bm, 2, none⟩ (.int .i64 (n3 : Int))) r bt bm s x0 (.slice none 0 0) (.slice none 0 0)) := Lib.hid (by
    rw [HX.out]
    exact ((HSd.out.setM (m' := { zm with kd := (n1 : Int) }) 0 (.int .i64 (n1 : Int)) (by decide) rfl rfl rfl).setM (m' := { zm with kd := (n1 : Int), fr := (n2 : Int) }) 1 (.int .i64 (n2 : Int)) (by decide) rfl rfl rfl).setM (m' := { zm with kd := (n1 : Int), fr := (n2 : Int), «to» := (n3 : Int) }) 2 (.int .i64 (n3 : Int)) (by decide) rfl rfl rfl)
  clear HSd m0 m1 m2 mf
  generalize ((wd.setCell ⟨bm, 0, none⟩ (.int .i64 (n1 : Int))).setCell ⟨bm, 1, none⟩ (.int .i64 (n2 : Int))).setCell ⟨bm, 2, none⟩ (.int .i64 (n3 : Int)) = W0 at *
  have m0 : W0.cell? ⟨bm, 0, none⟩ = some (.int .i64 K) := by
    have h := HS0.out.m.1.at_ 0 _ rfl
    rw [h, HX.out, HKn.out]
  generalize hn0 : (Value.slice none 0 0) = nv0 at HS0
  obtain ⟨tv0, ht0⟩ : ∃ v, v = nv0 := ⟨_, rfl⟩
  rw [show Sto w W0 r bt bm s x0 nv0 nv0 = Sto w W0 r bt bm s x0 nv0 tv0 by rw [ht0]] at HS0
  clear hn0 ht0 HX HKn v1 v2 v3 ob d1 d2
  go_upto_region 12 with (fail)
  clear m0
  -- part 0
  go_upto_region 12 with (fail)
  go_cut [64] from 59 to 64 (fun sx wx => sx = .bool B0 ∧ W0 = wx)
  case first =>
    have e := HB0.out
    rcases HK.out with rfl | rfl | rfl | rfl | rfl | rfl | rfl | rfl | rfl | rfl | rfl | rfl | rfl <;> (subst e; go_wp2_with fail; go_meet; exact ⟨rfl, rfl⟩)
  obtain ⟨rfl, rfl⟩ := hcut
  go_upto_if 64 with (fail)
  go_cut [8, 9, 10] from 65 to 70 (fun s8 s9 s10 wx => ∃ nv' tv', Hid (Sto w wx r bt bm s x1 nv' tv'))
  case first => as_aux_lemma =>
    clear HB0
    obtain ⟨⟨HY, HNo⟩, hp⟩ := HX0.out
    rcases B0 with _ | _
    · have e := HNo rfl
      clear HY HNo hp
      have HS' := Lib.hid (show Sto w W0 r bt bm s x1 nv0 tv0 by rw [e]; exact HS0.out)
      clear e
      go_wp2_with fail
      go_meet
      exact ⟨_, _, HS'⟩
    · have hx := HY rfl
      clear HY HNo
      obtain ⟨m, t⟩ := x0
      simp only [] at hx hp
      obtain ⟨⟨n, t2⟩, hR⟩ : ∃ R, tnum s 18446744073709551615 t = R := ⟨_, rfl⟩
      have HN := Lib.hid (num_at 18446744073709551615 rfl hR HSz.out hp)
      have hm := tnum_most s 18446744073709551615 t
      rw [hR] at hm
      simp only [] at hm
      have hx' : x1 = ({ m with sq := n }, t2) := by rw [hx]; show (({ m with sq := (tnum s 18446744073709551615 t).1 } : Mg), _) = _; rw [hR]
      have HX' := Lib.hid hx'
      clear hx' hx hR hp
      clear hm
      have a0 := HS0.out.t.at_ 0 _ rfl
      have a1 := HS0.out.t.at_ 1 _ rfl
      have a2 := HS0.out.t.at_ 2 _ rfl
      have af := HS0.out.t.2
      have m3 := HS0.out.m.1.at_ 3 _ rfl
      have mf := HS0.out.m.1.2
      have ob := HS0.out.o
      have d1 : ¬ bm = bt := by omega
      have d2 : ¬ bt = bm := by omega
      go_wp2_with (go_at_call 45; refine (HN.out _).mono ?_; rintro e wa ⟨rfl, hb⟩; have HSa := Lib.hid (HS0.out.on hb); clear hb a0 a1 a2 af m3 mf; have a0 := HSa.out.t.at_ 0 _ rfl; have a1 := HSa.out.t.at_ 1 _ rfl; have a2 := HSa.out.t.at_ 2 _ rfl; have af := HSa.out.t.2; have m3 := HSa.out.m.1.at_ 3 _ rfl; have mf := HSa.out.m.1.2)
      go_meet
      exact ⟨_, _, Lib.hid (by rw [HX'.out]; exact (HSa.out.setM (m' := { m with sq := n }) 3 (.int .u64 (n : Int)) (by decide) rfl rfl rfl).setR t2)⟩
  obtain ⟨nv1, tv1, HS1⟩ := hcut
  obtain ⟨W1, eW⟩ : ∃ W, W = wc := ⟨_, rfl⟩
  subst eW
  clear HS0 HX0 HB0
  -- part 1
  go_upto_region 14 with (fail)
  go_cut [76] from 71 to 76 (fun sx wx => sx = .bool B1 ∧ W1 = wx)
  case first =>
    have e := HB1.out
    rcases HK.out with rfl | rfl | rfl | rfl | rfl | rfl | rfl | rfl | rfl | rfl | rfl | rfl | rfl <;> (subst e; go_wp2_with fail; go_meet; exact ⟨rfl, rfl⟩)
  obtain ⟨rfl, rfl⟩ := hcut
  go_upto_if 76 with (fail)
  go_cut [8, 9, 10] from 77 to 84 (fun s8 s9 s10 wx => ∃ nv' tv', Hid (Sto w wx r bt bm s x2 nv' tv'))
  case first => as_aux_lemma =>
    clear HB1
    obtain ⟨⟨HY, HNo⟩, hp⟩ := HX1.out
    rcases B1 with _ | _
    · have e := HNo rfl
      clear HY HNo hp
      have HS' := Lib.hid (show Sto w W1 r bt bm s x2 nv1 tv1 by rw [e]; exact HS1.out)
      clear e
      go_wp2_with fail
      go_meet
      exact ⟨_, _, HS'⟩
    · have hx := HY rfl
      clear HY HNo
      obtain ⟨m, t⟩ := x1
      simp only [] at hx hp
      obtain ⟨⟨n, t2⟩, hR⟩ : ∃ R, tnum s 63 t = R := ⟨_, rfl⟩
      have HN := Lib.hid (num_at 63 rfl hR HSz.out hp)
      have hm := tnum_most s 63 t
      rw [hR] at hm
      simp only [] at hm
      have hx' : x2 = ({ m with wh := (n : Int) }, t2) := by rw [hx]; show (({ m with wh := ((tnum s 63 t).1 : Int) } : Mg), _) = _; rw [hR]
      have HX' := Lib.hid hx'
      clear hx' hx hR hp
      have wk : IntKind.i64.wrap (n : Int) = (n : Int) := IntWalk.i64_in _ ⟨by omega, by omega⟩
      clear hm
      have a0 := HS1.out.t.at_ 0 _ rfl
      have a1 := HS1.out.t.at_ 1 _ rfl
      have a2 := HS1.out.t.at_ 2 _ rfl
      have af := HS1.out.t.2
      have m4 := HS1.out.m.1.at_ 4 _ rfl
      have mf := HS1.out.m.1.2
      have ob := HS1.out.o
      have d1 : ¬ bm = bt := by omega
      have d2 : ¬ bt = bm := by omega
      go_wp2_with (go_at_call 45; refine (HN.out _).mono ?_; rintro e wa ⟨rfl, hb⟩; have HSa := Lib.hid (HS1.out.on hb); clear hb a0 a1 a2 af m4 mf; have a0 := HSa.out.t.at_ 0 _ rfl; have a1 := HSa.out.t.at_ 1 _ rfl; have a2 := HSa.out.t.at_ 2 _ rfl; have af := HSa.out.t.2; have m4 := HSa.out.m.1.at_ 4 _ rfl; have mf := HSa.out.m.1.2)
      go_meet
      exact ⟨_, _, Lib.hid (by rw [HX'.out]; exact (HSa.out.setR t2).setM (m' := { m with wh := (n : Int) }) 4 (.int .i64 (n : Int)) (by decide) rfl rfl rfl)⟩
  obtain ⟨nv2, tv2, HS2⟩ := hcut
  obtain ⟨W2, eW⟩ : ∃ W, W = wc := ⟨_, rfl⟩
  subst eW
  clear HS1 HX1 HB1
  -- part 2
  go_upto_region 17 with (fail)
  go_cut [90] from 85 to 90 (fun sx wx => sx = .bool B2 ∧ W2 = wx)
  case first =>
    have e := HB2.out
    rcases HK.out with rfl | rfl | rfl | rfl | rfl | rfl | rfl | rfl | rfl | rfl | rfl | rfl | rfl <;> (subst e; go_wp2_with fail; go_meet; exact ⟨rfl, rfl⟩)
  obtain ⟨rfl, rfl⟩ := hcut
  go_upto_if 90 with (fail)
  go_cut [8, 9, 10] from 91 to 105 (fun s8 s9 s10 wx => ∃ nv' tv', Hid (Sto w wx r bt bm s x3 nv' tv'))
  case first => as_aux_lemma =>
    clear HB2
    obtain ⟨⟨HY, HNo⟩, hp⟩ := HX2.out
    rcases B2 with _ | _
    · have e := HNo rfl
      clear HY HNo hp
      have HS' := Lib.hid (show Sto w W2 r bt bm s x3 nv2 tv2 by rw [e]; exact HS2.out)
      clear e
      go_wp2_with fail
      go_meet
      exact ⟨_, _, HS'⟩
    · have hx := HY rfl
      clear HY HNo
      obtain ⟨m, t⟩ := x2
      simp only [] at hx hp
      obtain ⟨⟨n, t2⟩, hR⟩ : ∃ R, tnum s 18446744073709551615 t = R := ⟨_, rfl⟩
      obtain ⟨⟨n', t3⟩, hR'⟩ : ∃ R, tnum s 3 t2 = R := ⟨_, rfl⟩
      have hp2 := tnum_le s 18446744073709551615 t hp
      rw [hR] at hp2
      have HN := Lib.hid (num_at 18446744073709551615 rfl hR HSz.out hp)
      have HN' := Lib.hid (num_at 3 rfl hR' HSz.out hp2)
      have hm := tnum_most s 3 t2
      rw [hR'] at hm
      simp only [] at hm
      have hx' : x3 = ({ m with k := ⟨(n : Int), (n' : Int)⟩ }, t3) := by rw [hx]; show (({ m with k := (tkn s t).1 } : Mg), (tkn s t).2) = _; unfold tkn; rw [hR]; simp only []; rw [hR']
      have HX' := Lib.hid hx'
      clear hx' hx hR hR' hp hp2
      have wk : IntKind.i64.wrap (n' : Int) = (n' : Int) := IntWalk.i64_in _ ⟨by omega, by omega⟩
      clear hm
      have a0 := HS2.out.t.at_ 0 _ rfl
      have a1 := HS2.out.t.at_ 1 _ rfl
      have a2 := HS2.out.t.at_ 2 _ rfl
      have af := HS2.out.t.2
      have ob := HS2.out.o
      have d1 : ¬ bm = bt := by omega
      have d2 : ¬ bt = bm := by omega
      go_upto_region 19 with (go_at_call 45; refine (HN.out _).mono ?_; rintro e wa ⟨rfl, hb⟩; have HSa := Lib.hid (HS2.out.on hb); clear hb a0 a1 a2 af; have a0 := HSa.out.t.at_ 0 _ rfl; have a1 := HSa.out.t.at_ 1 _ rfl; have a2 := HSa.out.t.at_ 2 _ rfl; have af := HSa.out.t.2)
      have HSb := Lib.hid (HSa.out.setR t2)
      clear HSa a0 a1 a2 af
      generalize ((wa.setCell ⟨bt, 0, none⟩ (.string s)).setCell ⟨bt, 1, none⟩ (.int .i64 (t2.p : Int))).setCell ⟨bt, 2, none⟩ (.bool (!t2.b)) = wb at *
      have a0 := HSb.out.t.at_ 0 _ rfl
      have a1 := HSb.out.t.at_ 1 _ rfl
      have a2 := HSb.out.t.at_ 2 _ rfl
      have af := HSb.out.t.2
      have m5 := HSb.out.m.1.at_ 5 _ rfl
      have m6 := HSb.out.m.1.at_ 6 _ rfl
      have mf := HSb.out.m.1.2
      go_wp2_with (go_at_call 45; refine (HN'.out _).mono ?_; rintro e wc2 ⟨rfl, hb⟩; have HSc := Lib.hid (HSb.out.on hb); clear hb a0 a1 a2 af m5 m6 mf; have a0 := HSc.out.t.at_ 0 _ rfl; have a1 := HSc.out.t.at_ 1 _ rfl; have a2 := HSc.out.t.at_ 2 _ rfl; have af := HSc.out.t.2; have m5 := HSc.out.m.1.at_ 5 _ rfl; have m6 := HSc.out.m.1.at_ 6 _ rfl; have mf := HSc.out.m.1.2)
      go_meet
      exact ⟨_, _, Lib.hid (by rw [HX'.out]; exact ((HSc.out.setR t3).setM (m' := { m with k := ⟨(n : Int), m.k.s⟩ }) 5 (.int .u64 (n : Int)) (by decide) rfl rfl rfl).setM (m' := { m with k := ⟨(n : Int), (n' : Int)⟩ }) 6 (.int .i64 (n' : Int)) (by decide) rfl rfl rfl)⟩
  obtain ⟨nv3, tv3, HS3⟩ := hcut
  obtain ⟨W3, eW⟩ : ∃ W, W = wc := ⟨_, rfl⟩
  subst eW
  clear HS2 HX2 HB2
  -- part 3
  go_upto_region 21 with (fail)
  go_cut [111] from 106 to 111 (fun sx wx => sx = .bool B3 ∧ W3 = wx)
  case first =>
    have e := HB3.out
    rcases HK.out with rfl | rfl | rfl | rfl | rfl | rfl | rfl | rfl | rfl | rfl | rfl | rfl | rfl <;> (subst e; go_wp2_with fail; go_meet; exact ⟨rfl, rfl⟩)
  obtain ⟨rfl, rfl⟩ := hcut
  go_upto_if 111 with (fail)
  go_cut [8, 9, 10, 12, 13, 14] from 112 to 149 (fun s8 s9 s10 s12 s13 s14 wx => ∃ nv' tv', Hid (Sto w wx r bt bm s x4 nv' tv'))
  case first => as_aux_lemma =>
    clear HB3
    obtain ⟨⟨HY, HNo⟩, hp⟩ := HX3.out
    rcases B3 with _ | _
    · have e := HNo rfl
      clear HY HNo hp
      have HS' := Lib.hid (show Sto w W3 r bt bm s x4 nv3 tv3 by rw [e]; exact HS3.out)
      clear e
      go_wp2_with fail
      go_meet
      exact ⟨_, _, HS'⟩
    · have hx := HY rfl
      clear HY HNo
      obtain ⟨m, t⟩ := x3
      simp only [] at hx hp
      obtain ⟨⟨n, t2⟩, hR⟩ : ∃ R, tnum s 8 t = R := ⟨_, rfl⟩
      have hp2 := tnum_le s 8 t hp
      rw [hR] at hp2
      have HN := Lib.hid (num_at 8 rfl hR HSz.out hp)
      have hm := tnum_most s 8 t
      rw [hR] at hm
      simp only [] at hm hp2
      have hx' : x4 = ({ m with ns := (tls (tnw s) n t2).1 }, (tls (tnw s) n t2).2) := by rw [hx]; show (({ m with ns := (tnws s t).1 } : Mg), (tnws s t).2) = _; unfold tnws; rw [hR]
      have HX' := Lib.hid hx'
      have hml : m.ns = [] := HE3.out
      have hmo : m.tb = [] := HT3.out
      clear hx' hx hR hp
      have HLe : Hid (∀ k, (tls (tnw s) k t2).2.p ≤ s.size) := Lib.hid (fun k => tls_le s _ (tnw_le s) k _ hp2)
      have HLn : Hid (∀ k, (tls (tnw s) k t2).1.length = k) := Lib.hid (fun k => tls_len _ k _)
      have HSt : Hid (∀ k, (tls (tnw s) (k + 1) t2).1 = (tls (tnw s) k t2).1 ++ [(tnw s (tls (tnw s) k t2).2).1] ∧ (tls (tnw s) (k + 1) t2).2 = (tnw s (tls (tnw s) k t2).2).2) := Lib.hid (fun k => ⟨rfl, rfl⟩)
      have HZ0 : Hid (tls (tnw s) 0 t2 = ([], t2)) := Lib.hid rfl
      clear hp2
      obtain ⟨g, hg⟩ : ∃ g, g = fun k => tls (tnw s) k t2 := ⟨_, rfl⟩
      have hg' : ∀ k, tls (tnw s) k t2 = g k := fun k => by rw [hg]
      simp only [hg'] at *
      clear hg hg'
      have a0 := HS3.out.t.at_ 0 _ rfl
      have a1 := HS3.out.t.at_ 1 _ rfl
      have a2 := HS3.out.t.at_ 2 _ rfl
      have af := HS3.out.t.2
      have ob := HS3.out.o
      have d1 : ¬ bm = bt := by omega
      have d2 : ¬ bt = bm := by omega
      go_upto_region 22 with (fail)
      go_upto_region 23 with (go_at_call 45; refine (HN.out _).mono ?_; rintro e wa ⟨rfl, hb⟩; have HSa := Lib.hid (HS3.out.on hb); clear hb a0 a1 a2 af)
      have hn := Row.new wa #[.string s, .int .i64 (t2.p : Int), .bool (!t2.b)] 78
      have HSn := Lib.hid (HSa.out.on ((Below.refl _ _).alloc (Nat.le_refl _) (.cells #[.string s, .int .i64 (t2.p : Int), .bool (!t2.b)] 78)))
      generalize wa.alloc (.cells #[.string s, .int .i64 (t2.p : Int), .bool (!t2.b)] 78) = wn at *
      have n0 := hn.at_ 0 _ rfl
      have n1 := hn.at_ 1 _ rfl
      have n2 := hn.at_ 2 _ rfl
      have a0 := HSn.out.t.at_ 0 _ rfl
      have a1 := HSn.out.t.at_ 1 _ rfl
      have a2 := HSn.out.t.at_ 2 _ rfl
      have af := HSn.out.t.2
      clear hn
      go_upto_region 24 with (fail)
      have HSb := Lib.hid (HSn.out.setR t2)
      clear HSn HSa n0 n1 n2 a0 a1 a2 af
      generalize ((wn.setCell ⟨bt, 0, none⟩ (.string s)).setCell ⟨bt, 1, none⟩ (.int .i64 (t2.p : Int))).setCell ⟨bt, 2, none⟩ (.bool (!t2.b)) = wb at *
      go_wp2_with fail
      go_loopw [8, 9, 10, 14] (fun s8 s9 s10 j wr => ∃ (k : Nat) (v' : Value), j = .int .u64 k ∧ k ≤ n ∧ Hid (Sto w wr r bt bm s ({ m with ns := (g k).1 }, (g k).2) v' tv3)) (fun _ _ _ j _ => n - (intOf j).toNat)
      case atStart => exact ⟨0, _, rfl, Nat.zero_le _, Lib.hid (by rw [HZ0.out]; simp only []; rw [ns_nil hml]; exact HSb.out)⟩
      case round =>
        obtain ⟨k, v', rfl, hk, HSr⟩ := hrel
        obtain ⟨wq, ewq⟩ : ∃ wq, wq = wr := ⟨_, rfl⟩
        subst ewq
        by_cases hlt : k < n
        · have e0 : decide ((k : Int) < (n : Int)) = true := by simp; omega
          have e0' : decide (k < n) = true := by simpa using hlt
          have hX := HSt.out k
          have hln := HLn.out k
          have hle := HLe.out k
          obtain ⟨⟨l, tk⟩, hgk⟩ : ∃ R, g k = R := ⟨_, rfl⟩
          rw [hgk] at hX hln hle HSr
          simp only [] at hln hle
          clear hgk
          obtain ⟨⟨a, ta⟩, hRa⟩ : ∃ R, tnum s 63 tk = R := ⟨_, rfl⟩
          have hlea := tnum_le s 63 tk hle
          rw [hRa] at hlea
          simp only [] at hlea
          have HNa := Lib.hid (num_at 63 rfl hRa HSz.out hle)
          have hma := tnum_most s 63 tk
          rw [hRa] at hma
          simp only [] at hma
          obtain ⟨⟨b, tb⟩, hRb⟩ : ∃ R, tnum s 18446744073709551615 ta = R := ⟨_, rfl⟩
          have hleb := tnum_le s 18446744073709551615 ta hlea
          rw [hRb] at hleb
          simp only [] at hleb
          have HNb := Lib.hid (num_at 18446744073709551615 rfl hRb HSz.out hlea)
          have hmb := tnum_most s 18446744073709551615 ta
          rw [hRb] at hmb
          simp only [] at hmb
          obtain ⟨⟨c, tc⟩, hRc⟩ : ∃ R, tnum s 3 tb = R := ⟨_, rfl⟩
          have hlec := tnum_le s 3 tb hleb
          rw [hRc] at hlec
          simp only [] at hlec
          have HNc := Lib.hid (num_at 3 rfl hRc HSz.out hleb)
          have hmc := tnum_most s 3 tb
          rw [hRc] at hmc
          simp only [] at hmc
          have hy : tnw s tk = (⟨(a : Int), (b : Int), (c : Int)⟩, tc) := by unfold tnw tkn; rw [hRa]; simp only []; rw [hRb]; simp only []; rw [hRc]
          rw [hy] at hX
          have HX2 := Lib.hid hX
          have wka : IntKind.i64.wrap (a : Int) = (a : Int) := IntWalk.i64_in _ ⟨by omega, by omega⟩
          have wkc : IntKind.i64.wrap (c : Int) = (c : Int) := IntWalk.i64_in _ ⟨by omega, by omega⟩
          clear hX hy hRa hRb hRc hlea hleb hlec hma hmb hmc hle
          have a0 := HSr.out.t.at_ 0 _ rfl
          have a1 := HSr.out.t.at_ 1 _ rfl
          have a2 := HSr.out.t.at_ 2 _ rfl
          have af := HSr.out.t.2
          go_upto_region 28 with (go_at_call 45; refine (HNa.out _).mono ?_; rintro e waa ⟨rfl, hb⟩; have HSaa := Lib.hid (HSr.out.on hb); clear hb a0 a1 a2 af; have a0 := HSaa.out.t.at_ 0 _ rfl; have a1 := HSaa.out.t.at_ 1 _ rfl; have a2 := HSaa.out.t.at_ 2 _ rfl; have af := HSaa.out.t.2)
          have HSba := Lib.hid (HSaa.out.setR ta)
          clear HSaa a0 a1 a2 af
          generalize ((waa.setCell ⟨bt, 0, none⟩ (.string s)).setCell ⟨bt, 1, none⟩ (.int .i64 (ta.p : Int))).setCell ⟨bt, 2, none⟩ (.bool (!ta.b)) = wba at *
          have a0 := HSba.out.t.at_ 0 _ rfl
          have a1 := HSba.out.t.at_ 1 _ rfl
          have a2 := HSba.out.t.at_ 2 _ rfl
          have af := HSba.out.t.2
          go_upto_region 29 with (go_at_call 45; refine (HNb.out _).mono ?_; rintro e wab ⟨rfl, hb⟩; have HSab := Lib.hid (HSba.out.on hb); clear hb a0 a1 a2 af; have a0 := HSab.out.t.at_ 0 _ rfl; have a1 := HSab.out.t.at_ 1 _ rfl; have a2 := HSab.out.t.at_ 2 _ rfl; have af := HSab.out.t.2)
          have HSbb := Lib.hid (HSab.out.setR tb)
          clear HSab a0 a1 a2 af
          generalize ((wab.setCell ⟨bt, 0, none⟩ (.string s)).setCell ⟨bt, 1, none⟩ (.int .i64 (tb.p : Int))).setCell ⟨bt, 2, none⟩ (.bool (!tb.b)) = wbb at *
          have a0 := HSbb.out.t.at_ 0 _ rfl
          have a1 := HSbb.out.t.at_ 1 _ rfl
          have a2 := HSbb.out.t.at_ 2 _ rfl
          have af := HSbb.out.t.2
          go_upto_region 30 with (go_at_call 45; refine (HNc.out _).mono ?_; rintro e wac ⟨rfl, hb⟩; have HSac := Lib.hid (HSbb.out.on hb); clear hb a0 a1 a2 af; have a0 := HSac.out.t.at_ 0 _ rfl; have a1 := HSac.out.t.at_ 1 _ rfl; have a2 := HSac.out.t.at_ 2 _ rfl; have af := HSac.out.t.2)
          have HSbc := Lib.hid (HSac.out.setR tc)
          clear HSac a0 a1 a2 af
          generalize ((wac.setCell ⟨bt, 0, none⟩ (.string s)).setCell ⟨bt, 1, none⟩ (.int .i64 (tc.p : Int))).setCell ⟨bt, 2, none⟩ (.bool (!tc.b)) = wbc at *
          have m7 := HSbc.out.m.1.at_ 7 _ rfl
          have hlb := HSbc.out.m.lt
          have HOw := Lib.hid HSbc.out.m.2.1
          go_wp2_with (at_builtin; refine wpList_appendNw rfl _ _ rfl (bm + 1) _ l rfl ?c1 (some ⟨wbc.heap.size, 0, none⟩) 1 [⟨(a : Int), (b : Int), (c : Int)⟩] rfl ?c2 ?c3 ?c4 ?_)
          case c1 => exact HOw.out.alloc _
          case c2 => exact Ns.one wbc ⟨(a : Int), (b : Int), (c : Int)⟩ _
          case c3 => first | omega | (simp only [List.length_cons, List.length_nil]; omega)
          case c4 => first | omega | (simp; omega)
          · intro v2 w4 hO3 hgr
            obtain ⟨Al, nl, cl, rfl⟩ := hO3.shape
            have hge : ∀ j, Value.ownBlock _ = some j → bm + 1 ≤ j := fun j e => (HOw.out.ge j e).1
            have hRw := HSbc.out.grownM hgr (fun j e => hge j e)
            have q7 := hRw.at_ 7 _ rfl
            have qf := hRw.2
            have HF := Lib.hid (HSbc.out.news hmo hgr hO3)
            clear hRw hO3 hgr hge HOw HSbc m7
            go_wp2_with fail
            go_roundw
            case rel => exact ⟨k + 1, _, by go_num, by omega, Lib.hid (by rw [HX2.out.1, HX2.out.2]; exact HF.out)⟩
            case measure => simp [intOf]; omega
        · have e0 : decide ((k : Int) < (n : Int)) = false := by simp; omega
          have e0' : decide (k < n) = false := by simpa using hlt
          obtain rfl : k = n := by omega
          go_wp2_with fail
          go_meet
          exact ⟨_, _, Lib.hid (by rw [HX'.out]; exact HSr.out)⟩
  obtain ⟨nv4, tv4, HS4⟩ := hcut
  obtain ⟨W4, eW⟩ : ∃ W, W = wc := ⟨_, rfl⟩
  subst eW
  clear HS3 HX3 HB3
  -- part 4
  go_upto_region 31 with (fail)
  go_cut [155] from 150 to 155 (fun sx wx => sx = .bool B4 ∧ W4 = wx)
  case first =>
    have e := HB4.out
    rcases HK.out with rfl | rfl | rfl | rfl | rfl | rfl | rfl | rfl | rfl | rfl | rfl | rfl | rfl <;> (subst e; go_wp2_with fail; go_meet; exact ⟨rfl, rfl⟩)
  obtain ⟨rfl, rfl⟩ := hcut
  go_upto_if 155 with (fail)
  go_cut [8, 9, 10, 15, 16, 17] from 156 to 185 (fun s8 s9 s10 s15 s16 s17 wx => ∃ nv' tv', Hid (Sto w wx r bt bm s x5 nv' tv'))
  case first => as_aux_lemma =>
    clear HB4
    obtain ⟨⟨HY, HNo⟩, hp⟩ := HX4.out
    rcases B4 with _ | _
    · have e := HNo rfl
      clear HY HNo hp
      have HS' := Lib.hid (show Sto w W4 r bt bm s x5 nv4 tv4 by rw [e]; exact HS4.out)
      clear e
      go_wp2_with fail
      go_meet
      exact ⟨_, _, HS'⟩
    · have hx := HY rfl
      clear HY HNo
      obtain ⟨m, t⟩ := x4
      simp only [] at hx hp
      obtain ⟨⟨n, t2⟩, hR⟩ : ∃ R, tnum s 64 t = R := ⟨_, rfl⟩
      have hp2 := tnum_le s 64 t hp
      rw [hR] at hp2
      have HN := Lib.hid (num_at 64 rfl hR HSz.out hp)
      have hm := tnum_most s 64 t
      rw [hR] at hm
      simp only [] at hm hp2
      have hx' : x5 = ({ m with tb := (tls (tkn s) n t2).1 }, (tls (tkn s) n t2).2) := by rw [hx]; show (({ m with tb := (ttbs s t).1 } : Mg), (ttbs s t).2) = _; unfold ttbs; rw [hR]
      have HX' := Lib.hid hx'
      have hml : m.tb = [] := HE4.out
      have hmo : m.ns = [] := HU4.out rfl
      clear hx' hx hR hp
      have HLe : Hid (∀ k, (tls (tkn s) k t2).2.p ≤ s.size) := Lib.hid (fun k => tls_le s _ (tkn_le s) k _ hp2)
      have HLn : Hid (∀ k, (tls (tkn s) k t2).1.length = k) := Lib.hid (fun k => tls_len _ k _)
      have HSt : Hid (∀ k, (tls (tkn s) (k + 1) t2).1 = (tls (tkn s) k t2).1 ++ [(tkn s (tls (tkn s) k t2).2).1] ∧ (tls (tkn s) (k + 1) t2).2 = (tkn s (tls (tkn s) k t2).2).2) := Lib.hid (fun k => ⟨rfl, rfl⟩)
      have HZ0 : Hid (tls (tkn s) 0 t2 = ([], t2)) := Lib.hid rfl
      clear hp2
      obtain ⟨g, hg⟩ : ∃ g, g = fun k => tls (tkn s) k t2 := ⟨_, rfl⟩
      have hg' : ∀ k, tls (tkn s) k t2 = g k := fun k => by rw [hg]
      simp only [hg'] at *
      clear hg hg'
      have a0 := HS4.out.t.at_ 0 _ rfl
      have a1 := HS4.out.t.at_ 1 _ rfl
      have a2 := HS4.out.t.at_ 2 _ rfl
      have af := HS4.out.t.2
      have ob := HS4.out.o
      have d1 : ¬ bm = bt := by omega
      have d2 : ¬ bt = bm := by omega
      go_upto_region 32 with (fail)
      go_upto_region 33 with (go_at_call 45; refine (HN.out _).mono ?_; rintro e wa ⟨rfl, hb⟩; have HSa := Lib.hid (HS4.out.on hb); clear hb a0 a1 a2 af)
      have hn := Row.new wa #[.string s, .int .i64 (t2.p : Int), .bool (!t2.b)] 78
      have HSn := Lib.hid (HSa.out.on ((Below.refl _ _).alloc (Nat.le_refl _) (.cells #[.string s, .int .i64 (t2.p : Int), .bool (!t2.b)] 78)))
      generalize wa.alloc (.cells #[.string s, .int .i64 (t2.p : Int), .bool (!t2.b)] 78) = wn at *
      have n0 := hn.at_ 0 _ rfl
      have n1 := hn.at_ 1 _ rfl
      have n2 := hn.at_ 2 _ rfl
      have a0 := HSn.out.t.at_ 0 _ rfl
      have a1 := HSn.out.t.at_ 1 _ rfl
      have a2 := HSn.out.t.at_ 2 _ rfl
      have af := HSn.out.t.2
      clear hn
      go_upto_region 34 with (fail)
      have HSb := Lib.hid (HSn.out.setR t2)
      clear HSn HSa n0 n1 n2 a0 a1 a2 af
      generalize ((wn.setCell ⟨bt, 0, none⟩ (.string s)).setCell ⟨bt, 1, none⟩ (.int .i64 (t2.p : Int))).setCell ⟨bt, 2, none⟩ (.bool (!t2.b)) = wb at *
      go_wp2_with fail
      go_loopw [9, 10, 17] (fun s9 s10 j wr => ∃ (k : Nat) (v' : Value), j = .int .u64 k ∧ k ≤ n ∧ Hid (Sto w wr r bt bm s ({ m with tb := (g k).1 }, (g k).2) nv4 v')) (fun _ _ j _ => n - (intOf j).toNat)
      case atStart => exact ⟨0, _, rfl, Nat.zero_le _, Lib.hid (by rw [HZ0.out]; simp only []; rw [tb_nil hml]; exact HSb.out)⟩
      case round =>
        obtain ⟨k, v', rfl, hk, HSr⟩ := hrel
        obtain ⟨wq, ewq⟩ : ∃ wq, wq = wr := ⟨_, rfl⟩
        subst ewq
        by_cases hlt : k < n
        · have e0 : decide ((k : Int) < (n : Int)) = true := by simp; omega
          have e0' : decide (k < n) = true := by simpa using hlt
          have hX := HSt.out k
          have hln := HLn.out k
          have hle := HLe.out k
          obtain ⟨⟨l, tk⟩, hgk⟩ : ∃ R, g k = R := ⟨_, rfl⟩
          rw [hgk] at hX hln hle HSr
          simp only [] at hln hle
          clear hgk
          obtain ⟨⟨b, tb⟩, hRb⟩ : ∃ R, tnum s 18446744073709551615 tk = R := ⟨_, rfl⟩
          have hleb := tnum_le s 18446744073709551615 tk hle
          rw [hRb] at hleb
          simp only [] at hleb
          have HNb := Lib.hid (num_at 18446744073709551615 rfl hRb HSz.out hle)
          have hmb := tnum_most s 18446744073709551615 tk
          rw [hRb] at hmb
          simp only [] at hmb
          obtain ⟨⟨c, tc⟩, hRc⟩ : ∃ R, tnum s 3 tb = R := ⟨_, rfl⟩
          have hlec := tnum_le s 3 tb hleb
          rw [hRc] at hlec
          simp only [] at hlec
          have HNc := Lib.hid (num_at 3 rfl hRc HSz.out hleb)
          have hmc := tnum_most s 3 tb
          rw [hRc] at hmc
          simp only [] at hmc
          have hy : tkn s tk = (⟨(b : Int), (c : Int)⟩, tc) := by unfold tkn; rw [hRb]; simp only []; rw [hRc]
          rw [hy] at hX
          have HX2 := Lib.hid hX
          have wkc : IntKind.i64.wrap (c : Int) = (c : Int) := IntWalk.i64_in _ ⟨by omega, by omega⟩
          clear hX hy hRb hRc hleb hlec hmb hmc hle
          have a0 := HSr.out.t.at_ 0 _ rfl
          have a1 := HSr.out.t.at_ 1 _ rfl
          have a2 := HSr.out.t.at_ 2 _ rfl
          have af := HSr.out.t.2
          go_upto_region 38 with (go_at_call 45; refine (HNb.out _).mono ?_; rintro e wab ⟨rfl, hb⟩; have HSab := Lib.hid (HSr.out.on hb); clear hb a0 a1 a2 af; have a0 := HSab.out.t.at_ 0 _ rfl; have a1 := HSab.out.t.at_ 1 _ rfl; have a2 := HSab.out.t.at_ 2 _ rfl; have af := HSab.out.t.2)
          have HSbb := Lib.hid (HSab.out.setR tb)
          clear HSab a0 a1 a2 af
          generalize ((wab.setCell ⟨bt, 0, none⟩ (.string s)).setCell ⟨bt, 1, none⟩ (.int .i64 (tb.p : Int))).setCell ⟨bt, 2, none⟩ (.bool (!tb.b)) = wbb at *
          have a0 := HSbb.out.t.at_ 0 _ rfl
          have a1 := HSbb.out.t.at_ 1 _ rfl
          have a2 := HSbb.out.t.at_ 2 _ rfl
          have af := HSbb.out.t.2
          go_upto_region 39 with (go_at_call 45; refine (HNc.out _).mono ?_; rintro e wac ⟨rfl, hb⟩; have HSac := Lib.hid (HSbb.out.on hb); clear hb a0 a1 a2 af; have a0 := HSac.out.t.at_ 0 _ rfl; have a1 := HSac.out.t.at_ 1 _ rfl; have a2 := HSac.out.t.at_ 2 _ rfl; have af := HSac.out.t.2)
          have HSbc := Lib.hid (HSac.out.setR tc)
          clear HSac a0 a1 a2 af
          generalize ((wac.setCell ⟨bt, 0, none⟩ (.string s)).setCell ⟨bt, 1, none⟩ (.int .i64 (tc.p : Int))).setCell ⟨bt, 2, none⟩ (.bool (!tc.b)) = wbc at *
          have m8 := HSbc.out.m.1.at_ 8 _ rfl
          have hlb := HSbc.out.m.lt
          have HOw := Lib.hid HSbc.out.m.2.2
          go_wp2_with (at_builtin; refine wpList_append_lst rfl _ _ rfl (bm + 1) _ l rfl ?c1 (some ⟨wbc.heap.size, 0, none⟩) 1 [⟨(b : Int), (c : Int)⟩] rfl ?c2 ?c3 ?c4 ?_)
          case c1 => exact HOw.out.alloc _
          case c2 => exact Lst.one wbc ⟨(b : Int), (c : Int)⟩ _
          case c3 => first | omega | (simp only [List.length_cons, List.length_nil]; omega)
          case c4 => first | omega | (simp; omega)
          · intro v2 w4 hO3 hgr
            obtain ⟨Al, nl, cl, rfl⟩ := hO3.shape
            have hge : ∀ j, Value.ownBlock _ = some j → bm + 1 ≤ j := fun j e => (HOw.out.ge j e).1
            have hRw := HSbc.out.grownM hgr (fun j e => hge j e)
            have q7 := hRw.at_ 8 _ rfl
            have qf := hRw.2
            have HF := Lib.hid (HSbc.out.tab hmo hgr hO3)
            clear hRw hO3 hgr hge HOw HSbc m8
            go_wp2_with fail
            go_roundw
            case rel => exact ⟨k + 1, _, by go_num, by omega, Lib.hid (by rw [HX2.out.1, HX2.out.2]; exact HF.out)⟩
            case measure => simp [intOf]; omega
        · have e0 : decide ((k : Int) < (n : Int)) = false := by simp; omega
          have e0' : decide (k < n) = false := by simpa using hlt
          obtain rfl : k = n := by omega
          go_wp2_with fail
          go_meet
          exact ⟨_, _, Lib.hid (by rw [HX'.out]; exact HSr.out)⟩
  obtain ⟨nv5, tv5, HS5⟩ := hcut
  obtain ⟨W5, eW⟩ : ∃ W, W = wc := ⟨_, rfl⟩
  subst eW
  clear HS4 HX4 HB4
  -- part 5
  go_upto_region 40 with (fail)
  go_cut [195] from 186 to 195 (fun sx wx => sx = .bool B5 ∧ W5 = wx)
  case first =>
    have e := HB5.out
    rcases HK.out with rfl | rfl | rfl | rfl | rfl | rfl | rfl | rfl | rfl | rfl | rfl | rfl | rfl <;> (subst e; go_wp2_with fail; go_meet; exact ⟨rfl, rfl⟩)
  obtain ⟨rfl, rfl⟩ := hcut
  go_upto_if 195 with (fail)
  go_cut [8, 9, 10] from 196 to 201 (fun s8 s9 s10 wx => ∃ nv' tv', Hid (Sto w wx r bt bm s x6 nv' tv'))
  case first => as_aux_lemma =>
    clear HB5
    obtain ⟨⟨HY, HNo⟩, hp⟩ := HX5.out
    rcases B5 with _ | _
    · have e := HNo rfl
      clear HY HNo hp
      have HS' := Lib.hid (show Sto w W5 r bt bm s x6 nv5 tv5 by rw [e]; exact HS5.out)
      clear e
      go_wp2_with fail
      go_meet
      exact ⟨_, _, HS'⟩
    · have hx := HY rfl
      clear HY HNo
      obtain ⟨m, t⟩ := x5
      simp only [] at hx hp
      obtain ⟨⟨n, t2⟩, hR⟩ : ∃ R, tnum s 18446744073709551615 t = R := ⟨_, rfl⟩
      have HN := Lib.hid (num_at 18446744073709551615 rfl hR HSz.out hp)
      have hm := tnum_most s 18446744073709551615 t
      rw [hR] at hm
      simp only [] at hm
      have hx' : x6 = ({ m with ep := n }, t2) := by rw [hx]; show (({ m with ep := (tnum s 18446744073709551615 t).1 } : Mg), _) = _; rw [hR]
      have HX' := Lib.hid hx'
      clear hx' hx hR hp
      clear hm
      have a0 := HS5.out.t.at_ 0 _ rfl
      have a1 := HS5.out.t.at_ 1 _ rfl
      have a2 := HS5.out.t.at_ 2 _ rfl
      have af := HS5.out.t.2
      have m9 := HS5.out.m.1.at_ 9 _ rfl
      have mf := HS5.out.m.1.2
      have ob := HS5.out.o
      have d1 : ¬ bm = bt := by omega
      have d2 : ¬ bt = bm := by omega
      go_wp2_with (go_at_call 45; refine (HN.out _).mono ?_; rintro e wa ⟨rfl, hb⟩; have HSa := Lib.hid (HS5.out.on hb); clear hb a0 a1 a2 af m9 mf; have a0 := HSa.out.t.at_ 0 _ rfl; have a1 := HSa.out.t.at_ 1 _ rfl; have a2 := HSa.out.t.at_ 2 _ rfl; have af := HSa.out.t.2; have m9 := HSa.out.m.1.at_ 9 _ rfl; have mf := HSa.out.m.1.2)
      go_meet
      exact ⟨_, _, Lib.hid (by rw [HX'.out]; exact (HSa.out.setM (m' := { m with ep := n }) 9 (.int .u64 (n : Int)) (by decide) rfl rfl rfl).setR t2)⟩
  obtain ⟨nv6, tv6, HS6⟩ := hcut
  obtain ⟨W6, eW⟩ : ∃ W, W = wc := ⟨_, rfl⟩
  subst eW
  clear HS5 HX5 HB5
  -- part 6
  go_upto_region 42 with (fail)
  go_cut [207] from 202 to 207 (fun sx wx => sx = .bool B6 ∧ W6 = wx)
  case first =>
    have e := HB6.out
    rcases HK.out with rfl | rfl | rfl | rfl | rfl | rfl | rfl | rfl | rfl | rfl | rfl | rfl | rfl <;> (subst e; go_wp2_with fail; go_meet; exact ⟨rfl, rfl⟩)
  obtain ⟨rfl, rfl⟩ := hcut
  go_upto_if 207 with (fail)
  go_cut [8, 9, 10] from 208 to 213 (fun s8 s9 s10 wx => ∃ nv' tv', Hid (Sto w wx r bt bm s x7 nv' tv'))
  case first => as_aux_lemma =>
    clear HB6
    obtain ⟨⟨HY, HNo⟩, hp⟩ := HX6.out
    rcases B6 with _ | _
    · have e := HNo rfl
      clear HY HNo hp
      have HS' := Lib.hid (show Sto w W6 r bt bm s x7 nv6 tv6 by rw [e]; exact HS6.out)
      clear e
      go_wp2_with fail
      go_meet
      exact ⟨_, _, HS'⟩
    · have hx := HY rfl
      clear HY HNo
      obtain ⟨m, t⟩ := x6
      simp only [] at hx hp
      obtain ⟨⟨n, t2⟩, hR⟩ : ∃ R, tnum s 18446744073709551615 t = R := ⟨_, rfl⟩
      have HN := Lib.hid (num_at 18446744073709551615 rfl hR HSz.out hp)
      have hm := tnum_most s 18446744073709551615 t
      rw [hR] at hm
      simp only [] at hm
      have hx' : x7 = ({ m with bo := n }, t2) := by rw [hx]; show (({ m with bo := (tnum s 18446744073709551615 t).1 } : Mg), _) = _; rw [hR]
      have HX' := Lib.hid hx'
      clear hx' hx hR hp
      clear hm
      have a0 := HS6.out.t.at_ 0 _ rfl
      have a1 := HS6.out.t.at_ 1 _ rfl
      have a2 := HS6.out.t.at_ 2 _ rfl
      have af := HS6.out.t.2
      have m10 := HS6.out.m.1.at_ 10 _ rfl
      have mf := HS6.out.m.1.2
      have ob := HS6.out.o
      have d1 : ¬ bm = bt := by omega
      have d2 : ¬ bt = bm := by omega
      go_wp2_with (go_at_call 45; refine (HN.out _).mono ?_; rintro e wa ⟨rfl, hb⟩; have HSa := Lib.hid (HS6.out.on hb); clear hb a0 a1 a2 af m10 mf; have a0 := HSa.out.t.at_ 0 _ rfl; have a1 := HSa.out.t.at_ 1 _ rfl; have a2 := HSa.out.t.at_ 2 _ rfl; have af := HSa.out.t.2; have m10 := HSa.out.m.1.at_ 10 _ rfl; have mf := HSa.out.m.1.2)
      go_meet
      exact ⟨_, _, Lib.hid (by rw [HX'.out]; exact (HSa.out.setM (m' := { m with bo := n }) 10 (.int .u64 (n : Int)) (by decide) rfl rfl rfl).setR t2)⟩
  obtain ⟨nv7, tv7, HS7⟩ := hcut
  obtain ⟨W7, eW⟩ : ∃ W, W = wc := ⟨_, rfl⟩
  subst eW
  clear HS6 HX6 HB6
  -- part 7
  go_upto_region 44 with (fail)
  go_cut [227] from 214 to 227 (fun sx wx => sx = .bool B7 ∧ W7 = wx)
  case first =>
    have e := HB7.out
    rcases HK.out with rfl | rfl | rfl | rfl | rfl | rfl | rfl | rfl | rfl | rfl | rfl | rfl | rfl <;> (subst e; go_wp2_with fail; go_meet; exact ⟨rfl, rfl⟩)
  obtain ⟨rfl, rfl⟩ := hcut
  go_upto_if 227 with (fail)
  go_cut [8, 9, 10] from 228 to 235 (fun s8 s9 s10 wx => ∃ nv' tv', Hid (Sto w wx r bt bm s x8 nv' tv'))
  case first => as_aux_lemma =>
    clear HB7
    obtain ⟨⟨HY, HNo⟩, hp⟩ := HX7.out
    rcases B7 with _ | _
    · have e := HNo rfl
      clear HY HNo hp
      have HS' := Lib.hid (show Sto w W7 r bt bm s x8 nv7 tv7 by rw [e]; exact HS7.out)
      clear e
      go_wp2_with fail
      go_meet
      exact ⟨_, _, HS'⟩
    · have hx := HY rfl
      clear HY HNo
      obtain ⟨m, t⟩ := x7
      simp only [] at hx hp
      obtain ⟨⟨n, t2⟩, hR⟩ : ∃ R, tnum s 1099511627776 t = R := ⟨_, rfl⟩
      have HN := Lib.hid (num_at 1099511627776 rfl hR HSz.out hp)
      have hm := tnum_most s 1099511627776 t
      rw [hR] at hm
      simp only [] at hm
      have hx' : x8 = ({ m with ak := (n : Int) }, t2) := by rw [hx]; show (({ m with ak := ((tnum s 1099511627776 t).1 : Int) } : Mg), _) = _; rw [hR]
      have HX' := Lib.hid hx'
      clear hx' hx hR hp
      have wk : IntKind.i64.wrap (n : Int) = (n : Int) := IntWalk.i64_in _ ⟨by omega, by omega⟩
      clear hm
      have a0 := HS7.out.t.at_ 0 _ rfl
      have a1 := HS7.out.t.at_ 1 _ rfl
      have a2 := HS7.out.t.at_ 2 _ rfl
      have af := HS7.out.t.2
      have m11 := HS7.out.m.1.at_ 11 _ rfl
      have mf := HS7.out.m.1.2
      have ob := HS7.out.o
      have d1 : ¬ bm = bt := by omega
      have d2 : ¬ bt = bm := by omega
      go_wp2_with (go_at_call 45; refine (HN.out _).mono ?_; rintro e wa ⟨rfl, hb⟩; have HSa := Lib.hid (HS7.out.on hb); clear hb a0 a1 a2 af m11 mf; have a0 := HSa.out.t.at_ 0 _ rfl; have a1 := HSa.out.t.at_ 1 _ rfl; have a2 := HSa.out.t.at_ 2 _ rfl; have af := HSa.out.t.2; have m11 := HSa.out.m.1.at_ 11 _ rfl; have mf := HSa.out.m.1.2)
      go_meet
      exact ⟨_, _, Lib.hid (by rw [HX'.out]; exact (HSa.out.setR t2).setM (m' := { m with ak := (n : Int) }) 11 (.int .i64 (n : Int)) (by decide) rfl rfl rfl)⟩
  obtain ⟨nv8, tv8, HS8⟩ := hcut
  obtain ⟨W8, eW⟩ : ∃ W, W = wc := ⟨_, rfl⟩
  subst eW
  clear HS7 HX7 HB7
  -- part 8
  go_upto_region 47 with (fail)
  go_cut [237] from 236 to 237 (fun sx wx => sx = .bool B8 ∧ W8 = wx)
  case first =>
    have e := HB8.out
    rcases HK.out with rfl | rfl | rfl | rfl | rfl | rfl | rfl | rfl | rfl | rfl | rfl | rfl | rfl <;> (subst e; go_wp2_with fail; go_meet; exact ⟨rfl, rfl⟩)
  obtain ⟨rfl, rfl⟩ := hcut
  go_upto_if 237 with (fail)
  go_cut [8, 9, 10, 18, 19, 20] from 238 to 259 (fun s8 s9 s10 s18 s19 s20 wx => ∃ nv' tv', Hid (Sto w wx r bt bm s x10 nv' tv'))
  case first => as_aux_lemma =>
    clear HB8
    obtain ⟨⟨HY, HNo⟩, hp⟩ := HX8.out
    rcases B8 with _ | _
    · have e := HNo rfl
      clear HY HNo hp
      have HS' := Lib.hid (show Sto w W8 r bt bm s x10 nv8 tv8 by rw [e]; exact HS8.out)
      clear e
      go_wp2_with fail
      go_meet
      exact ⟨_, _, HS'⟩
    · have hx := HY rfl
      clear HY HNo
      obtain ⟨m, t⟩ := x8
      obtain ⟨hx, hx2⟩ := hx
      obtain ⟨hp, hp9⟩ := hp
      simp only [] at hx hp
      have HT := Lib.hid (fun W => rtaketext_in s t.p W HSz.out hp)
      unfold textV at HT
      obtain ⟨⟨q, tp, te⟩, hR⟩ : ∃ R, textL s t.p (takeL (s.data.toList.drop t.p) 0 0) = R := ⟨_, rfl⟩
      rw [hR] at HT
      simp only [] at HT
      have a0 := HS8.out.t.at_ 0 _ rfl
      have a1 := HS8.out.t.at_ 1 _ rfl
      have a2 := HS8.out.t.at_ 2 _ rfl
      have af := HS8.out.t.2
      have ob := HS8.out.o
      have d1 : ¬ bm = bt := by omega
      have d2 : ¬ bt = bm := by omega
      by_cases he : te = 0
      · subst he
        have ht : ttx s t = (q, ⟨tp, t.b⟩) := by unfold ttx; rw [hR]; rfl
        have hx' : x9 = ({ m with ts := q }, ⟨tp, t.b⟩) := by rw [hx]; show (({ m with ts := (ttx s t).1 } : Mg), (ttx s t).2) = _; rw [ht]
        rw [hx'] at hx2 hp9
        simp only [] at hp9
        obtain ⟨⟨n, t2⟩, hR2⟩ : ∃ R, tnum s 18446744073709551615 ⟨tp, t.b⟩ = R := ⟨_, rfl⟩
        have HN := Lib.hid (num_at 18446744073709551615 rfl hR2 HSz.out hp9)
        have hx'' : x10 = ({ m with ts := q, tn := n }, t2) := by rw [hx2]; show (({ m with ts := q, tn := (tnum s 18446744073709551615 ⟨tp, t.b⟩).1 } : Mg), (tnum s 18446744073709551615 ⟨tp, t.b⟩).2) = _; rw [hR2]
        have HX' := Lib.hid hx''
        clear hx'' hx' hx2 hx ht hR hR2 hp hp9 HBad
        have m12 := HS8.out.m.1.at_ 12 _ rfl
        have m13 := HS8.out.m.1.at_ 13 _ rfl
        have mf := HS8.out.m.1.2
        go_upto_region 49 with (go_at_call 46; refine (HT.out _).mono ?_; rintro e wt ⟨rfl, rfl⟩)
        go_upto_region 53 with (fail)
        have HSa := Lib.hid ((HS8.out.setM (m' := { m with ts := q }) 12 (.string q) (by decide) rfl rfl rfl).setP tp)
        clear a0 a1 a2 af m12 m13 mf HT
        generalize (W8.setCell ⟨bm, 12, none⟩ (.string q)).setCell ⟨bt, 1, none⟩ (.int .i64 (tp : Int)) = wb at *
        have a0 := HSa.out.t.at_ 0 _ rfl
        have a1 := HSa.out.t.at_ 1 _ rfl
        have a2 := HSa.out.t.at_ 2 _ rfl
        have af := HSa.out.t.2
        have m13 := HSa.out.m.1.at_ 13 _ rfl
        have mf := HSa.out.m.1.2
        go_wp2_with (go_at_call 45; refine (HN.out _).mono ?_; rintro e wb2 ⟨rfl, hb⟩; have HSb := Lib.hid (HSa.out.on hb); clear hb a0 a1 a2 af m13 mf; have a0 := HSb.out.t.at_ 0 _ rfl; have a1 := HSb.out.t.at_ 1 _ rfl; have a2 := HSb.out.t.at_ 2 _ rfl; have af := HSb.out.t.2; have m13 := HSb.out.m.1.at_ 13 _ rfl; have mf := HSb.out.m.1.2)
        go_meet
        exact ⟨_, _, Lib.hid (by rw [HX'.out]; exact (HSb.out.setM (m' := { m with ts := q, tn := n }) 13 (.int .u64 (n : Int)) (by decide) rfl rfl rfl).setR t2)⟩
      · have ht : (ttx s t).2.b = true := by unfold ttx; rw [hR, if_pos he]
        have hF := HNo.out (.inl (HBad.out rfl ht))
        subst hF
        have f1 : ¬ (te : Int) = 0 := by omega
        have f2 : ((te : Int) != 0) = true := by rw [bne_iff_ne]; exact f1
        clear hx hx2 hp hp9 hR ht HNo HYes HBad
        have HRz := Lib.hid HS8.out.rr
        have HBz := Lib.hid HS8.out.k
        go_wp2_with (first
          | (go_at_call 46; refine (HT.out _).mono ?_; rintro e wt ⟨rfl, rfl⟩)
          | (refine wpList_store_var rfl _ _ rfl r _ (.agg zcs.toArray) rfl rfl HRz.out zm_v ?_; intro wf hVf hJf; have HVf := Lib.hid hVf; have HJf := Lib.hid hJf; clear hVf hJf))
        obtain ⟨r0, r1, r2, r3, r4, r5, r6, r7, r8, r9, r10, r11, r12, r13, r14⟩ := var_cells HVf.out
        refine bodyPost_ret (v := .tuple #[.agg #[.int .i64 0, .int .i64 0, .int .i64 0, .int .u64 0, .int .i64 0, .int .u64 0, .int .i64 0, .slice none 0 0, .slice none 0 0, .int .u64 0, .int .u64 0, .int .i64 0, .string ⟨#[]⟩, .int .u64 0, .bool false], .int .i64 2]) (by simp [results, Tryd.results20, go_sem, r0, r1, r2, r3, r4, r5, r6, r7, r8, r9, r10, r11, r12, r13, r14]) rfl ⟨_, rfl, msgv_zero _, ?_⟩
        exact HJf.out.below HBz.out ob.1

  obtain ⟨nv10, tv10, HS10⟩ := hcut
  obtain ⟨W10, eW⟩ : ∃ W, W = wc := ⟨_, rfl⟩
  subst eW
  clear HS8 HX8 HB8
  -- part 10
  go_upto_region 54 with (fail)
  go_cut [261] from 260 to 261 (fun sx wx => sx = .bool B10 ∧ W10 = wx)
  case first =>
    have e := HB10.out
    rcases HK.out with rfl | rfl | rfl | rfl | rfl | rfl | rfl | rfl | rfl | rfl | rfl | rfl | rfl <;> (subst e; go_wp2_with fail; go_meet; exact ⟨rfl, rfl⟩)
  obtain ⟨rfl, rfl⟩ := hcut
  go_upto_if 261 with (fail)
  go_cut [8, 9, 10] from 262 to 269 (fun s8 s9 s10 wx => ∃ nv' tv', Hid (Sto w wx r bt bm s x11 nv' tv'))
  case first => as_aux_lemma =>
    clear HB10
    obtain ⟨⟨HY, HNo⟩, hp⟩ := HX10.out
    rcases B10 with _ | _
    · have e := HNo rfl
      clear HY HNo hp
      have HS' := Lib.hid (show Sto w W10 r bt bm s x11 nv10 tv10 by rw [e]; exact HS10.out)
      clear e
      go_wp2_with fail
      go_meet
      exact ⟨_, _, HS'⟩
    · have hx := HY rfl
      clear HY HNo
      obtain ⟨m, t⟩ := x10
      simp only [] at hx hp
      obtain ⟨⟨n, t2⟩, hR⟩ : ∃ R, tnum s 1 t = R := ⟨_, rfl⟩
      have HN := Lib.hid (num_at 1 rfl hR HSz.out hp)
      have hm := tnum_most s 1 t
      rw [hR] at hm
      simp only [] at hm
      have hx' : x11 = ({ m with gd := decide (n = 1) }, t2) := by rw [hx]; show (({ m with gd := decide ((tnum s 1 t).1 = 1) } : Mg), _) = _; rw [hR]
      have HX' := Lib.hid hx'
      clear hx' hx hR hp
      have wk : ((n : Int) == 1) = decide (n = 1) := by
        rcases (by omega : n = 0 ∨ n = 1) with rfl | rfl <;> rfl
      clear hm
      have a0 := HS10.out.t.at_ 0 _ rfl
      have a1 := HS10.out.t.at_ 1 _ rfl
      have a2 := HS10.out.t.at_ 2 _ rfl
      have af := HS10.out.t.2
      have m14 := HS10.out.m.1.at_ 14 _ rfl
      have mf := HS10.out.m.1.2
      have ob := HS10.out.o
      have d1 : ¬ bm = bt := by omega
      have d2 : ¬ bt = bm := by omega
      go_wp2_with (go_at_call 45; refine (HN.out _).mono ?_; rintro e wa ⟨rfl, hb⟩; have HSa := Lib.hid (HS10.out.on hb); clear hb a0 a1 a2 af m14 mf; have a0 := HSa.out.t.at_ 0 _ rfl; have a1 := HSa.out.t.at_ 1 _ rfl; have a2 := HSa.out.t.at_ 2 _ rfl; have af := HSa.out.t.2; have m14 := HSa.out.m.1.at_ 14 _ rfl; have mf := HSa.out.m.1.2)
      go_meet
      exact ⟨_, _, Lib.hid (by rw [HX'.out]; exact (HSa.out.setR t2).setM (m' := { m with gd := decide (n = 1) }) 14 (.bool (decide (n = 1))) (by decide) rfl rfl rfl)⟩
  obtain ⟨nv11, tv11, HS11⟩ := hcut
  obtain ⟨W11, eW⟩ : ∃ W, W = wc := ⟨_, rfl⟩
  subst eW
  clear HS10 HX10 HB10
  -- the end
  go_upto_region 57 with (fail)
  have hDc := HDc.out
  subst hDc
  obtain ⟨m, p, b⟩ := x11
  have hr0 := HS11.out.o.1
  rcases b with _ | _
  rotate_left
  · as_aux_lemma =>
    have hF := HNo.out (.inl rfl)
    subst hF
    have a2 : W11.cell? ⟨bt, 2, none⟩ = some (.bool false) := HS11.out.t.at_ 2 _ rfl
    clear HNo HYes HBad
    have HRz := Lib.hid HS11.out.rr
    have HBz := Lib.hid HS11.out.k
    go_wp2_with (refine wpList_store_var rfl _ _ rfl r _ (.agg zcs.toArray) rfl rfl HRz.out zm_v ?_; intro wf hVf hJf; have HVf := Lib.hid hVf; have HJf := Lib.hid hJf; clear hVf hJf)
    obtain ⟨r0, r1, r2, r3, r4, r5, r6, r7, r8, r9, r10, r11, r12, r13, r14⟩ := var_cells HVf.out
    refine bodyPost_ret (v := .tuple #[.agg #[.int .i64 0, .int .i64 0, .int .i64 0, .int .u64 0, .int .i64 0, .int .u64 0, .int .i64 0, .slice none 0 0, .slice none 0 0, .int .u64 0, .int .u64 0, .int .i64 0, .string ⟨#[]⟩, .int .u64 0, .bool false], .int .i64 2]) (by simp [results, Tryd.results20, go_sem, r0, r1, r2, r3, r4, r5, r6, r7, r8, r9, r10, r11, r12, r13, r14]) rfl ⟨_, rfl, msgv_zero _, ?_⟩
    exact HJf.out.below HBz.out hr0
  · have a2 : W11.cell? ⟨bt, 2, none⟩ = some (.bool true) := HS11.out.t.at_ 2 _ rfl
    have HY : Hid (mayM m = true → sealB (tx (enc m)) = S → F = (m, 0)) := Lib.hid (fun h1 h2 => HYes.out rfl h1 h2)
    have HN1 : Hid (mayM m = false → F = (zm, 2)) := Lib.hid (fun h => HNo.out (.inr (.inl h)))
    have HN2 : Hid (¬ sealB (tx (enc m)) = S → F = (zm, 2)) := Lib.hid (fun h => HNo.out (.inr (.inr h)))
    clear HYes HNo HBad
    have hMV := msgv_own HS11.out.m.2.1 HS11.out.m.2.2 HSm.out
    have HMy := Lib.hid (HMay.out m _ W11 hMV)
    have HWr' := Lib.hid (fun (W : World) (hb : Below W11.heap.size W11 W) (hm : mayM m = true) => HWr.out m _ W (hMV.on hb) HWf.out hm)
    clear hMV HMay HWr HWf
    simp only [] at HMy HWr'
    obtain ⟨A, cA, rfl, _, hA0⟩ := HS11.out.m.2.1.lst
    obtain ⟨T, cT, rfl, _, hT0⟩ := HS11.out.m.2.2.lst
    clear hA0 hT0
    generalize mayM m = L at *
    generalize sealB (tx (enc m)) = q at *
    unfold mvv at HMy HWr'
    simp only [] at HMy HWr'
    have HRm := Lib.hid HS11.out.m.1
    rcases L with _ | _
    · as_aux_lemma =>
      have hF := HN1.out rfl
      subst hF
      clear HN1 HN2 HY HWr'
      go_wp2_with (first
        | (refine wpList_load_g (by rfl) _ rfl bm rfl (mcs m (.slice A m.ns.length cA) (.slice T m.tb.length cT)) rfl HRm.out ?_; unfold mcs; simp only [])
        | (go_at_call 12; refine HMy.out.mono ?_; rintro e wm ⟨rfl, hbm⟩; have HSm2 := Lib.hid (HS11.out.on hbm); clear hbm a2; have HRz := Lib.hid HSm2.out.rr; have HBz := Lib.hid HSm2.out.k)
        | (refine wpList_store_var rfl _ _ rfl r _ (.agg zcs.toArray) rfl rfl HRz.out zm_v ?_; intro wf hVf hJf; have HVf := Lib.hid hVf; have HJf := Lib.hid hJf; clear hVf hJf))
      obtain ⟨r0, r1, r2, r3, r4, r5, r6, r7, r8, r9, r10, r11, r12, r13, r14⟩ := var_cells HVf.out
      refine bodyPost_ret (v := .tuple #[.agg #[.int .i64 0, .int .i64 0, .int .i64 0, .int .u64 0, .int .i64 0, .int .u64 0, .int .i64 0, .slice none 0 0, .slice none 0 0, .int .u64 0, .int .u64 0, .int .i64 0, .string ⟨#[]⟩, .int .u64 0, .bool false], .int .i64 2]) (by simp [results, Tryd.results20, go_sem, r0, r1, r2, r3, r4, r5, r6, r7, r8, r9, r10, r11, r12, r13, r14]) rfl ⟨_, rfl, msgv_zero _, ?_⟩
      exact HJf.out.below HBz.out hr0
    · have HWr2 := Lib.hid (fun W hb => HWr'.out W hb rfl)
      by_cases hq : q = S
      · as_aux_lemma =>
        have hF := HY.out rfl hq
        subst hF
        subst hq
        clear HN1 HN2 HY HWr'
        go_wp2_with (first
          | (refine wpList_load_g (by rfl) _ rfl bm rfl (mcs m (.slice A m.ns.length cA) (.slice T m.tb.length cT)) rfl HRm.out ?_; unfold mcs; simp only [])
          | (refine wpList_load_g (by rfl) _ rfl bm rfl (mcs m (.slice A m.ns.length cA) (.slice T m.tb.length cT)) rfl HRm2.out ?_; unfold mcs; simp only [])
          | (refine wpList_load_g (by rfl) _ rfl bm rfl (mcs m (.slice A m.ns.length cA) (.slice T m.tb.length cT)) rfl HRm3.out ?_; unfold mcs; simp only [])
          | (go_at_call 12; refine HMy.out.mono ?_; rintro e wm ⟨rfl, hbm⟩; have HWr3 := Lib.hid (HWr2.out _ hbm); have HSm2 := Lib.hid (HS11.out.on hbm); clear hbm a2; have HRm2 := Lib.hid HSm2.out.m.1)
          | (go_at_call 19; refine HWr3.out.mono ?_; rintro e wz ⟨rfl, hbz⟩; have HSz2 := Lib.hid (HSm2.out.on hbz); clear hbz; have HRm3 := Lib.hid HSz2.out.m.1; have HRz := Lib.hid HSz2.out.rr)
          | (refine wpList_store_var rfl _ _ rfl r _ (.agg (mcs m (.slice A m.ns.length cA) (.slice T m.tb.length cT)).toArray) rfl rfl HRz.out (mcs_v m A T _ _ _ _) ?_; intro wf hVf hJf; have HVf := Lib.hid hVf; have HJf := Lib.hid hJf; clear hVf hJf))
        have HBz := Lib.hid HSz2.out.k
        have ho := HSz2.out.o
        obtain ⟨r0, r1, r2, r3, r4, r5, r6, r7, r8, r9, r10, r11, r12, r13, r14⟩ := var_cells HVf.out
        refine bodyPost_ret (v := .tuple #[.agg (mcs m (.slice A m.ns.length cA) (.slice T m.tb.length cT)).toArray, .int .i64 0]) (by simp [mcs, results, Tryd.results20, go_sem, r0, r1, r2, r3, r4, r5, r6, r7, r8, r9, r10, r11, r12, r13, r14]) rfl ⟨_, rfl, ?_, ?_⟩
        · exact msgv_own (B := bm + 1) (nv := .slice A m.ns.length cA) (tv := .slice T m.tb.length cT) (HSz2.out.m.2.1.kp (just_kp HJf.out) (by simp; omega)) (HSz2.out.m.2.2.kp (just_kp HJf.out) (by simp; omega)) HSm.out
        exact HJf.out.below HBz.out hr0
      · as_aux_lemma =>
        have hF := HN2.out hq
        subst hF
        have c1 : (q.toList == S.toList) = false := by rw [beq_eq_false_iff_ne]; exact fun h => hq (text_eq h)
        clear HN1 HN2 HY HWr'
        go_wp2_with (first
          | (refine wpList_load_g (by rfl) _ rfl bm rfl (mcs m (.slice A m.ns.length cA) (.slice T m.tb.length cT)) rfl HRm.out ?_; unfold mcs; simp only [])
          | (refine wpList_load_g (by rfl) _ rfl bm rfl (mcs m (.slice A m.ns.length cA) (.slice T m.tb.length cT)) rfl HRm2.out ?_; unfold mcs; simp only [])
          | (go_at_call 12; refine HMy.out.mono ?_; rintro e wm ⟨rfl, hbm⟩; have HWr3 := Lib.hid (HWr2.out _ hbm); have HSm2 := Lib.hid (HS11.out.on hbm); clear hbm a2; have HRm2 := Lib.hid HSm2.out.m.1)
          | (go_at_call 19; refine HWr3.out.mono ?_; rintro e wz ⟨rfl, hbz⟩; have HSz2 := Lib.hid (HSm2.out.on hbz); clear hbz; have HRm3 := Lib.hid HSz2.out.m.1; have HRz := Lib.hid HSz2.out.rr)
          | (refine wpList_store_var rfl _ _ rfl r _ (.agg zcs.toArray) rfl rfl HRz.out zm_v ?_; intro wf hVf hJf; have HVf := Lib.hid hVf; have HJf := Lib.hid hJf; clear hVf hJf))
        have HBz := Lib.hid HSz2.out.k
        obtain ⟨r0, r1, r2, r3, r4, r5, r6, r7, r8, r9, r10, r11, r12, r13, r14⟩ := var_cells HVf.out
        refine bodyPost_ret (v := .tuple #[.agg #[.int .i64 0, .int .i64 0, .int .i64 0, .int .u64 0, .int .i64 0, .int .u64 0, .int .i64 0, .slice none 0 0, .slice none 0 0, .int .u64 0, .int .u64 0, .int .i64 0, .string ⟨#[]⟩, .int .u64 0, .bool false], .int .i64 2]) (by simp [results, Tryd.results20, go_sem, r0, r1, r2, r3, r4, r5, r6, r7, r8, r9, r10, r11, r12, r13, r14]) rfl ⟨_, rfl, msgv_zero _, ?_⟩
        exact HJf.out.below HBz.out hr0

end Go.Proofs.YtjeepmdklbfgeaaDoor
