/-
  Tear whole, of the program and of the document; Write; the law's Few.
-/
import Derived.Test.YtlpnhpnigljlnaaDoorTq
namespace Go.Proofs.YtlpnhpnigljlnaaDoor
open Go.Sort Go.RowKit Go.Proofs.YtlpnhpnigljlnaaDoor.Pure

theorem tear_any (d : Dk) (s : Sv) (c : Int) (w : World) (ha : d.a.size ≤ 140737488351232) (hb : d.b.size ≤ 140737488351232) (hf : FitS s) (hc : c ≤ 9223372036854775807) (ht : Tab w) : Calls Tryd.prog 20 #[.agg #[.string d.a, .string d.b], .agg #[.int .u64 s.q, .int .u64 s.b, .int .u64 s.i, .int .u64 s.e, .int .i64 s.u], .int .i64 c] w fun e w' => e = .returned (.tuple #[.agg #[.string (teR d s c).a, .string (teR d s c).b], .int .i64 (teE d s c)]) ∧ Below w.heap.size w w' := by
  by_cases h0 : c < 0
  · have e1 : teE d s c = 1 := by unfold teE; rw [if_pos (.inl h0)]
    have e2 : teR d s c = d := by unfold teR; rw [e1]; rfl
    rw [e1, e2]
    exact tear_neg d s c w ha hb h0 ht
  cases hm : mayB s with
  | false =>
    have e1 : teE d s c = 1 := by unfold teE; rw [if_pos (.inr hm)]
    have e2 : teR d s c = d := by unfold teR; rw [e1]; rfl
    rw [e1, e2]
    exact tear_may d s c w ha hb h0 hm ht
  | true =>
    have hn : ¬ (c < 0 ∨ mayB s = false) := fun h => h.elim h0 (fun e => by rw [hm] at e; cases e)
    by_cases hq : (hasS d).q = 18446744073709551615
    · have e1 : teE d s c = 4 := by unfold teE; rw [if_neg hn, if_pos hq]
      have e2 : teR d s c = d := by unfold teR; rw [e1]; rfl
      rw [e1, e2]
      exact tear_big d s c w ha hb h0 hm hq ht
    · have e1 : teE d s c = 0 := by unfold teE; rw [if_neg hn, if_neg hq]
      have e2 : teR d s c = teaD layC parC d s c.toNat := by unfold teR; rw [e1]; rfl
      rw [e1, e2]
      obtain ⟨k, rfl⟩ := Int.eq_ofNat_of_zero_le (show 0 ≤ c by omega)
      exact tear_ok d s k w ha hb (by omega) hf hm hq ht
theorem rtear_any (d : Dk) (s : Sv) (c : Int) (w : World) (ha : d.a.size ≤ 140737488351232) (hb : d.b.size ≤ 140737488351232) (hf : FitS s) (hc : c ≤ 9223372036854775807) : Calls Tryd.prog 19 #[.agg #[.string d.a, .string d.b], .agg #[.int .u64 s.q, .int .u64 s.b, .int .u64 s.i, .int .u64 s.e, .int .i64 s.u], .int .i64 c] w fun e w' => e = .returned (.tuple #[.agg #[.string (teR d s c).a, .string (teR d s c).b], .int .i64 (teE d s c)]) ∧ Below w.heap.size w w' := by
  by_cases h0 : c < 0
  · have e1 : teE d s c = 1 := by unfold teE; rw [if_pos (.inl h0)]
    have e2 : teR d s c = d := by unfold teR; rw [e1]; rfl
    rw [e1, e2]
    cases hm : mayB s with
    | false => exact rtear_may d s c w ha hb hm
    | true => exact rtear_neg d s c w ha hb h0 hm
  cases hm : mayB s with
  | false =>
    have e1 : teE d s c = 1 := by unfold teE; rw [if_pos (.inr hm)]
    have e2 : teR d s c = d := by unfold teR; rw [e1]; rfl
    rw [e1, e2]
    exact rtear_may d s c w ha hb hm
  | true =>
    have hn : ¬ (c < 0 ∨ mayB s = false) := fun h => h.elim h0 (fun e => by rw [hm] at e; cases e)
    by_cases hq : (hasS d).q = 18446744073709551615
    · have e1 : teE d s c = 4 := by unfold teE; rw [if_neg hn, if_pos hq]
      have e2 : teR d s c = d := by unfold teR; rw [e1]; rfl
      rw [e1, e2]
      exact rtear_big d s c w ha hb h0 hm hq
    · have e1 : teE d s c = 0 := by unfold teE; rw [if_neg hn, if_neg hq]
      have e2 : teR d s c = teaD layC parC d s c.toNat := by unfold teR; rw [e1]; rfl
      rw [e1, e2]
      obtain ⟨k, rfl⟩ := Int.eq_ofNat_of_zero_le (show 0 ≤ c by omega)
      exact rtear_ok d s k w ha hb (by omega) hf hm hq
set_option maxRecDepth 100000 in
set_option maxHeartbeats 4000000 in
theorem write_any (d : Dk) (s : Sv) (w : World) (ha : d.a.size ≤ 140737488351232) (hb : d.b.size ≤ 140737488351232) (hf : FitS s) (ht : Tab w) : Calls Tryd.prog 18 #[.agg #[.string d.a, .string d.b], .agg #[.int .u64 s.q, .int .u64 s.b, .int .u64 s.i, .int .u64 s.e, .int .i64 s.u]] w fun e w' => e = .returned (.tuple #[.agg #[.string (teR d s 9223372036854775807).a, .string (teR d s 9223372036854775807).b], .int .i64 (teE d s 9223372036854775807)]) ∧ Below w.heap.size w w' := by
  have HW := Lib.hid (fun (W : World) (hT : Tab W) => tear_any d s 9223372036854775807 W ha hb hf (by omega) hT)
  have HD1 : Hid (DkW (((w.alloc (.cells #[.string d.a, .string d.b] 23)).alloc (.cells #[.int .u64 s.q, .int .u64 s.b, .int .u64 s.i, .int .u64 s.e, .int .i64 s.u] 26)).alloc (.cells #[.string ⟨#[]⟩, .string ⟨#[]⟩] 23)) w.heap.size d) := Lib.hid (((DkW.new w d _).on ((Below.refl _ _).alloc (Nat.le_refl _) _)).on ((Below.refl _ _).alloc (Nat.le_refl _) _))
  have HS1 : Hid (SvW (((w.alloc (.cells #[.string d.a, .string d.b] 23)).alloc (.cells #[.int .u64 s.q, .int .u64 s.b, .int .u64 s.i, .int .u64 s.e, .int .i64 s.u] 26)).alloc (.cells #[.string ⟨#[]⟩, .string ⟨#[]⟩] 23)) (w.heap.size + 1) s) := Lib.hid (by
    have h := (SvW.new (w.alloc (.cells #[.string d.a, .string d.b] 23)) s 26).on ((Below.refl _ _).alloc (Nat.le_refl _) (.cells #[.string ⟨#[]⟩, .string ⟨#[]⟩] 23))
    simpa using h)
  have HR1 : Hid (DkW (((w.alloc (.cells #[.string d.a, .string d.b] 23)).alloc (.cells #[.int .u64 s.q, .int .u64 s.b, .int .u64 s.i, .int .u64 s.e, .int .i64 s.u] 26)).alloc (.cells #[.string ⟨#[]⟩, .string ⟨#[]⟩] 23)) (w.heap.size + 2) ⟨⟨#[]⟩, ⟨#[]⟩⟩) := Lib.hid (by
    have h := DkW.new ((w.alloc (.cells #[.string d.a, .string d.b] 23)).alloc (.cells #[.int .u64 s.q, .int .u64 s.b, .int .u64 s.i, .int .u64 s.e, .int .i64 s.u] 26)) ⟨⟨#[]⟩, ⟨#[]⟩⟩ 23
    simpa using h)
  have HB1 : Hid (Below w.heap.size w (((w.alloc (.cells #[.string d.a, .string d.b] 23)).alloc (.cells #[.int .u64 s.q, .int .u64 s.b, .int .u64 s.i, .int .u64 s.e, .int .i64 s.u] 26)).alloc (.cells #[.string ⟨#[]⟩, .string ⟨#[]⟩] 23))) := Lib.hid ((((Below.refl _ _).alloc (Nat.le_refl _) _).alloc (by simp) _).alloc (by simp; omega) _)
  have HT1 := Lib.hid (ht.on HB1.out)
  clear ht
  obtain ⟨E, hE⟩ : ∃ E, teE d s 9223372036854775807 = E := ⟨_, rfl⟩
  obtain ⟨R, hR⟩ : ∃ R, teR d s 9223372036854775807 = R := ⟨_, rfl⟩
  rw [hE, hR] at HW
  rw [hE, hR]
  clear hE hR
  go_enter Tryd.func18, Tryd.ntmps18
  go_upto_region 1 with (fail)
  generalize ((w.alloc (.cells #[.string d.a, .string d.b] 23)).alloc (.cells #[.int .u64 s.q, .int .u64 s.b, .int .u64 s.i, .int .u64 s.e, .int .i64 s.u] 26)).alloc (.cells #[.string ⟨#[]⟩, .string ⟨#[]⟩] 23) = w1 at *
  obtain ⟨⟨d0, d1⟩, df⟩ := HD1.out
  obtain ⟨⟨s0, s1, s2, s3, s4⟩, sf⟩ := HS1.out
  obtain ⟨⟨r0, r1⟩, rf⟩ := HR1.out
  try simp only at r0 r1 s0 s1 s2 s3 s4 d0 d1
  go_wp2_with fail
  refine (HW.out _ HT1.out).mono ?_
  rintro e w2 ⟨rfl, hb2⟩
  clear HW
  clear d0 d1 df s0 s1 s2 s3 s4 sf r0 r1 rf
  have HD2 := Lib.hid (HD1.out.on hb2)
  have HS2 := Lib.hid (HS1.out.on hb2)
  have HR2 := Lib.hid (HR1.out.on hb2)
  have HT2 := Lib.hid (HT1.out.on hb2)
  have HB2 := Lib.hid (HB1.out.trans (hb2.mono HB1.out.size))
  clear hb2 HD1 HS1 HR1 HT1 HB1
  obtain ⟨⟨d0, d1⟩, df⟩ := HD2.out
  obtain ⟨⟨s0, s1, s2, s3, s4⟩, sf⟩ := HS2.out
  obtain ⟨⟨r0, r1⟩, rf⟩ := HR2.out
  try simp only at r0 r1 s0 s1 s2 s3 s4 d0 d1
  have HF := Lib.hid (HR2.out.set R)
  have HBf := Lib.hid (below_set2 HB2.out (show w.heap.size ≤ w.heap.size + 2 by omega) (.string R.a) (.string R.b))
  go_wp2_with fail
  clear d0 d1 df s0 s1 s2 s3 s4 sf r0 r1 rf
  generalize hwf : World.setCell _ _ _ = wf
  rw [hwf] at HF HBf
  obtain ⟨⟨r0, r1⟩, rf⟩ := HF.out
  exact bodyPost_ret (v := .tuple #[.agg #[.string R.a, .string R.b], .int .i64 E]) (by simp [results, Tryd.results18, go_sem, r0, r1]) rfl ⟨rfl, HBf.out⟩
/-- No more than 200 octets of each place. -/
def few1 (t : ByteArray) : ByteArray := if 200 < t.size then t.extract 0 200 else t
def fewD (d : Dk) : Dk := ⟨few1 d.a, few1 d.b⟩
theorem few1_size (t : ByteArray) : (few1 t).size ≤ 200 := by
  unfold few1
  split
  · rw [ByteArray.size_extract]; omega
  · omega
set_option maxRecDepth 100000 in
set_option maxHeartbeats 4000000 in
theorem few_any (d : Dk) (w : World) (ha : d.a.size ≤ maxLen) (hb : d.b.size ≤ maxLen) : Calls Tryd.prog 9 #[.agg #[.string d.a, .string d.b]] w fun e w' => e = .returned (.agg #[.string (fewD d).a, .string (fewD d).b]) ∧ Below w.heap.size w w' := by
  unfold maxLen at ha hb
  have HD1 := Lib.hid (DkW.new w d 23)
  have hbn : Below w.heap.size w (w.alloc (.cells #[.string d.a, .string d.b] 23)) := (Below.refl _ _).alloc (Nat.le_refl _) _
  have hsz : (w.alloc (.cells #[.string d.a, .string d.b] 23)).heap.size = w.heap.size + 1 := by simp
  have e0 : few1 d.a = if 200 < d.a.size then d.a.extract 0 200 else d.a := rfl
  have e1 : few1 d.b = if 200 < d.b.size then d.b.extract 0 200 else d.b := rfl
  obtain ⟨R, hR⟩ : ∃ R, R = fewD d := ⟨_, rfl⟩
  rw [← hR]
  go_enter Tryd.func9, Tryd.ntmps9
  go_upto_region 1 with (fail)
  generalize w.alloc (.cells #[.string d.a, .string d.b] 23) = w1 at *
  have hb2 : Below w1.heap.size w1 (w1.alloc (.cells #[.string ⟨#[]⟩, .string ⟨#[]⟩] 23)) := (Below.refl _ _).alloc (Nat.le_refl _) _
  have HR2 := Lib.hid (DkW.new w1 ⟨⟨#[]⟩, ⟨#[]⟩⟩ 23)
  rw [hsz] at HR2
  try simp only at HR2
  have HD2 := Lib.hid (HD1.out.on hb2)
  have HB2 := Lib.hid (hbn.trans (hb2.mono hbn.size))
  clear hbn hb2 hsz HD1
  generalize w1.alloc (.cells #[.string ⟨#[]⟩, .string ⟨#[]⟩] 23) = w2 at *
  obtain ⟨⟨r0, r1⟩, rf⟩ := HR2.out
  obtain ⟨⟨d0, d1⟩, df⟩ := HD2.out
  try simp only at r0 r1
  by_cases h1 : 200 < d.a.size
  · by_cases h2 : 200 < d.b.size
    · rw [if_pos h1] at e0
      rw [if_pos h2] at e1
      have HE : Hid (R = ⟨(d.a.extract 0 200), (d.b.extract 0 200)⟩) := Lib.hid (by rw [hR]; unfold fewD; rw [e0, e1])
      clear hR e0 e1
      have h1' : decide (200 < d.a.size) = true := decide_eq_true h1
      have h2' : decide (200 < d.b.size) = true := decide_eq_true h2
      have HF := Lib.hid (((HR2.out.other (p := ⟨w.heap.size, 0, none⟩) (by show w.heap.size ≠ w.heap.size + 1; omega) (.string (d.a.extract 0 200))).other (p := ⟨w.heap.size, 1, none⟩) (by show w.heap.size ≠ w.heap.size + 1; omega) (.string (d.b.extract 0 200))).set ⟨(d.a.extract 0 200), (d.b.extract 0 200)⟩)
      have HBf := Lib.hid (below_set2 ((HB2.out.setCell (p := ⟨w.heap.size, 0, none⟩) (Nat.le_refl _) (.string (d.a.extract 0 200))).setCell (p := ⟨w.heap.size, 1, none⟩) (Nat.le_refl _) (.string (d.b.extract 0 200))) (show w.heap.size ≤ w.heap.size + 1 by omega) (.string (d.a.extract 0 200)) (.string (d.b.extract 0 200)))
      try simp only at HF HBf
      go_wp2_with fail
      clear d0 d1 df r0 r1 rf
      generalize hwf : World.setCell (World.setCell _ ⟨w.heap.size + 1, _, _⟩ _) _ _ = wf
      rw [hwf] at HF HBf
      obtain ⟨⟨r0, r1⟩, rf⟩ := HF.out
      try simp only at r0 r1
      exact bodyPost_ret (v := .agg #[.string (d.a.extract 0 200), .string (d.b.extract 0 200)]) (by simp [results, Tryd.results9, go_sem, r0, r1]) rfl ⟨by rw [HE.out], HBf.out⟩
    · rw [if_pos h1] at e0
      rw [if_neg h2] at e1
      have HE : Hid (R = ⟨(d.a.extract 0 200), d.b⟩) := Lib.hid (by rw [hR]; unfold fewD; rw [e0, e1])
      clear hR e0 e1
      have h1' : decide (200 < d.a.size) = true := decide_eq_true h1
      have h2' : decide (200 < d.b.size) = false := decide_eq_false h2
      have HF := Lib.hid ((HR2.out.other (p := ⟨w.heap.size, 0, none⟩) (by show w.heap.size ≠ w.heap.size + 1; omega) (.string (d.a.extract 0 200))).set ⟨(d.a.extract 0 200), d.b⟩)
      have HBf := Lib.hid (below_set2 (HB2.out.setCell (p := ⟨w.heap.size, 0, none⟩) (Nat.le_refl _) (.string (d.a.extract 0 200))) (show w.heap.size ≤ w.heap.size + 1 by omega) (.string (d.a.extract 0 200)) (.string d.b))
      try simp only at HF HBf
      go_wp2_with fail
      clear d0 d1 df r0 r1 rf
      generalize hwf : World.setCell (World.setCell _ ⟨w.heap.size + 1, _, _⟩ _) _ _ = wf
      rw [hwf] at HF HBf
      obtain ⟨⟨r0, r1⟩, rf⟩ := HF.out
      try simp only at r0 r1
      exact bodyPost_ret (v := .agg #[.string (d.a.extract 0 200), .string d.b]) (by simp [results, Tryd.results9, go_sem, r0, r1]) rfl ⟨by rw [HE.out], HBf.out⟩
  · by_cases h2 : 200 < d.b.size
    · rw [if_neg h1] at e0
      rw [if_pos h2] at e1
      have HE : Hid (R = ⟨d.a, (d.b.extract 0 200)⟩) := Lib.hid (by rw [hR]; unfold fewD; rw [e0, e1])
      clear hR e0 e1
      have h1' : decide (200 < d.a.size) = false := decide_eq_false h1
      have h2' : decide (200 < d.b.size) = true := decide_eq_true h2
      have HF := Lib.hid ((HR2.out.other (p := ⟨w.heap.size, 1, none⟩) (by show w.heap.size ≠ w.heap.size + 1; omega) (.string (d.b.extract 0 200))).set ⟨d.a, (d.b.extract 0 200)⟩)
      have HBf := Lib.hid (below_set2 (HB2.out.setCell (p := ⟨w.heap.size, 1, none⟩) (Nat.le_refl _) (.string (d.b.extract 0 200))) (show w.heap.size ≤ w.heap.size + 1 by omega) (.string d.a) (.string (d.b.extract 0 200)))
      try simp only at HF HBf
      go_wp2_with fail
      clear d0 d1 df r0 r1 rf
      generalize hwf : World.setCell (World.setCell _ ⟨w.heap.size + 1, _, _⟩ _) _ _ = wf
      rw [hwf] at HF HBf
      obtain ⟨⟨r0, r1⟩, rf⟩ := HF.out
      try simp only at r0 r1
      exact bodyPost_ret (v := .agg #[.string d.a, .string (d.b.extract 0 200)]) (by simp [results, Tryd.results9, go_sem, r0, r1]) rfl ⟨by rw [HE.out], HBf.out⟩
    · rw [if_neg h1] at e0
      rw [if_neg h2] at e1
      have HE : Hid (R = ⟨d.a, d.b⟩) := Lib.hid (by rw [hR]; unfold fewD; rw [e0, e1])
      clear hR e0 e1
      have h1' : decide (200 < d.a.size) = false := decide_eq_false h1
      have h2' : decide (200 < d.b.size) = false := decide_eq_false h2
      have HF := Lib.hid (HR2.out.set ⟨d.a, d.b⟩)
      have HBf := Lib.hid (below_set2 HB2.out (show w.heap.size ≤ w.heap.size + 1 by omega) (.string d.a) (.string d.b))
      try simp only at HF HBf
      go_wp2_with fail
      clear d0 d1 df r0 r1 rf
      generalize hwf : World.setCell (World.setCell _ ⟨w.heap.size + 1, _, _⟩ _) _ _ = wf
      rw [hwf] at HF HBf
      obtain ⟨⟨r0, r1⟩, rf⟩ := HF.out
      try simp only at r0 r1
      exact bodyPost_ret (v := .agg #[.string d.a, .string d.b]) (by simp [results, Tryd.results9, go_sem, r0, r1]) rfl ⟨by rw [HE.out], HBf.out⟩
end Go.Proofs.YtlpnhpnigljlnaaDoor
