/-
  The walks of Tear and Write, and of the document's Tear.
-/
import Derived.Test.YtlpnhpnigljlnaaDoorRd
namespace Go.Proofs.YtlpnhpnigljlnaaDoor
open Go.Sort Go.RowKit Go.Proofs.YtlpnhpnigljlnaaDoor.Pure

theorem seq_is (d : Dk) : seqD parC d = (hasS d).q := by
  rw [hasS_is]
  unfold seqD
  cases reaD parC d with
  | none => rfl
  | some s => rfl
theorem hasS_O (d : Dk) : SvO (hasS d) := parS_O (hasT d)
/-- Why nothing is written; the disk then. -/
noncomputable def teE (d : Dk) (s : Sv) (c : Int) : Int := if c < 0 ∨ mayB s = false then 1 else if (hasS d).q = 18446744073709551615 then 4 else 0
noncomputable def teR (d : Dk) (s : Sv) (c : Int) : Dk := if teE d s c = 0 then teaD layC parC d s c.toNat else d
theorem nex_is (d : Dk) (s : Sv) : nexD parC d s = ⟨(hasS d).q + 1, s.b, s.i, s.e, s.u⟩ := by unfold nexD; rw [seq_is]
theorem nex_O {d : Dk} {s : Sv} (hf : FitS s) (hm : mayB s = true) (hq : ¬ (hasS d).q = 18446744073709551615) : SvO (nexD parC d s) := by
  have h := hf.sv hm
  have hq0 := (hasS_O d).q
  have e : (2 : Int) ^ 64 = 18446744073709551616 := by decide
  rw [nex_is]
  exact ⟨by simp only; omega, h.b, h.i, h.e, h.u⟩
/-- Where it goes. -/
theorem tea_three (d : Dk) : (hasO d = false ∧ ∀ t, intD parC d t = ⟨t, d.b⟩) ∨ (hasO d = true ∧ secD parC d = false ∧ okP d.a = true ∧ parS d.a = hasS d ∧ ∀ t, intD parC d t = ⟨d.a, t⟩) ∨
    (hasO d = true ∧ secD parC d = true ∧ (okP d.a = false ∨ (okP d.a = true ∧ ¬ (hasS d).q = (parS d.a).q)) ∧ ∀ t, intD parC d t = ⟨t, d.b⟩) := by
  rcases rea_cases parC d with ⟨h1, h2, h3, h4⟩ | ⟨s, h1, h2, h3, h4, h5⟩ | ⟨s, h1, h2, h3, h4, h5⟩
  · exact .inl ⟨by rw [hasO_is, h1]; rfl, h4⟩
  · exact .inr (.inl ⟨by rw [hasO_is, h1]; rfl, h3, by unfold okP; rw [h2]; rfl, by rw [hasS_is, h1]; unfold parS; rw [h2], h5⟩)
  · refine .inr (.inr ⟨by rw [hasO_is, h1]; rfl, h3, ?_, h5⟩)
    cases ha : parC d.a with
    | none => exact .inl (by unfold okP; rw [ha]; rfl)
    | some x =>
      refine .inr ⟨by unfold okP; rw [ha]; rfl, ?_⟩
      have := h4 x ha
      rw [hasS_is, h1]
      unfold parS
      rw [ha]
      simp only [Option.getD_some]
      omega
theorem ext_all (t : ByteArray) : t.extract 0 t.size = t := by
  apply ByteArray.ext
  rw [ByteArray.data_extract]
  exact Array.extract_size
theorem cut_is (t : ByteArray) (c : Nat) : t.extract 0 (if c < t.size then c else t.size) = cutD t c := by
  unfold cutD
  split
  · apply ByteArray.ext
    simp
  · apply ByteArray.ext
    rw [ByteArray.data_extract]
    exact Array.extract_size
section
variable {w w' : World} {g : Nat} {s : Sv} {d : Dk}
theorem SvW.put0 (h : SvW w g s) (q : Int) : SvW (w.setCell ⟨g, 0, none⟩ (.int .u64 q)) g ⟨q, s.b, s.i, s.e, s.u⟩ := by
  obtain ⟨⟨h0, h1, h2, h3, h4⟩, hf⟩ := h
  exact ⟨⟨by go_simp, by go_simp, by go_simp, by go_simp, by go_simp⟩, fun k => by go_simp⟩
theorem DkW.other {p : Addr} (h : DkW w g d) (hp : p.block ≠ g) (v : Value) : DkW (w.setCell p v) g d := by
  obtain ⟨⟨h0, h1⟩, hf⟩ := h
  have n : ∀ o, ¬ p = (⟨g, o, none⟩ : Addr) := fun o e => hp (by rw [e])
  refine ⟨⟨?_, ?_⟩, fun o => ?_⟩
  · rw [World.cell?_setCell_other _ _ _ _ (n _)]; exact h0
  · rw [World.cell?_setCell_other _ _ _ _ (n _)]; exact h1
  · rw [World.frozen?_of_block (a := ⟨g, o, none⟩) (Below.heap_setCell w p v g (Ne.symm hp))]
    exact hf o
theorem FdA.other {p : Addr} {o : Bool} (h : FdA w g o s) (hp : p.block ≠ g) (v : Value) : FdA (w.setCell p v) g o s := by
  obtain ⟨h0, h1, h2, h3, h4, h5⟩ := h
  have n : ∀ k, ¬ p = (⟨g, k, none⟩ : Addr) := fun k e => hp (by rw [e])
  refine ⟨?_, ?_, ?_, ?_, ?_, ?_⟩
  · rw [World.cell?_setCell_other _ _ _ _ (n _)]; exact h0
  · rw [World.cell?_setCell_other _ _ _ _ (n _)]; exact h1
  · rw [World.cell?_setCell_other _ _ _ _ (n _)]; exact h2
  · rw [World.cell?_setCell_other _ _ _ _ (n _)]; exact h3
  · rw [World.cell?_setCell_other _ _ _ _ (n _)]; exact h4
  · rw [World.cell?_setCell_other _ _ _ _ (n _)]; exact h5
theorem DkW.putA (h : DkW w g d) (t : ByteArray) : DkW (w.setCell ⟨g, 0, none⟩ (.string t)) g ⟨t, d.b⟩ := by
  obtain ⟨⟨h0, h1⟩, hf⟩ := h
  exact ⟨⟨by go_simp, by go_simp⟩, fun k => by go_simp⟩
theorem DkW.putB (h : DkW w g d) (t : ByteArray) : DkW (w.setCell ⟨g, 1, none⟩ (.string t)) g ⟨d.a, t⟩ := by
  obtain ⟨⟨h0, h1⟩, hf⟩ := h
  exact ⟨⟨by go_simp, by go_simp⟩, fun k => by go_simp⟩
end
set_option maxRecDepth 100000 in
set_option maxHeartbeats 4000000 in
theorem tear_neg (d : Dk) (s : Sv) (c : Int) (w : World) (_ : d.a.size ≤ 140737488351232) (_ : d.b.size ≤ 140737488351232) (hc : c < 0) (ht : Tab w) : Calls Tryd.prog 20 #[.agg #[.string d.a, .string d.b], .agg #[.int .u64 s.q, .int .u64 s.b, .int .u64 s.i, .int .u64 s.e, .int .i64 s.u], .int .i64 c] w fun e w' => e = .returned (.tuple #[.agg #[.string d.a, .string d.b], .int .i64 1]) ∧ Below w.heap.size w w' := by
  have HD1 : Hid (DkW (((w.alloc (.cells #[.string d.a, .string d.b] 23)).alloc (.cells #[.int .u64 s.q, .int .u64 s.b, .int .u64 s.i, .int .u64 s.e, .int .i64 s.u] 26)).alloc (.cells #[.string ⟨#[]⟩, .string ⟨#[]⟩] 23)) w.heap.size d) := Lib.hid (((DkW.new w d _).on ((Below.refl _ _).alloc (Nat.le_refl _) _)).on ((Below.refl _ _).alloc (Nat.le_refl _) _))
  have HS1 : Hid (SvW (((w.alloc (.cells #[.string d.a, .string d.b] 23)).alloc (.cells #[.int .u64 s.q, .int .u64 s.b, .int .u64 s.i, .int .u64 s.e, .int .i64 s.u] 26)).alloc (.cells #[.string ⟨#[]⟩, .string ⟨#[]⟩] 23)) (w.heap.size + 1) s) := Lib.hid (by
    have h := (SvW.new (w.alloc (.cells #[.string d.a, .string d.b] 23)) s 26).on ((Below.refl _ _).alloc (Nat.le_refl _) (.cells #[.string ⟨#[]⟩, .string ⟨#[]⟩] 23))
    simpa using h)
  have HR1 : Hid (DkW (((w.alloc (.cells #[.string d.a, .string d.b] 23)).alloc (.cells #[.int .u64 s.q, .int .u64 s.b, .int .u64 s.i, .int .u64 s.e, .int .i64 s.u] 26)).alloc (.cells #[.string ⟨#[]⟩, .string ⟨#[]⟩] 23)) (w.heap.size + 2) ⟨⟨#[]⟩, ⟨#[]⟩⟩) := Lib.hid (by
    have h := DkW.new ((w.alloc (.cells #[.string d.a, .string d.b] 23)).alloc (.cells #[.int .u64 s.q, .int .u64 s.b, .int .u64 s.i, .int .u64 s.e, .int .i64 s.u] 26)) ⟨⟨#[]⟩, ⟨#[]⟩⟩ 23
    simpa using h)
  have HB1 : Hid (Below w.heap.size w (((w.alloc (.cells #[.string d.a, .string d.b] 23)).alloc (.cells #[.int .u64 s.q, .int .u64 s.b, .int .u64 s.i, .int .u64 s.e, .int .i64 s.u] 26)).alloc (.cells #[.string ⟨#[]⟩, .string ⟨#[]⟩] 23))) := Lib.hid ((((Below.refl _ _).alloc (Nat.le_refl _) _).alloc (by simp) _).alloc (by simp; omega) _)
  have HT1 := Lib.hid (ht.on HB1.out)
  clear ht
  have c1 : decide (c < 0) = true := decide_eq_true hc
  clear hc
  go_enter Tryd.func20, Tryd.ntmps20
  go_upto_region 1 with (fail)
  generalize ((w.alloc (.cells #[.string d.a, .string d.b] 23)).alloc (.cells #[.int .u64 s.q, .int .u64 s.b, .int .u64 s.i, .int .u64 s.e, .int .i64 s.u] 26)).alloc (.cells #[.string ⟨#[]⟩, .string ⟨#[]⟩] 23) = w1 at *
  obtain ⟨⟨d0, d1⟩, df⟩ := HD1.out
  obtain ⟨⟨s0, s1, s2, s3, s4⟩, sf⟩ := HS1.out
  obtain ⟨⟨r0, r1⟩, rf⟩ := HR1.out
  try simp only at r0 r1 s0 s1 s2 s3 s4 d0 d1
  have HF := Lib.hid (HR1.out.set d)
  have HBf := Lib.hid (below_set2 HB1.out (show w.heap.size ≤ w.heap.size + 2 by omega) (.string (d).a) (.string (d).b))
  try simp only at HF HBf
  go_wp2_with fail
  clear d0 d1 df s0 s1 s2 s3 s4 sf r0 r1 rf
  generalize hwf : World.setCell _ _ _ = wf
  rw [hwf] at HF HBf
  obtain ⟨⟨r0, r1⟩, rf⟩ := HF.out
  try simp only at r0 r1
  exact bodyPost_ret (v := .tuple #[.agg #[.string d.a, .string d.b], .int .i64 1]) (by simp [results, Tryd.results20, go_sem, r0, r1]) rfl ⟨rfl, HBf.out⟩
set_option maxRecDepth 100000 in
set_option maxHeartbeats 4000000 in
theorem tear_may (d : Dk) (s : Sv) (c : Int) (w : World) (_ : d.a.size ≤ 140737488351232) (_ : d.b.size ≤ 140737488351232) (hc : ¬ c < 0) (hm : mayB s = false) (ht : Tab w) : Calls Tryd.prog 20 #[.agg #[.string d.a, .string d.b], .agg #[.int .u64 s.q, .int .u64 s.b, .int .u64 s.i, .int .u64 s.e, .int .i64 s.u], .int .i64 c] w fun e w' => e = .returned (.tuple #[.agg #[.string d.a, .string d.b], .int .i64 1]) ∧ Below w.heap.size w w' := by
  have HM := Lib.hid (fun W => may_any s W)
  rw [hm] at HM
  have HD1 : Hid (DkW (((w.alloc (.cells #[.string d.a, .string d.b] 23)).alloc (.cells #[.int .u64 s.q, .int .u64 s.b, .int .u64 s.i, .int .u64 s.e, .int .i64 s.u] 26)).alloc (.cells #[.string ⟨#[]⟩, .string ⟨#[]⟩] 23)) w.heap.size d) := Lib.hid (((DkW.new w d _).on ((Below.refl _ _).alloc (Nat.le_refl _) _)).on ((Below.refl _ _).alloc (Nat.le_refl _) _))
  have HS1 : Hid (SvW (((w.alloc (.cells #[.string d.a, .string d.b] 23)).alloc (.cells #[.int .u64 s.q, .int .u64 s.b, .int .u64 s.i, .int .u64 s.e, .int .i64 s.u] 26)).alloc (.cells #[.string ⟨#[]⟩, .string ⟨#[]⟩] 23)) (w.heap.size + 1) s) := Lib.hid (by
    have h := (SvW.new (w.alloc (.cells #[.string d.a, .string d.b] 23)) s 26).on ((Below.refl _ _).alloc (Nat.le_refl _) (.cells #[.string ⟨#[]⟩, .string ⟨#[]⟩] 23))
    simpa using h)
  have HR1 : Hid (DkW (((w.alloc (.cells #[.string d.a, .string d.b] 23)).alloc (.cells #[.int .u64 s.q, .int .u64 s.b, .int .u64 s.i, .int .u64 s.e, .int .i64 s.u] 26)).alloc (.cells #[.string ⟨#[]⟩, .string ⟨#[]⟩] 23)) (w.heap.size + 2) ⟨⟨#[]⟩, ⟨#[]⟩⟩) := Lib.hid (by
    have h := DkW.new ((w.alloc (.cells #[.string d.a, .string d.b] 23)).alloc (.cells #[.int .u64 s.q, .int .u64 s.b, .int .u64 s.i, .int .u64 s.e, .int .i64 s.u] 26)) ⟨⟨#[]⟩, ⟨#[]⟩⟩ 23
    simpa using h)
  have HB1 : Hid (Below w.heap.size w (((w.alloc (.cells #[.string d.a, .string d.b] 23)).alloc (.cells #[.int .u64 s.q, .int .u64 s.b, .int .u64 s.i, .int .u64 s.e, .int .i64 s.u] 26)).alloc (.cells #[.string ⟨#[]⟩, .string ⟨#[]⟩] 23))) := Lib.hid ((((Below.refl _ _).alloc (Nat.le_refl _) _).alloc (by simp) _).alloc (by simp; omega) _)
  have HT1 := Lib.hid (ht.on HB1.out)
  clear ht
  have c1 : decide (c < 0) = false := decide_eq_false hc
  clear hm hc
  go_enter Tryd.func20, Tryd.ntmps20
  go_upto_region 1 with (fail)
  generalize ((w.alloc (.cells #[.string d.a, .string d.b] 23)).alloc (.cells #[.int .u64 s.q, .int .u64 s.b, .int .u64 s.i, .int .u64 s.e, .int .i64 s.u] 26)).alloc (.cells #[.string ⟨#[]⟩, .string ⟨#[]⟩] 23) = w1 at *
  obtain ⟨⟨d0, d1⟩, df⟩ := HD1.out
  obtain ⟨⟨s0, s1, s2, s3, s4⟩, sf⟩ := HS1.out
  obtain ⟨⟨r0, r1⟩, rf⟩ := HR1.out
  try simp only at r0 r1 s0 s1 s2 s3 s4 d0 d1
  go_wp2_with fail
  refine (HM.out _).mono ?_
  rintro e w2 ⟨rfl, hb2⟩
  clear d0 d1 df s0 s1 s2 s3 s4 sf r0 r1 rf
  have HD2 := Lib.hid (HD1.out.on hb2)
  have HS2 := Lib.hid (HS1.out.on hb2)
  have HR2 := Lib.hid (HR1.out.on hb2)
  have HT2 := Lib.hid (HT1.out.on hb2)
  have HB2 := Lib.hid (HB1.out.trans (hb2.mono HB1.out.size))
  clear hb2 HD1 HS1 HR1 HT1 HB1
  obtain ⟨⟨d0, d1⟩, df⟩ := HD2.out
  obtain ⟨⟨s0, s1, s2, s3, s4⟩, sf⟩ := HS2.out
  obtain ⟨⟨r0, r1⟩, rf⟩ := HR2.out
  try simp only at r0 r1 s0 s1 s2 s3 s4 d0 d1
  have HF := Lib.hid (HR2.out.set d)
  have HBf := Lib.hid (below_set2 HB2.out (show w.heap.size ≤ w.heap.size + 2 by omega) (.string (d).a) (.string (d).b))
  try simp only at HF HBf
  go_wp2_with fail
  clear d0 d1 df s0 s1 s2 s3 s4 sf r0 r1 rf
  generalize hwf : World.setCell _ _ _ = wf
  rw [hwf] at HF HBf
  obtain ⟨⟨r0, r1⟩, rf⟩ := HF.out
  try simp only at r0 r1
  exact bodyPost_ret (v := .tuple #[.agg #[.string d.a, .string d.b], .int .i64 1]) (by simp [results, Tryd.results20, go_sem, r0, r1]) rfl ⟨rfl, HBf.out⟩
set_option maxRecDepth 100000 in
set_option maxHeartbeats 4000000 in
theorem tear_big (d : Dk) (s : Sv) (c : Int) (w : World) (ha : d.a.size ≤ 140737488351232) (hb : d.b.size ≤ 140737488351232) (hc : ¬ c < 0) (hm : mayB s = true) (hq : (hasS d).q = 18446744073709551615) (ht : Tab w) : Calls Tryd.prog 20 #[.agg #[.string d.a, .string d.b], .agg #[.int .u64 s.q, .int .u64 s.b, .int .u64 s.i, .int .u64 s.e, .int .i64 s.u], .int .i64 c] w fun e w' => e = .returned (.tuple #[.agg #[.string d.a, .string d.b], .int .i64 4]) ∧ Below w.heap.size w w' := by
  have HM := Lib.hid (fun W => may_any s W)
  rw [hm] at HM
  have HH := Lib.hid (fun (W : World) (hT : Tab W) => has_any d W ha hb hT)
  have HD1 : Hid (DkW (((w.alloc (.cells #[.string d.a, .string d.b] 23)).alloc (.cells #[.int .u64 s.q, .int .u64 s.b, .int .u64 s.i, .int .u64 s.e, .int .i64 s.u] 26)).alloc (.cells #[.string ⟨#[]⟩, .string ⟨#[]⟩] 23)) w.heap.size d) := Lib.hid (((DkW.new w d _).on ((Below.refl _ _).alloc (Nat.le_refl _) _)).on ((Below.refl _ _).alloc (Nat.le_refl _) _))
  have HS1 : Hid (SvW (((w.alloc (.cells #[.string d.a, .string d.b] 23)).alloc (.cells #[.int .u64 s.q, .int .u64 s.b, .int .u64 s.i, .int .u64 s.e, .int .i64 s.u] 26)).alloc (.cells #[.string ⟨#[]⟩, .string ⟨#[]⟩] 23)) (w.heap.size + 1) s) := Lib.hid (by
    have h := (SvW.new (w.alloc (.cells #[.string d.a, .string d.b] 23)) s 26).on ((Below.refl _ _).alloc (Nat.le_refl _) (.cells #[.string ⟨#[]⟩, .string ⟨#[]⟩] 23))
    simpa using h)
  have HR1 : Hid (DkW (((w.alloc (.cells #[.string d.a, .string d.b] 23)).alloc (.cells #[.int .u64 s.q, .int .u64 s.b, .int .u64 s.i, .int .u64 s.e, .int .i64 s.u] 26)).alloc (.cells #[.string ⟨#[]⟩, .string ⟨#[]⟩] 23)) (w.heap.size + 2) ⟨⟨#[]⟩, ⟨#[]⟩⟩) := Lib.hid (by
    have h := DkW.new ((w.alloc (.cells #[.string d.a, .string d.b] 23)).alloc (.cells #[.int .u64 s.q, .int .u64 s.b, .int .u64 s.i, .int .u64 s.e, .int .i64 s.u] 26)) ⟨⟨#[]⟩, ⟨#[]⟩⟩ 23
    simpa using h)
  have HB1 : Hid (Below w.heap.size w (((w.alloc (.cells #[.string d.a, .string d.b] 23)).alloc (.cells #[.int .u64 s.q, .int .u64 s.b, .int .u64 s.i, .int .u64 s.e, .int .i64 s.u] 26)).alloc (.cells #[.string ⟨#[]⟩, .string ⟨#[]⟩] 23))) := Lib.hid ((((Below.refl _ _).alloc (Nat.le_refl _) _).alloc (by simp) _).alloc (by simp; omega) _)
  have HT1 := Lib.hid (ht.on HB1.out)
  clear ht
  have c1 : decide (c < 0) = false := decide_eq_false hc
  have q1 : ((hasS d).q == 18446744073709551615) = true := by rw [hq]; rfl
  clear hc hm hq
  generalize hasO d = O at *
  generalize hasS d = S at *
  go_enter Tryd.func20, Tryd.ntmps20
  go_upto_region 1 with (fail)
  generalize ((w.alloc (.cells #[.string d.a, .string d.b] 23)).alloc (.cells #[.int .u64 s.q, .int .u64 s.b, .int .u64 s.i, .int .u64 s.e, .int .i64 s.u] 26)).alloc (.cells #[.string ⟨#[]⟩, .string ⟨#[]⟩] 23) = w1 at *
  obtain ⟨⟨d0, d1⟩, df⟩ := HD1.out
  obtain ⟨⟨s0, s1, s2, s3, s4⟩, sf⟩ := HS1.out
  obtain ⟨⟨r0, r1⟩, rf⟩ := HR1.out
  try simp only at r0 r1 s0 s1 s2 s3 s4 d0 d1
  go_wp2_with fail
  refine (HM.out _).mono ?_
  rintro e w2 ⟨rfl, hb2⟩
  clear d0 d1 df s0 s1 s2 s3 s4 sf r0 r1 rf
  have HD2 := Lib.hid (HD1.out.on hb2)
  have HS2 := Lib.hid (HS1.out.on hb2)
  have HR2 := Lib.hid (HR1.out.on hb2)
  have HT2 := Lib.hid (HT1.out.on hb2)
  have HB2 := Lib.hid (HB1.out.trans (hb2.mono HB1.out.size))
  clear hb2 HD1 HS1 HR1 HT1 HB1
  obtain ⟨⟨d0, d1⟩, df⟩ := HD2.out
  obtain ⟨⟨s0, s1, s2, s3, s4⟩, sf⟩ := HS2.out
  obtain ⟨⟨r0, r1⟩, rf⟩ := HR2.out
  try simp only at r0 r1 s0 s1 s2 s3 s4 d0 d1
  clear HM
  go_wp2_with fail
  refine (HH.out _ HT2.out).mono ?_
  rintro e w3 ⟨rfl, hb3⟩
  clear d0 d1 df s0 s1 s2 s3 s4 sf r0 r1 rf
  have HD3 := Lib.hid (HD2.out.on hb3)
  have HS3 := Lib.hid (HS2.out.on hb3)
  have HR3 := Lib.hid (HR2.out.on hb3)
  have HT3 := Lib.hid (HT2.out.on hb3)
  have HB3 := Lib.hid (HB2.out.trans (hb3.mono HB2.out.size))
  clear hb3 HD2 HS2 HR2 HT2 HB2
  clear HH
  have hg : w.heap.size + 2 < w3.heap.size := HR3.out.lt
  have hbn : Below w3.heap.size w3 (w3.alloc (.cells #[.bool O, .int .u64 S.q, .int .u64 S.b, .int .u64 S.i, .int .u64 S.e, .int .i64 S.u] 64)) := (Below.refl _ _).alloc (Nat.le_refl _) _
  have HFd := Lib.hid (FdA.new w3 O S 64)
  have HD4 := Lib.hid (HD3.out.on hbn)
  have HS4 := Lib.hid (HS3.out.on hbn)
  have HR4 := Lib.hid (HR3.out.on hbn)
  have HT4 := Lib.hid (HT3.out.on hbn)
  have HB4 := Lib.hid (HB3.out.trans (hbn.mono HB3.out.size))
  clear hbn HD3 HS3 HR3 HT3 HB3
  obtain ⟨⟨d0, d1⟩, df⟩ := HD4.out
  obtain ⟨⟨s0, s1, s2, s3, s4⟩, sf⟩ := HS4.out
  obtain ⟨⟨r0, r1⟩, rf⟩ := HR4.out
  try simp only at r0 r1 s0 s1 s2 s3 s4 d0 d1
  skip
  go_upto_region 4 with (fail)
  generalize w3.alloc (.cells #[.bool O, .int .u64 S.q, .int .u64 S.b, .int .u64 S.i, .int .u64 S.e, .int .i64 S.u] 64) = w4 at *
  generalize w3.heap.size = gf at *
  obtain ⟨f0, f1, f2, f3, f4, f5⟩ := HFd.out
  have HF := Lib.hid (HR4.out.set d)
  have HBf := Lib.hid (below_set2 HB4.out (show w.heap.size ≤ w.heap.size + 2 by omega) (.string (d).a) (.string (d).b))
  try simp only at HF HBf
  go_wp2_with fail
  clear d0 d1 df s0 s1 s2 s3 s4 sf r0 r1 rf
  generalize hwf : World.setCell _ _ _ = wf
  rw [hwf] at HF HBf
  obtain ⟨⟨r0, r1⟩, rf⟩ := HF.out
  try simp only at r0 r1
  exact bodyPost_ret (v := .tuple #[.agg #[.string d.a, .string d.b], .int .i64 4]) (by simp [results, Tryd.results20, go_sem, r0, r1]) rfl ⟨rfl, HBf.out⟩
set_option maxRecDepth 100000 in
set_option maxHeartbeats 4000000 in
theorem tear_ok (d : Dk) (s : Sv) (c : Nat) (w : World) (ha : d.a.size ≤ 140737488351232) (hb : d.b.size ≤ 140737488351232) (hc : c ≤ 9223372036854775807) (hf : FitS s) (hm : mayB s = true) (hq : ¬ (hasS d).q = 18446744073709551615) (ht : Tab w) : Calls Tryd.prog 20 #[.agg #[.string d.a, .string d.b], .agg #[.int .u64 s.q, .int .u64 s.b, .int .u64 s.i, .int .u64 s.e, .int .i64 s.u], .int .i64 c] w fun e w' => e = .returned (.tuple #[.agg #[.string (teaD layC parC d s c).a, .string (teaD layC parC d s c).b], .int .i64 0]) ∧ Below w.heap.size w w' := by
  have HM := Lib.hid (fun W => may_any s W)
  rw [hm] at HM
  have HH := Lib.hid (fun (W : World) (hT : Tab W) => has_any d W ha hb hT)
  have HD1 : Hid (DkW (((w.alloc (.cells #[.string d.a, .string d.b] 23)).alloc (.cells #[.int .u64 s.q, .int .u64 s.b, .int .u64 s.i, .int .u64 s.e, .int .i64 s.u] 26)).alloc (.cells #[.string ⟨#[]⟩, .string ⟨#[]⟩] 23)) w.heap.size d) := Lib.hid (((DkW.new w d _).on ((Below.refl _ _).alloc (Nat.le_refl _) _)).on ((Below.refl _ _).alloc (Nat.le_refl _) _))
  have HS1 : Hid (SvW (((w.alloc (.cells #[.string d.a, .string d.b] 23)).alloc (.cells #[.int .u64 s.q, .int .u64 s.b, .int .u64 s.i, .int .u64 s.e, .int .i64 s.u] 26)).alloc (.cells #[.string ⟨#[]⟩, .string ⟨#[]⟩] 23)) (w.heap.size + 1) s) := Lib.hid (by
    have h := (SvW.new (w.alloc (.cells #[.string d.a, .string d.b] 23)) s 26).on ((Below.refl _ _).alloc (Nat.le_refl _) (.cells #[.string ⟨#[]⟩, .string ⟨#[]⟩] 23))
    simpa using h)
  have HR1 : Hid (DkW (((w.alloc (.cells #[.string d.a, .string d.b] 23)).alloc (.cells #[.int .u64 s.q, .int .u64 s.b, .int .u64 s.i, .int .u64 s.e, .int .i64 s.u] 26)).alloc (.cells #[.string ⟨#[]⟩, .string ⟨#[]⟩] 23)) (w.heap.size + 2) ⟨⟨#[]⟩, ⟨#[]⟩⟩) := Lib.hid (by
    have h := DkW.new ((w.alloc (.cells #[.string d.a, .string d.b] 23)).alloc (.cells #[.int .u64 s.q, .int .u64 s.b, .int .u64 s.i, .int .u64 s.e, .int .i64 s.u] 26)) ⟨⟨#[]⟩, ⟨#[]⟩⟩ 23
    simpa using h)
  have HB1 : Hid (Below w.heap.size w (((w.alloc (.cells #[.string d.a, .string d.b] 23)).alloc (.cells #[.int .u64 s.q, .int .u64 s.b, .int .u64 s.i, .int .u64 s.e, .int .i64 s.u] 26)).alloc (.cells #[.string ⟨#[]⟩, .string ⟨#[]⟩] 23))) := Lib.hid ((((Below.refl _ _).alloc (Nat.le_refl _) _).alloc (by simp) _).alloc (by simp; omega) _)
  have HT1 := Lib.hid (ht.on HB1.out)
  clear ht
  have hO := nex_O (d := d) hf hm hq
  have hts := layC_size (nexD parC d s)
  have HL := Lib.hid (fun (W : World) (hT : Tab W) => lay_yes (nexD parC d s) W hO hT)
  have hte : teaD layC parC d s c = intD parC d (cutD (layC (nexD parC d s)) c) := rfl
  rw [nex_is] at HL hte
  simp only at HL
  have hcut := cut_is (layC (nexD parC d s)) c
  rw [nex_is] at hcut hts
  obtain ⟨R, hR⟩ : ∃ R, R = teaD layC parC d s c := ⟨_, rfl⟩
  rw [← hR]
  rw [hte] at hR
  generalize layC ⟨(hasS d).q + 1, s.b, s.i, s.e, s.u⟩ = T at *
  generalize cutD T c = U at *
  have hq0 := (hasS_O d).q
  have e64 : (2 : Int) ^ 64 = 18446744073709551616 := by decide
  have q1 : ((hasS d).q == 18446744073709551615) = false := by simpa using hq
  have q2 : IntKind.u64.wrap ((hasS d).q + 1) = (hasS d).q + 1 := IntWalk.u64_in _ (by omega)
  have H3 := Lib.hid (tea_three d)
  have c1 : decide ((c : Int) < 0) = false := decide_eq_false (by omega)
  have HLA := Lib.hid (fun (W : World) (hT : Tab W) => look_any d.a W ha hT)
  skip
  skip
  generalize hS : hasS d = S at *
  have HSs := Lib.hid hS
  generalize hO2 : hasO d = O at *
  clear hO hte hq hm hf hq0 e64 hS hO2
  have HRR := Lib.hid hR
  have HCU := Lib.hid hcut
  clear hR hcut
  go_enter Tryd.func20, Tryd.ntmps20
  go_upto_region 1 with (fail)
  generalize ((w.alloc (.cells #[.string d.a, .string d.b] 23)).alloc (.cells #[.int .u64 s.q, .int .u64 s.b, .int .u64 s.i, .int .u64 s.e, .int .i64 s.u] 26)).alloc (.cells #[.string ⟨#[]⟩, .string ⟨#[]⟩] 23) = w1 at *
  obtain ⟨⟨d0, d1⟩, df⟩ := HD1.out
  obtain ⟨⟨s0, s1, s2, s3, s4⟩, sf⟩ := HS1.out
  obtain ⟨⟨r0, r1⟩, rf⟩ := HR1.out
  try simp only at r0 r1 s0 s1 s2 s3 s4 d0 d1
  go_wp2_with fail
  refine (HM.out _).mono ?_
  rintro e w2 ⟨rfl, hb2⟩
  clear d0 d1 df s0 s1 s2 s3 s4 sf r0 r1 rf
  have HD2 := Lib.hid (HD1.out.on hb2)
  have HS2 := Lib.hid (HS1.out.on hb2)
  have HR2 := Lib.hid (HR1.out.on hb2)
  have HT2 := Lib.hid (HT1.out.on hb2)
  have HB2 := Lib.hid (HB1.out.trans (hb2.mono HB1.out.size))
  clear hb2 HD1 HS1 HR1 HT1 HB1
  obtain ⟨⟨d0, d1⟩, df⟩ := HD2.out
  obtain ⟨⟨s0, s1, s2, s3, s4⟩, sf⟩ := HS2.out
  obtain ⟨⟨r0, r1⟩, rf⟩ := HR2.out
  try simp only at r0 r1 s0 s1 s2 s3 s4 d0 d1
  clear HM
  go_wp2_with fail
  refine (HH.out _ HT2.out).mono ?_
  rintro e w3 ⟨rfl, hb3⟩
  clear d0 d1 df s0 s1 s2 s3 s4 sf r0 r1 rf
  have HD3 := Lib.hid (HD2.out.on hb3)
  have HS3 := Lib.hid (HS2.out.on hb3)
  have HR3 := Lib.hid (HR2.out.on hb3)
  have HT3 := Lib.hid (HT2.out.on hb3)
  have HB3 := Lib.hid (HB2.out.trans (hb3.mono HB2.out.size))
  clear hb3 HD2 HS2 HR2 HT2 HB2
  clear HH
  have hg : w.heap.size + 2 < w3.heap.size := HR3.out.lt
  have hbn : Below w3.heap.size w3 (w3.alloc (.cells #[.bool O, .int .u64 S.q, .int .u64 S.b, .int .u64 S.i, .int .u64 S.e, .int .i64 S.u] 64)) := (Below.refl _ _).alloc (Nat.le_refl _) _
  have HFd := Lib.hid (FdA.new w3 O S 64)
  have HD4 := Lib.hid (HD3.out.on hbn)
  have HS4 := Lib.hid (HS3.out.on hbn)
  have HR4 := Lib.hid (HR3.out.on hbn)
  have HT4 := Lib.hid (HT3.out.on hbn)
  have HB4 := Lib.hid (HB3.out.trans (hbn.mono HB3.out.size))
  clear hbn HD3 HS3 HR3 HT3 HB3
  obtain ⟨⟨d0, d1⟩, df⟩ := HD4.out
  obtain ⟨⟨s0, s1, s2, s3, s4⟩, sf⟩ := HS4.out
  obtain ⟨⟨r0, r1⟩, rf⟩ := HR4.out
  try simp only at r0 r1 s0 s1 s2 s3 s4 d0 d1
  skip
  go_upto_region 4 with (fail)
  generalize w3.alloc (.cells #[.bool O, .int .u64 S.q, .int .u64 S.b, .int .u64 S.i, .int .u64 S.e, .int .i64 S.u] 64) = w4 at *
  generalize w3.heap.size = gf at *
  obtain ⟨f0, f1, f2, f3, f4, f5⟩ := HFd.out
  go_upto_region 6 with (fail)
  have HS5 := Lib.hid (HS4.out.put0 (S.q + 1))
  have HD5 := Lib.hid (HD4.out.other (p := ⟨w.heap.size + 1, 0, none⟩) (by show w.heap.size + 1 ≠ w.heap.size; omega) (.int .u64 (S.q + 1)))
  have HR5 := Lib.hid (HR4.out.other (p := ⟨w.heap.size + 1, 0, none⟩) (by show w.heap.size + 1 ≠ w.heap.size + 2; omega) (.int .u64 (S.q + 1)))
  have HF5 := Lib.hid (HFd.out.other (p := ⟨w.heap.size + 1, 0, none⟩) (by show w.heap.size + 1 ≠ gf; omega) (.int .u64 (S.q + 1)))
  have HT5 := Lib.hid (tab_set HT4.out (p := ⟨w.heap.size + 1, 0, none⟩) (by show ¬ w.heap.size + 1 = 0; omega) (.int .u64 (S.q + 1)))
  have HB5 := Lib.hid (HB4.out.setCell (p := ⟨w.heap.size + 1, 0, none⟩) (by show w.heap.size ≤ w.heap.size + 1; omega) (.int .u64 (S.q + 1)))
  go_upto_region 7 with (fail)
  generalize w4.setCell ⟨w.heap.size + 1, 0, none⟩ (.int .u64 (S.q + 1)) = w5 at *
  clear HD4 HS4 HR4 HB4 HT4 HFd q2 q1 f1 f2 f3 f4 f5 f0
  clear d0 d1 df s0 s1 s2 s3 s4 sf r0 r1 rf
  obtain ⟨⟨d0, d1⟩, df⟩ := HD5.out
  obtain ⟨⟨s0, s1, s2, s3, s4⟩, sf⟩ := HS5.out
  obtain ⟨⟨r0, r1⟩, rf⟩ := HR5.out
  try simp only at r0 r1 s0 s1 s2 s3 s4 d0 d1
  go_wp2_with fail
  refine (HL.out _ HT5.out).mono ?_
  rintro e w6 ⟨rfl, hb6⟩
  clear HL
  clear d0 d1 df s0 s1 s2 s3 s4 sf r0 r1 rf
  have HF6 := Lib.hid (HF5.out.on hb6)
  have HD6 := Lib.hid (HD5.out.on hb6)
  have HS6 := Lib.hid (HS5.out.on hb6)
  have HR6 := Lib.hid (HR5.out.on hb6)
  have HT6 := Lib.hid (HT5.out.on hb6)
  have HB6 := Lib.hid (HB5.out.trans (hb6.mono HB5.out.size))
  clear hb6 HD5 HS5 HR5 HT5 HB5
  obtain ⟨⟨d0, d1⟩, df⟩ := HD6.out
  obtain ⟨⟨s0, s1, s2, s3, s4⟩, sf⟩ := HS6.out
  obtain ⟨⟨r0, r1⟩, rf⟩ := HR6.out
  try simp only at r0 r1 s0 s1 s2 s3 s4 d0 d1
  obtain ⟨f0, f1, f2, f3, f4, f5⟩ := HF6.out
  by_cases hct : T.size < c
  · have hcu : T.extract 0 T.size = U := by have h := HCU.out; rw [show (if c < T.size then c else T.size) = T.size by split <;> omega] at h; exact h
    have m1 : decide (T.size < c) = true := decide_eq_true hct
    clear HCU
    go_upto_region 11 with (fail)
    clear hcu m1 hct
    rcases H3.out with ⟨rfl, h5⟩ | ⟨rfl, h2, h3, h4, h5⟩ | ⟨rfl, h2, h3, h5⟩
    · have HE : Hid (R = ⟨U, d.b⟩) := Lib.hid (by rw [HRR.out]; exact h5 U)
      have D0 : ∀ p : Regrown, (grow (redrawn w6 p.d) p.os).cell? ⟨w.heap.size, 0, none⟩ = some (.string d.a) := fun p => cell_regrown d0 p.d p.os
      have F0 : ∀ p : Regrown, (grow (redrawn w6 p.d) p.os).cell? ⟨gf, 0, none⟩ = some (.bool false) := fun p => cell_regrown f0 p.d p.os
      have F1 : ∀ p : Regrown, (grow (redrawn w6 p.d) p.os).cell? ⟨gf, 1, none⟩ = some (.int .u64 S.q) := fun p => cell_regrown f1 p.d p.os
      have F2 : ∀ p : Regrown, (grow (redrawn w6 p.d) p.os).cell? ⟨gf, 2, none⟩ = some (.int .u64 S.b) := fun p => cell_regrown f2 p.d p.os
      have F3 : ∀ p : Regrown, (grow (redrawn w6 p.d) p.os).cell? ⟨gf, 3, none⟩ = some (.int .u64 S.i) := fun p => cell_regrown f3 p.d p.os
      have F4 : ∀ p : Regrown, (grow (redrawn w6 p.d) p.os).cell? ⟨gf, 4, none⟩ = some (.int .u64 S.e) := fun p => cell_regrown f4 p.d p.os
      have F5 : ∀ p : Regrown, (grow (redrawn w6 p.d) p.os).cell? ⟨gf, 5, none⟩ = some (.int .i64 S.u) := fun p => cell_regrown f5 p.d p.os
      clear HSs H3 HRR h5 hts
      refine q_enter (by kernel_rfl) (by kernel_rfl) ?_
      iterate 9 (refine q_step ?_; intro K hK; go_simp; refine hK _ ?_; clear hK K)
      refine q_nil ?_
      intro wz hbz
      have HD7 := Lib.hid (HD6.out.on hbz)
      have HS7 := Lib.hid (HS6.out.on hbz)
      have HR7 := Lib.hid (HR6.out.on hbz)
      have HT7 := Lib.hid (HT6.out.on hbz)
      have HB7 := Lib.hid (HB6.out.trans (hbz.mono HB6.out.size))
      clear hbz HD6 HS6 HR6 HB6 HT6 HF6 D0 F0 F1 F2 F3 F4 F5 f0 f1 f2 f3 f4 f5 d0 d1 df s0 s1 s2 s3 s4 sf r0 r1 rf
      generalize wz = w7 at *
      have HR8 := Lib.hid (HR7.out.other (p := ⟨w.heap.size, 0, none⟩) (by show w.heap.size ≠ w.heap.size + 2; omega) (.string U))
      have HD8 := Lib.hid (HD7.out.putA U)
      have HB8 := Lib.hid (HB7.out.setCell (p := ⟨w.heap.size, 0, none⟩) (Nat.le_refl _) (.string U))
      obtain ⟨⟨d0, d1⟩, df⟩ := HD7.out
      clear HR7 HD7 HS7 HB7 HT7
      go_upto_region 14 with (fail)
      generalize w7.setCell ⟨w.heap.size, 0, none⟩ (.string U) = w8 at *
      clear d0 d1 df
      obtain ⟨⟨d0, d1⟩, df⟩ := HD8.out
      obtain ⟨⟨r0, r1⟩, rf⟩ := HR8.out
      try simp only at r0 r1 d0 d1
      have HF := Lib.hid (HR8.out.set ⟨U, d.b⟩)
      have HBf := Lib.hid (below_set2 HB8.out (show w.heap.size ≤ w.heap.size + 2 by omega) (.string (⟨U, d.b⟩ : Dk).a) (.string (⟨U, d.b⟩ : Dk).b))
      try simp only at HF HBf
      go_wp2_with fail
      clear d0 d1 df r0 r1 rf
      generalize hwf : World.setCell _ _ _ = wf
      rw [hwf] at HF HBf
      obtain ⟨⟨r0, r1⟩, rf⟩ := HF.out
      try simp only at r0 r1
      exact bodyPost_ret (v := .tuple #[.agg #[.string U, .string d.b], .int .i64 0]) (by simp [results, Tryd.results20, go_sem, r0, r1]) rfl ⟨by rw [HE.out], HBf.out⟩
    · have HE : Hid (R = ⟨d.a, U⟩) := Lib.hid (by rw [HRR.out]; exact h5 U)
      have HP1 : Hid (∀ p : Regrown, Calls Tryd.prog 34 #[.string d.a] (grow (redrawn w6 p.d) p.os) fun e w' => e = .returned (.agg #[.bool true, .int .u64 S.q, .int .u64 S.b, .int .u64 S.i, .int .u64 S.e, .int .i64 S.u]) ∧ Below (grow (redrawn w6 p.d) p.os).heap.size (grow (redrawn w6 p.d) p.os) w') := Lib.hid (fun p => by
        have h := HLA.out (grow (redrawn w6 p.d) p.os) (HT6.out.on (below_regrown w6 p.d p.os))
        rw [h3, h4] at h
        exact h)
      clear HLA
      have D0 : ∀ p : Regrown, (grow (redrawn w6 p.d) p.os).cell? ⟨w.heap.size, 0, none⟩ = some (.string d.a) := fun p => cell_regrown d0 p.d p.os
      have F0 : ∀ p : Regrown, (grow (redrawn w6 p.d) p.os).cell? ⟨gf, 0, none⟩ = some (.bool true) := fun p => cell_regrown f0 p.d p.os
      have F1 : ∀ p : Regrown, (grow (redrawn w6 p.d) p.os).cell? ⟨gf, 1, none⟩ = some (.int .u64 S.q) := fun p => cell_regrown f1 p.d p.os
      have F2 : ∀ p : Regrown, (grow (redrawn w6 p.d) p.os).cell? ⟨gf, 2, none⟩ = some (.int .u64 S.b) := fun p => cell_regrown f2 p.d p.os
      have F3 : ∀ p : Regrown, (grow (redrawn w6 p.d) p.os).cell? ⟨gf, 3, none⟩ = some (.int .u64 S.i) := fun p => cell_regrown f3 p.d p.os
      have F4 : ∀ p : Regrown, (grow (redrawn w6 p.d) p.os).cell? ⟨gf, 4, none⟩ = some (.int .u64 S.e) := fun p => cell_regrown f4 p.d p.os
      have F5 : ∀ p : Regrown, (grow (redrawn w6 p.d) p.os).cell? ⟨gf, 5, none⟩ = some (.int .i64 S.u) := fun p => cell_regrown f5 p.d p.os
      clear HSs H3 HRR h5 hts h2 h3 h4
      refine q_enter (by kernel_rfl) (by kernel_rfl) ?_
      iterate 9 (refine q_step ?_; intro K hK; go_simp; first | (refine hK _ ?_; clear hK K) | (refine ⟨_, fun p => Calls.regrown_of (by with_reducible exact HP1.out p), hK _ ?_⟩; clear hK K))
      refine q_nil ?_
      intro wz hbz
      have HD7 := Lib.hid (HD6.out.on hbz)
      have HS7 := Lib.hid (HS6.out.on hbz)
      have HR7 := Lib.hid (HR6.out.on hbz)
      have HT7 := Lib.hid (HT6.out.on hbz)
      have HB7 := Lib.hid (HB6.out.trans (hbz.mono HB6.out.size))
      clear hbz HD6 HS6 HR6 HB6 HT6 HF6 D0 F0 F1 F2 F3 F4 F5 f0 f1 f2 f3 f4 f5 d0 d1 df s0 s1 s2 s3 s4 sf r0 r1 rf
      generalize wz = w7 at *
      have HR8 := Lib.hid (HR7.out.other (p := ⟨w.heap.size, 1, none⟩) (by show w.heap.size ≠ w.heap.size + 2; omega) (.string U))
      have HD8 := Lib.hid (HD7.out.putB U)
      have HB8 := Lib.hid (HB7.out.setCell (p := ⟨w.heap.size, 1, none⟩) (Nat.le_refl _) (.string U))
      obtain ⟨⟨d0, d1⟩, df⟩ := HD7.out
      clear HR7 HD7 HS7 HB7 HT7
      go_upto_region 14 with (fail)
      generalize w7.setCell ⟨w.heap.size, 1, none⟩ (.string U) = w8 at *
      clear d0 d1 df
      obtain ⟨⟨d0, d1⟩, df⟩ := HD8.out
      obtain ⟨⟨r0, r1⟩, rf⟩ := HR8.out
      try simp only at r0 r1 d0 d1
      have HF := Lib.hid (HR8.out.set ⟨d.a, U⟩)
      have HBf := Lib.hid (below_set2 HB8.out (show w.heap.size ≤ w.heap.size + 2 by omega) (.string (⟨d.a, U⟩ : Dk).a) (.string (⟨d.a, U⟩ : Dk).b))
      try simp only at HF HBf
      go_wp2_with fail
      clear d0 d1 df r0 r1 rf
      generalize hwf : World.setCell _ _ _ = wf
      rw [hwf] at HF HBf
      obtain ⟨⟨r0, r1⟩, rf⟩ := HF.out
      try simp only at r0 r1
      exact bodyPost_ret (v := .tuple #[.agg #[.string d.a, .string U], .int .i64 0]) (by simp [results, Tryd.results20, go_sem, r0, r1]) rfl ⟨by rw [HE.out], HBf.out⟩
    · rcases h3 with h3 | ⟨h3, hne⟩
      · have HE : Hid (R = ⟨U, d.b⟩) := Lib.hid (by rw [HRR.out]; exact h5 U)
        have HP1 : Hid (∀ p : Regrown, Calls Tryd.prog 34 #[.string d.a] (grow (redrawn w6 p.d) p.os) fun e w' => e = .returned (.agg #[.bool false, .int .u64 (parS d.a).q, .int .u64 (parS d.a).b, .int .u64 (parS d.a).i, .int .u64 (parS d.a).e, .int .i64 (parS d.a).u]) ∧ Below (grow (redrawn w6 p.d) p.os).heap.size (grow (redrawn w6 p.d) p.os) w') := Lib.hid (fun p => by
          have h := HLA.out (grow (redrawn w6 p.d) p.os) (HT6.out.on (below_regrown w6 p.d p.os))
          rw [h3] at h
          exact h)
        clear HLA h3
        generalize parS d.a = sa at *
        have D0 : ∀ p : Regrown, (grow (redrawn w6 p.d) p.os).cell? ⟨w.heap.size, 0, none⟩ = some (.string d.a) := fun p => cell_regrown d0 p.d p.os
        have F0 : ∀ p : Regrown, (grow (redrawn w6 p.d) p.os).cell? ⟨gf, 0, none⟩ = some (.bool true) := fun p => cell_regrown f0 p.d p.os
        have F1 : ∀ p : Regrown, (grow (redrawn w6 p.d) p.os).cell? ⟨gf, 1, none⟩ = some (.int .u64 S.q) := fun p => cell_regrown f1 p.d p.os
        have F2 : ∀ p : Regrown, (grow (redrawn w6 p.d) p.os).cell? ⟨gf, 2, none⟩ = some (.int .u64 S.b) := fun p => cell_regrown f2 p.d p.os
        have F3 : ∀ p : Regrown, (grow (redrawn w6 p.d) p.os).cell? ⟨gf, 3, none⟩ = some (.int .u64 S.i) := fun p => cell_regrown f3 p.d p.os
        have F4 : ∀ p : Regrown, (grow (redrawn w6 p.d) p.os).cell? ⟨gf, 4, none⟩ = some (.int .u64 S.e) := fun p => cell_regrown f4 p.d p.os
        have F5 : ∀ p : Regrown, (grow (redrawn w6 p.d) p.os).cell? ⟨gf, 5, none⟩ = some (.int .i64 S.u) := fun p => cell_regrown f5 p.d p.os
        clear HSs H3 HRR h5 hts h2
        refine q_enter (by kernel_rfl) (by kernel_rfl) ?_
        iterate 9 (refine q_step ?_; intro K hK; go_simp; first | (refine hK _ ?_; clear hK K) | (refine ⟨_, fun p => Calls.regrown_of (by with_reducible exact HP1.out p), hK _ ?_⟩; clear hK K))
        refine q_nil ?_
        intro wz hbz
        have HD7 := Lib.hid (HD6.out.on hbz)
        have HS7 := Lib.hid (HS6.out.on hbz)
        have HR7 := Lib.hid (HR6.out.on hbz)
        have HT7 := Lib.hid (HT6.out.on hbz)
        have HB7 := Lib.hid (HB6.out.trans (hbz.mono HB6.out.size))
        clear hbz HD6 HS6 HR6 HB6 HT6 HF6 D0 F0 F1 F2 F3 F4 F5 f0 f1 f2 f3 f4 f5 d0 d1 df s0 s1 s2 s3 s4 sf r0 r1 rf
        generalize wz = w7 at *
        have HR8 := Lib.hid (HR7.out.other (p := ⟨w.heap.size, 0, none⟩) (by show w.heap.size ≠ w.heap.size + 2; omega) (.string U))
        have HD8 := Lib.hid (HD7.out.putA U)
        have HB8 := Lib.hid (HB7.out.setCell (p := ⟨w.heap.size, 0, none⟩) (Nat.le_refl _) (.string U))
        obtain ⟨⟨d0, d1⟩, df⟩ := HD7.out
        clear HR7 HD7 HS7 HB7 HT7
        go_upto_region 14 with (fail)
        generalize w7.setCell ⟨w.heap.size, 0, none⟩ (.string U) = w8 at *
        clear d0 d1 df
        obtain ⟨⟨d0, d1⟩, df⟩ := HD8.out
        obtain ⟨⟨r0, r1⟩, rf⟩ := HR8.out
        try simp only at r0 r1 d0 d1
        have HF := Lib.hid (HR8.out.set ⟨U, d.b⟩)
        have HBf := Lib.hid (below_set2 HB8.out (show w.heap.size ≤ w.heap.size + 2 by omega) (.string (⟨U, d.b⟩ : Dk).a) (.string (⟨U, d.b⟩ : Dk).b))
        try simp only at HF HBf
        go_wp2_with fail
        clear d0 d1 df r0 r1 rf
        generalize hwf : World.setCell _ _ _ = wf
        rw [hwf] at HF HBf
        obtain ⟨⟨r0, r1⟩, rf⟩ := HF.out
        try simp only at r0 r1
        exact bodyPost_ret (v := .tuple #[.agg #[.string U, .string d.b], .int .i64 0]) (by simp [results, Tryd.results20, go_sem, r0, r1]) rfl ⟨by rw [HE.out], HBf.out⟩
      · have HE : Hid (R = ⟨U, d.b⟩) := Lib.hid (by rw [HRR.out]; exact h5 U)
        have HP1 : Hid (∀ p : Regrown, Calls Tryd.prog 34 #[.string d.a] (grow (redrawn w6 p.d) p.os) fun e w' => e = .returned (.agg #[.bool true, .int .u64 (parS d.a).q, .int .u64 (parS d.a).b, .int .u64 (parS d.a).i, .int .u64 (parS d.a).e, .int .i64 (parS d.a).u]) ∧ Below (grow (redrawn w6 p.d) p.os).heap.size (grow (redrawn w6 p.d) p.os) w') := Lib.hid (fun p => by
          have h := HLA.out (grow (redrawn w6 p.d) p.os) (HT6.out.on (below_regrown w6 p.d p.os))
          rw [h3] at h
          exact h)
        clear HLA h3
        generalize parS d.a = sa at *
        have D0 : ∀ p : Regrown, (grow (redrawn w6 p.d) p.os).cell? ⟨w.heap.size, 0, none⟩ = some (.string d.a) := fun p => cell_regrown d0 p.d p.os
        have F0 : ∀ p : Regrown, (grow (redrawn w6 p.d) p.os).cell? ⟨gf, 0, none⟩ = some (.bool true) := fun p => cell_regrown f0 p.d p.os
        have F1 : ∀ p : Regrown, (grow (redrawn w6 p.d) p.os).cell? ⟨gf, 1, none⟩ = some (.int .u64 S.q) := fun p => cell_regrown f1 p.d p.os
        have F2 : ∀ p : Regrown, (grow (redrawn w6 p.d) p.os).cell? ⟨gf, 2, none⟩ = some (.int .u64 S.b) := fun p => cell_regrown f2 p.d p.os
        have F3 : ∀ p : Regrown, (grow (redrawn w6 p.d) p.os).cell? ⟨gf, 3, none⟩ = some (.int .u64 S.i) := fun p => cell_regrown f3 p.d p.os
        have F4 : ∀ p : Regrown, (grow (redrawn w6 p.d) p.os).cell? ⟨gf, 4, none⟩ = some (.int .u64 S.e) := fun p => cell_regrown f4 p.d p.os
        have F5 : ∀ p : Regrown, (grow (redrawn w6 p.d) p.os).cell? ⟨gf, 5, none⟩ = some (.int .i64 S.u) := fun p => cell_regrown f5 p.d p.os
        clear HSs H3 HRR h5 hts h2
        refine q_enter (by kernel_rfl) (by kernel_rfl) ?_
        iterate 9 (refine q_step ?_; intro K hK; go_simp; first | (refine hK _ ?_; clear hK K) | (refine ⟨_, fun p => Calls.regrown_of (by with_reducible exact HP1.out p), hK _ ?_⟩; clear hK K))
        refine q_nil ?_
        intro wz hbz
        have HD7 := Lib.hid (HD6.out.on hbz)
        have HS7 := Lib.hid (HS6.out.on hbz)
        have HR7 := Lib.hid (HR6.out.on hbz)
        have HT7 := Lib.hid (HT6.out.on hbz)
        have HB7 := Lib.hid (HB6.out.trans (hbz.mono HB6.out.size))
        clear hbz HD6 HS6 HR6 HB6 HT6 HF6 D0 F0 F1 F2 F3 F4 F5 f0 f1 f2 f3 f4 f5 d0 d1 df s0 s1 s2 s3 s4 sf r0 r1 rf
        generalize wz = w7 at *
        have HR8 := Lib.hid (HR7.out.other (p := ⟨w.heap.size, 0, none⟩) (by show w.heap.size ≠ w.heap.size + 2; omega) (.string U))
        have HD8 := Lib.hid (HD7.out.putA U)
        have HB8 := Lib.hid (HB7.out.setCell (p := ⟨w.heap.size, 0, none⟩) (Nat.le_refl _) (.string U))
        obtain ⟨⟨d0, d1⟩, df⟩ := HD7.out
        clear HR7 HD7 HS7 HB7 HT7
        go_upto_region 14 with (fail)
        generalize w7.setCell ⟨w.heap.size, 0, none⟩ (.string U) = w8 at *
        clear d0 d1 df
        obtain ⟨⟨d0, d1⟩, df⟩ := HD8.out
        obtain ⟨⟨r0, r1⟩, rf⟩ := HR8.out
        try simp only at r0 r1 d0 d1
        have HF := Lib.hid (HR8.out.set ⟨U, d.b⟩)
        have HBf := Lib.hid (below_set2 HB8.out (show w.heap.size ≤ w.heap.size + 2 by omega) (.string (⟨U, d.b⟩ : Dk).a) (.string (⟨U, d.b⟩ : Dk).b))
        try simp only at HF HBf
        go_wp2_with fail
        clear d0 d1 df r0 r1 rf
        generalize hwf : World.setCell _ _ _ = wf
        rw [hwf] at HF HBf
        obtain ⟨⟨r0, r1⟩, rf⟩ := HF.out
        try simp only at r0 r1
        exact bodyPost_ret (v := .tuple #[.agg #[.string U, .string d.b], .int .i64 0]) (by simp [results, Tryd.results20, go_sem, r0, r1]) rfl ⟨by rw [HE.out], HBf.out⟩
  · have hcu : T.extract 0 c = U := by have h := HCU.out; rw [show (if c < T.size then c else T.size) = c by split <;> omega] at h; exact h
    have m1 : decide (T.size < c) = false := decide_eq_false hct
    clear HCU
    go_upto_region 11 with (fail)
    clear hcu m1 hct
    rcases H3.out with ⟨rfl, h5⟩ | ⟨rfl, h2, h3, h4, h5⟩ | ⟨rfl, h2, h3, h5⟩
    · have HE : Hid (R = ⟨U, d.b⟩) := Lib.hid (by rw [HRR.out]; exact h5 U)
      have D0 : ∀ p : Regrown, (grow (redrawn w6 p.d) p.os).cell? ⟨w.heap.size, 0, none⟩ = some (.string d.a) := fun p => cell_regrown d0 p.d p.os
      have F0 : ∀ p : Regrown, (grow (redrawn w6 p.d) p.os).cell? ⟨gf, 0, none⟩ = some (.bool false) := fun p => cell_regrown f0 p.d p.os
      have F1 : ∀ p : Regrown, (grow (redrawn w6 p.d) p.os).cell? ⟨gf, 1, none⟩ = some (.int .u64 S.q) := fun p => cell_regrown f1 p.d p.os
      have F2 : ∀ p : Regrown, (grow (redrawn w6 p.d) p.os).cell? ⟨gf, 2, none⟩ = some (.int .u64 S.b) := fun p => cell_regrown f2 p.d p.os
      have F3 : ∀ p : Regrown, (grow (redrawn w6 p.d) p.os).cell? ⟨gf, 3, none⟩ = some (.int .u64 S.i) := fun p => cell_regrown f3 p.d p.os
      have F4 : ∀ p : Regrown, (grow (redrawn w6 p.d) p.os).cell? ⟨gf, 4, none⟩ = some (.int .u64 S.e) := fun p => cell_regrown f4 p.d p.os
      have F5 : ∀ p : Regrown, (grow (redrawn w6 p.d) p.os).cell? ⟨gf, 5, none⟩ = some (.int .i64 S.u) := fun p => cell_regrown f5 p.d p.os
      clear HSs H3 HRR h5 hts
      refine q_enter (by kernel_rfl) (by kernel_rfl) ?_
      iterate 9 (refine q_step ?_; intro K hK; go_simp; refine hK _ ?_; clear hK K)
      refine q_nil ?_
      intro wz hbz
      have HD7 := Lib.hid (HD6.out.on hbz)
      have HS7 := Lib.hid (HS6.out.on hbz)
      have HR7 := Lib.hid (HR6.out.on hbz)
      have HT7 := Lib.hid (HT6.out.on hbz)
      have HB7 := Lib.hid (HB6.out.trans (hbz.mono HB6.out.size))
      clear hbz HD6 HS6 HR6 HB6 HT6 HF6 D0 F0 F1 F2 F3 F4 F5 f0 f1 f2 f3 f4 f5 d0 d1 df s0 s1 s2 s3 s4 sf r0 r1 rf
      generalize wz = w7 at *
      have HR8 := Lib.hid (HR7.out.other (p := ⟨w.heap.size, 0, none⟩) (by show w.heap.size ≠ w.heap.size + 2; omega) (.string U))
      have HD8 := Lib.hid (HD7.out.putA U)
      have HB8 := Lib.hid (HB7.out.setCell (p := ⟨w.heap.size, 0, none⟩) (Nat.le_refl _) (.string U))
      obtain ⟨⟨d0, d1⟩, df⟩ := HD7.out
      clear HR7 HD7 HS7 HB7 HT7
      go_upto_region 14 with (fail)
      generalize w7.setCell ⟨w.heap.size, 0, none⟩ (.string U) = w8 at *
      clear d0 d1 df
      obtain ⟨⟨d0, d1⟩, df⟩ := HD8.out
      obtain ⟨⟨r0, r1⟩, rf⟩ := HR8.out
      try simp only at r0 r1 d0 d1
      have HF := Lib.hid (HR8.out.set ⟨U, d.b⟩)
      have HBf := Lib.hid (below_set2 HB8.out (show w.heap.size ≤ w.heap.size + 2 by omega) (.string (⟨U, d.b⟩ : Dk).a) (.string (⟨U, d.b⟩ : Dk).b))
      try simp only at HF HBf
      go_wp2_with fail
      clear d0 d1 df r0 r1 rf
      generalize hwf : World.setCell _ _ _ = wf
      rw [hwf] at HF HBf
      obtain ⟨⟨r0, r1⟩, rf⟩ := HF.out
      try simp only at r0 r1
      exact bodyPost_ret (v := .tuple #[.agg #[.string U, .string d.b], .int .i64 0]) (by simp [results, Tryd.results20, go_sem, r0, r1]) rfl ⟨by rw [HE.out], HBf.out⟩
    · have HE : Hid (R = ⟨d.a, U⟩) := Lib.hid (by rw [HRR.out]; exact h5 U)
      have HP1 : Hid (∀ p : Regrown, Calls Tryd.prog 34 #[.string d.a] (grow (redrawn w6 p.d) p.os) fun e w' => e = .returned (.agg #[.bool true, .int .u64 S.q, .int .u64 S.b, .int .u64 S.i, .int .u64 S.e, .int .i64 S.u]) ∧ Below (grow (redrawn w6 p.d) p.os).heap.size (grow (redrawn w6 p.d) p.os) w') := Lib.hid (fun p => by
        have h := HLA.out (grow (redrawn w6 p.d) p.os) (HT6.out.on (below_regrown w6 p.d p.os))
        rw [h3, h4] at h
        exact h)
      clear HLA
      have D0 : ∀ p : Regrown, (grow (redrawn w6 p.d) p.os).cell? ⟨w.heap.size, 0, none⟩ = some (.string d.a) := fun p => cell_regrown d0 p.d p.os
      have F0 : ∀ p : Regrown, (grow (redrawn w6 p.d) p.os).cell? ⟨gf, 0, none⟩ = some (.bool true) := fun p => cell_regrown f0 p.d p.os
      have F1 : ∀ p : Regrown, (grow (redrawn w6 p.d) p.os).cell? ⟨gf, 1, none⟩ = some (.int .u64 S.q) := fun p => cell_regrown f1 p.d p.os
      have F2 : ∀ p : Regrown, (grow (redrawn w6 p.d) p.os).cell? ⟨gf, 2, none⟩ = some (.int .u64 S.b) := fun p => cell_regrown f2 p.d p.os
      have F3 : ∀ p : Regrown, (grow (redrawn w6 p.d) p.os).cell? ⟨gf, 3, none⟩ = some (.int .u64 S.i) := fun p => cell_regrown f3 p.d p.os
      have F4 : ∀ p : Regrown, (grow (redrawn w6 p.d) p.os).cell? ⟨gf, 4, none⟩ = some (.int .u64 S.e) := fun p => cell_regrown f4 p.d p.os
      have F5 : ∀ p : Regrown, (grow (redrawn w6 p.d) p.os).cell? ⟨gf, 5, none⟩ = some (.int .i64 S.u) := fun p => cell_regrown f5 p.d p.os
      clear HSs H3 HRR h5 hts h2 h3 h4
      refine q_enter (by kernel_rfl) (by kernel_rfl) ?_
      iterate 9 (refine q_step ?_; intro K hK; go_simp; first | (refine hK _ ?_; clear hK K) | (refine ⟨_, fun p => Calls.regrown_of (by with_reducible exact HP1.out p), hK _ ?_⟩; clear hK K))
      refine q_nil ?_
      intro wz hbz
      have HD7 := Lib.hid (HD6.out.on hbz)
      have HS7 := Lib.hid (HS6.out.on hbz)
      have HR7 := Lib.hid (HR6.out.on hbz)
      have HT7 := Lib.hid (HT6.out.on hbz)
      have HB7 := Lib.hid (HB6.out.trans (hbz.mono HB6.out.size))
      clear hbz HD6 HS6 HR6 HB6 HT6 HF6 D0 F0 F1 F2 F3 F4 F5 f0 f1 f2 f3 f4 f5 d0 d1 df s0 s1 s2 s3 s4 sf r0 r1 rf
      generalize wz = w7 at *
      have HR8 := Lib.hid (HR7.out.other (p := ⟨w.heap.size, 1, none⟩) (by show w.heap.size ≠ w.heap.size + 2; omega) (.string U))
      have HD8 := Lib.hid (HD7.out.putB U)
      have HB8 := Lib.hid (HB7.out.setCell (p := ⟨w.heap.size, 1, none⟩) (Nat.le_refl _) (.string U))
      obtain ⟨⟨d0, d1⟩, df⟩ := HD7.out
      clear HR7 HD7 HS7 HB7 HT7
      go_upto_region 14 with (fail)
      generalize w7.setCell ⟨w.heap.size, 1, none⟩ (.string U) = w8 at *
      clear d0 d1 df
      obtain ⟨⟨d0, d1⟩, df⟩ := HD8.out
      obtain ⟨⟨r0, r1⟩, rf⟩ := HR8.out
      try simp only at r0 r1 d0 d1
      have HF := Lib.hid (HR8.out.set ⟨d.a, U⟩)
      have HBf := Lib.hid (below_set2 HB8.out (show w.heap.size ≤ w.heap.size + 2 by omega) (.string (⟨d.a, U⟩ : Dk).a) (.string (⟨d.a, U⟩ : Dk).b))
      try simp only at HF HBf
      go_wp2_with fail
      clear d0 d1 df r0 r1 rf
      generalize hwf : World.setCell _ _ _ = wf
      rw [hwf] at HF HBf
      obtain ⟨⟨r0, r1⟩, rf⟩ := HF.out
      try simp only at r0 r1
      exact bodyPost_ret (v := .tuple #[.agg #[.string d.a, .string U], .int .i64 0]) (by simp [results, Tryd.results20, go_sem, r0, r1]) rfl ⟨by rw [HE.out], HBf.out⟩
    · rcases h3 with h3 | ⟨h3, hne⟩
      · have HE : Hid (R = ⟨U, d.b⟩) := Lib.hid (by rw [HRR.out]; exact h5 U)
        have HP1 : Hid (∀ p : Regrown, Calls Tryd.prog 34 #[.string d.a] (grow (redrawn w6 p.d) p.os) fun e w' => e = .returned (.agg #[.bool false, .int .u64 (parS d.a).q, .int .u64 (parS d.a).b, .int .u64 (parS d.a).i, .int .u64 (parS d.a).e, .int .i64 (parS d.a).u]) ∧ Below (grow (redrawn w6 p.d) p.os).heap.size (grow (redrawn w6 p.d) p.os) w') := Lib.hid (fun p => by
          have h := HLA.out (grow (redrawn w6 p.d) p.os) (HT6.out.on (below_regrown w6 p.d p.os))
          rw [h3] at h
          exact h)
        clear HLA h3
        generalize parS d.a = sa at *
        have D0 : ∀ p : Regrown, (grow (redrawn w6 p.d) p.os).cell? ⟨w.heap.size, 0, none⟩ = some (.string d.a) := fun p => cell_regrown d0 p.d p.os
        have F0 : ∀ p : Regrown, (grow (redrawn w6 p.d) p.os).cell? ⟨gf, 0, none⟩ = some (.bool true) := fun p => cell_regrown f0 p.d p.os
        have F1 : ∀ p : Regrown, (grow (redrawn w6 p.d) p.os).cell? ⟨gf, 1, none⟩ = some (.int .u64 S.q) := fun p => cell_regrown f1 p.d p.os
        have F2 : ∀ p : Regrown, (grow (redrawn w6 p.d) p.os).cell? ⟨gf, 2, none⟩ = some (.int .u64 S.b) := fun p => cell_regrown f2 p.d p.os
        have F3 : ∀ p : Regrown, (grow (redrawn w6 p.d) p.os).cell? ⟨gf, 3, none⟩ = some (.int .u64 S.i) := fun p => cell_regrown f3 p.d p.os
        have F4 : ∀ p : Regrown, (grow (redrawn w6 p.d) p.os).cell? ⟨gf, 4, none⟩ = some (.int .u64 S.e) := fun p => cell_regrown f4 p.d p.os
        have F5 : ∀ p : Regrown, (grow (redrawn w6 p.d) p.os).cell? ⟨gf, 5, none⟩ = some (.int .i64 S.u) := fun p => cell_regrown f5 p.d p.os
        clear HSs H3 HRR h5 hts h2
        refine q_enter (by kernel_rfl) (by kernel_rfl) ?_
        iterate 9 (refine q_step ?_; intro K hK; go_simp; first | (refine hK _ ?_; clear hK K) | (refine ⟨_, fun p => Calls.regrown_of (by with_reducible exact HP1.out p), hK _ ?_⟩; clear hK K))
        refine q_nil ?_
        intro wz hbz
        have HD7 := Lib.hid (HD6.out.on hbz)
        have HS7 := Lib.hid (HS6.out.on hbz)
        have HR7 := Lib.hid (HR6.out.on hbz)
        have HT7 := Lib.hid (HT6.out.on hbz)
        have HB7 := Lib.hid (HB6.out.trans (hbz.mono HB6.out.size))
        clear hbz HD6 HS6 HR6 HB6 HT6 HF6 D0 F0 F1 F2 F3 F4 F5 f0 f1 f2 f3 f4 f5 d0 d1 df s0 s1 s2 s3 s4 sf r0 r1 rf
        generalize wz = w7 at *
        have HR8 := Lib.hid (HR7.out.other (p := ⟨w.heap.size, 0, none⟩) (by show w.heap.size ≠ w.heap.size + 2; omega) (.string U))
        have HD8 := Lib.hid (HD7.out.putA U)
        have HB8 := Lib.hid (HB7.out.setCell (p := ⟨w.heap.size, 0, none⟩) (Nat.le_refl _) (.string U))
        obtain ⟨⟨d0, d1⟩, df⟩ := HD7.out
        clear HR7 HD7 HS7 HB7 HT7
        go_upto_region 14 with (fail)
        generalize w7.setCell ⟨w.heap.size, 0, none⟩ (.string U) = w8 at *
        clear d0 d1 df
        obtain ⟨⟨d0, d1⟩, df⟩ := HD8.out
        obtain ⟨⟨r0, r1⟩, rf⟩ := HR8.out
        try simp only at r0 r1 d0 d1
        have HF := Lib.hid (HR8.out.set ⟨U, d.b⟩)
        have HBf := Lib.hid (below_set2 HB8.out (show w.heap.size ≤ w.heap.size + 2 by omega) (.string (⟨U, d.b⟩ : Dk).a) (.string (⟨U, d.b⟩ : Dk).b))
        try simp only at HF HBf
        go_wp2_with fail
        clear d0 d1 df r0 r1 rf
        generalize hwf : World.setCell _ _ _ = wf
        rw [hwf] at HF HBf
        obtain ⟨⟨r0, r1⟩, rf⟩ := HF.out
        try simp only at r0 r1
        exact bodyPost_ret (v := .tuple #[.agg #[.string U, .string d.b], .int .i64 0]) (by simp [results, Tryd.results20, go_sem, r0, r1]) rfl ⟨by rw [HE.out], HBf.out⟩
      · have HE : Hid (R = ⟨U, d.b⟩) := Lib.hid (by rw [HRR.out]; exact h5 U)
        have HP1 : Hid (∀ p : Regrown, Calls Tryd.prog 34 #[.string d.a] (grow (redrawn w6 p.d) p.os) fun e w' => e = .returned (.agg #[.bool true, .int .u64 (parS d.a).q, .int .u64 (parS d.a).b, .int .u64 (parS d.a).i, .int .u64 (parS d.a).e, .int .i64 (parS d.a).u]) ∧ Below (grow (redrawn w6 p.d) p.os).heap.size (grow (redrawn w6 p.d) p.os) w') := Lib.hid (fun p => by
          have h := HLA.out (grow (redrawn w6 p.d) p.os) (HT6.out.on (below_regrown w6 p.d p.os))
          rw [h3] at h
          exact h)
        clear HLA h3
        generalize parS d.a = sa at *
        have D0 : ∀ p : Regrown, (grow (redrawn w6 p.d) p.os).cell? ⟨w.heap.size, 0, none⟩ = some (.string d.a) := fun p => cell_regrown d0 p.d p.os
        have F0 : ∀ p : Regrown, (grow (redrawn w6 p.d) p.os).cell? ⟨gf, 0, none⟩ = some (.bool true) := fun p => cell_regrown f0 p.d p.os
        have F1 : ∀ p : Regrown, (grow (redrawn w6 p.d) p.os).cell? ⟨gf, 1, none⟩ = some (.int .u64 S.q) := fun p => cell_regrown f1 p.d p.os
        have F2 : ∀ p : Regrown, (grow (redrawn w6 p.d) p.os).cell? ⟨gf, 2, none⟩ = some (.int .u64 S.b) := fun p => cell_regrown f2 p.d p.os
        have F3 : ∀ p : Regrown, (grow (redrawn w6 p.d) p.os).cell? ⟨gf, 3, none⟩ = some (.int .u64 S.i) := fun p => cell_regrown f3 p.d p.os
        have F4 : ∀ p : Regrown, (grow (redrawn w6 p.d) p.os).cell? ⟨gf, 4, none⟩ = some (.int .u64 S.e) := fun p => cell_regrown f4 p.d p.os
        have F5 : ∀ p : Regrown, (grow (redrawn w6 p.d) p.os).cell? ⟨gf, 5, none⟩ = some (.int .i64 S.u) := fun p => cell_regrown f5 p.d p.os
        clear HSs H3 HRR h5 hts h2
        refine q_enter (by kernel_rfl) (by kernel_rfl) ?_
        iterate 9 (refine q_step ?_; intro K hK; go_simp; first | (refine hK _ ?_; clear hK K) | (refine ⟨_, fun p => Calls.regrown_of (by with_reducible exact HP1.out p), hK _ ?_⟩; clear hK K))
        refine q_nil ?_
        intro wz hbz
        have HD7 := Lib.hid (HD6.out.on hbz)
        have HS7 := Lib.hid (HS6.out.on hbz)
        have HR7 := Lib.hid (HR6.out.on hbz)
        have HT7 := Lib.hid (HT6.out.on hbz)
        have HB7 := Lib.hid (HB6.out.trans (hbz.mono HB6.out.size))
        clear hbz HD6 HS6 HR6 HB6 HT6 HF6 D0 F0 F1 F2 F3 F4 F5 f0 f1 f2 f3 f4 f5 d0 d1 df s0 s1 s2 s3 s4 sf r0 r1 rf
        generalize wz = w7 at *
        have HR8 := Lib.hid (HR7.out.other (p := ⟨w.heap.size, 0, none⟩) (by show w.heap.size ≠ w.heap.size + 2; omega) (.string U))
        have HD8 := Lib.hid (HD7.out.putA U)
        have HB8 := Lib.hid (HB7.out.setCell (p := ⟨w.heap.size, 0, none⟩) (Nat.le_refl _) (.string U))
        obtain ⟨⟨d0, d1⟩, df⟩ := HD7.out
        clear HR7 HD7 HS7 HB7 HT7
        go_upto_region 14 with (fail)
        generalize w7.setCell ⟨w.heap.size, 0, none⟩ (.string U) = w8 at *
        clear d0 d1 df
        obtain ⟨⟨d0, d1⟩, df⟩ := HD8.out
        obtain ⟨⟨r0, r1⟩, rf⟩ := HR8.out
        try simp only at r0 r1 d0 d1
        have HF := Lib.hid (HR8.out.set ⟨U, d.b⟩)
        have HBf := Lib.hid (below_set2 HB8.out (show w.heap.size ≤ w.heap.size + 2 by omega) (.string (⟨U, d.b⟩ : Dk).a) (.string (⟨U, d.b⟩ : Dk).b))
        try simp only at HF HBf
        go_wp2_with fail
        clear d0 d1 df r0 r1 rf
        generalize hwf : World.setCell _ _ _ = wf
        rw [hwf] at HF HBf
        obtain ⟨⟨r0, r1⟩, rf⟩ := HF.out
        try simp only at r0 r1
        exact bodyPost_ret (v := .tuple #[.agg #[.string U, .string d.b], .int .i64 0]) (by simp [results, Tryd.results20, go_sem, r0, r1]) rfl ⟨by rw [HE.out], HBf.out⟩
end Go.Proofs.YtlpnhpnigljlnaaDoor
