/-
  The walks of Lay, of the program and of the document.
-/
import Derived.Test.YtlpnhpnigljlnaaDoorMd
namespace Go.Proofs.YtlpnhpnigljlnaaDoor
open Go.RowKit Go.Proofs.YtlpnhpnigljlnaaDoor.Pure Go.Proofs.YtlpnhpnigljlnaaDoor.Crc

/-- Five numbers just put into a block. -/
theorem five_new (W : World) (a b c d e : Nat) (t : TypeId) : Nums64 (W.alloc (.cells #[.int .u64 a, .int .u64 b, .int .u64 c, .int .u64 d, .int .u64 e] t)) (some ⟨W.heap.size, 0, none⟩) [a, b, c, d, e] := fun j hj => by
  refine ⟨⟨W.heap.size, 0, none⟩, rfl, by simp, ?_⟩
  match j, hj with
  | 0, _ => go_simp
  | 1, _ => go_simp
  | 2, _ => go_simp
  | 3, _ => go_simp
  | 4, _ => go_simp
theorem one_new (W : World) (a : Nat) (t : TypeId) : (W.alloc (.cells #[.int .u64 a] t)).cell? ⟨W.heap.size, 0, none⟩ = some (.int .u64 a) := by go_simp
/-- The numbers of what may be saved. -/
theorem nat_of {s : Sv} (o : SvO s) : ∃ q b i e n : Nat, s.q = (q : Int) ∧ s.b = (b : Int) ∧ s.i = (i : Int) ∧ s.e = (e : Int) ∧ s.u = (n : Int) - 1 ∧ n ≤ 64 ∧ q < 2 ^ 64 ∧ b < 2 ^ 64 ∧ i < 2 ^ 64 ∧ e < 2 ^ 64 ∧ nums [q, b, i, e, n] = bodD s := by
  have oq := o.q; have ob := o.b; have oi := o.i; have oe := o.e; have ot := o.u
  exact ⟨s.q.toNat, s.b.toNat, s.i.toNat, s.e.toNat, (s.u + 1).toNat, by omega, by omega, by omega, by omega, by omega, by omega, by omega, by omega, by omega, by omega, bodD_nums s⟩
theorem bod_size (s : Sv) : (⟨(bodD s).toArray⟩ : ByteArray).size = (bodD s).length := by simp [ByteArray.size]
theorem lay_join (s : Sv) : sealB ((⟨(num (bodD s).length).toArray⟩ : ByteArray) ++ ⟨(bodD s).toArray⟩) = layC s := by
  rw [nums_join, ← layC_is]
  rfl
set_option maxRecDepth 100000 in
set_option maxHeartbeats 1000000 in
theorem lay_no (s : Sv) (w : World) (hm : mayB s = false) : Calls Tryd.prog 14 #[.agg #[.int .u64 s.q, .int .u64 s.b, .int .u64 s.i, .int .u64 s.e, .int .i64 s.u]] w fun e w' => e = .returned (.tuple #[.string ⟨#[]⟩, .int .i64 1]) ∧ Below w.heap.size w w' := by
  have HM := Lib.hid (fun W => may_any s W)
  rw [hm] at HM
  have HB1 : Hid (Below w.heap.size w (w.alloc (.cells #[.int .u64 s.q, .int .u64 s.b, .int .u64 s.i, .int .u64 s.e, .int .i64 s.u] 26))) := Lib.hid ((Below.refl _ _).alloc (Nat.le_refl _) _)
  have HS1 := Lib.hid (SvA.new w s 26)
  clear hm
  go_enter Tryd.func14, Tryd.ntmps14
  go_upto_region 1 with (fail)
  generalize w.alloc (.cells #[.int .u64 s.q, .int .u64 s.b, .int .u64 s.i, .int .u64 s.e, .int .i64 s.u] 26) = w1 at *
  obtain ⟨a0, a1, a2, a3, a4⟩ := HS1.out
  go_wp2_with fail
  refine (HM.out _).mono ?_
  rintro e w2 ⟨rfl, hb2⟩
  go_wp2_with fail
  go_ret2
  exact ⟨rfl, HB1.out.trans (hb2.mono HB1.out.size)⟩
set_option maxRecDepth 100000 in
set_option maxHeartbeats 1000000 in
theorem lay_yes (s : Sv) (w : World) (o : SvO s) (ht : Tab w) : Calls Tryd.prog 14 #[.agg #[.int .u64 s.q, .int .u64 s.b, .int .u64 s.i, .int .u64 s.e, .int .i64 s.u]] w fun e w' => e = .returned (.tuple #[.string (layC s), .int .i64 0]) ∧ Below w.heap.size w w' := by
  have HM := Lib.hid (fun W => may_any s W)
  rw [o.may] at HM
  have HB1 : Hid (Below w.heap.size w (w.alloc (.cells #[.int .u64 s.q, .int .u64 s.b, .int .u64 s.i, .int .u64 s.e, .int .i64 s.u] 26))) := Lib.hid ((Below.refl _ _).alloc (Nat.le_refl _) _)
  have HS1 := Lib.hid (SvA.new w s 26)
  obtain ⟨q, b, i, e, n, eq, eb, ei, ee, en, hn, hq, hb, hi, he, hnums⟩ := nat_of o
  have HT1 := Lib.hid (ht.on HB1.out)
  have hl := bodD_len s
  have HN := Lib.hid (fun (W : World) => num_any (some ⟨W.heap.size, 0, none⟩) 5 [q, b, i, e, n] (W.alloc (.cells #[.int .u64 q, .int .u64 b, .int .u64 i, .int .u64 e, .int .u64 n] 24)) (by simp) (by intro z hz; simp only [List.mem_cons, List.not_mem_nil, or_false] at hz; omega) (five_new W q b i e n _))
  rw [hnums] at HN
  have HO := Lib.hid (fun (W : World) => num_one (bodD s).length W.heap.size (W.alloc (.cells #[.int .u64 ((bodD s).length : Nat)] 24)) (by omega) (by simp) (one_new W (bodD s).length _))
  have hz1 := bod_size s
  have hz2 := num_le (bodD s).length
  have hz3 : (⟨(num (bodD s).length).toArray⟩ : ByteArray).size = (num (bodD s).length).length := by simp [ByteArray.size]
  have HS := Lib.hid (fun (W : World) (hT : Tab W) => seal_in ((⟨(num (bodD s).length).toArray⟩ : ByteArray) ++ ⟨(bodD s).toArray⟩) W (by rw [ByteArray.size_append]; omega) hT)
  rw [lay_join] at HS
  generalize layC s = R at *
  have hz4 : (⟨(num (bodD s).length).toArray⟩ : ByteArray).size ≤ 10 := by omega
  generalize (⟨(num (bodD s).length).toArray⟩ : ByteArray) = N at *
  generalize (⟨(bodD s).toArray⟩ : ByteArray) = B at *
  rw [← hz1] at HO hl
  clear hz1 hz2 hz3 hnums o ht
  have hd1 : IntKind.i64.wrap ((n : Int) - 1 + 1) = (n : Int) := by rw [IntWalk.i64_in _ (by omega)]; omega
  have hd2 : IntKind.u64.wrap (n : Int) = (n : Int) := IntWalk.u64_in _ (by omega)
  have hd3 : IntKind.u64.wrap (B.size : Int) = (B.size : Int) := IntWalk.u64_in _ (by omega)
  rw [eq, eb, ei, ee, en] at HM HB1 HS1 HT1
  obtain ⟨Q, Bb, I, E, T⟩ := s
  simp only at eq eb ei ee en
  subst eq eb ei ee en
  go_enter Tryd.func14, Tryd.ntmps14
  go_upto_region 1 with (fail)
  generalize w.alloc (.cells #[.int .u64 (q : Int), .int .u64 (b : Int), .int .u64 (i : Int), .int .u64 (e : Int), .int .i64 ((n : Int) - 1)] 26) = w1 at *
  obtain ⟨a0, a1, a2, a3, a4⟩ := HS1.out
  simp only at a0 a1 a2 a3 a4
  go_wp2_with fail
  refine (HM.out _).mono ?_
  rintro e w2 ⟨rfl, hb2⟩
  have HB2 := Lib.hid (HB1.out.trans (hb2.mono HB1.out.size))
  have HT2 := Lib.hid (HT1.out.on hb2)
  obtain ⟨a0, a1, a2, a3, a4⟩ := HS1.out.on hb2
  simp only at a0 a1 a2 a3 a4
  clear hb2 HM HS1
  go_wp2_with fail
  refine (HN.out _).mono ?_
  rintro e w3 ⟨rfl, hb3⟩
  have hb3' : Below w2.heap.size w2 w3 := ((Below.refl _ _).alloc (Nat.le_refl _) _).trans (hb3.mono (by simp))
  have HB3 := Lib.hid (HB2.out.trans (hb3'.mono HB2.out.size))
  have HT3 := Lib.hid (HT2.out.on hb3')
  clear hb3 hb3' HN a0 a1 a2 a3 a4
  go_wp2_with fail
  refine (HO.out _).mono ?_
  rintro e w4 ⟨rfl, hb4⟩
  have hb4' : Below w3.heap.size w3 w4 := ((Below.refl _ _).alloc (Nat.le_refl _) _).trans (hb4.mono (by simp))
  have HB4 := Lib.hid (HB3.out.trans (hb4'.mono HB3.out.size))
  have HT4 := Lib.hid (HT3.out.on hb4')
  clear hb4 hb4' HO
  go_wp2_with fail
  refine (HS.out _ HT4.out).mono ?_
  rintro e w5 ⟨rfl, hb5⟩
  go_wp2_with fail
  go_ret2
  exact ⟨rfl, HB4.out.trans (hb5.mono HB4.out.size)⟩
set_option maxRecDepth 100000 in
set_option maxHeartbeats 1000000 in
theorem rlay_yes (s : Sv) (w : World) (o : SvO s) : Calls Tryd.prog 17 #[.agg #[.int .u64 s.q, .int .u64 s.b, .int .u64 s.i, .int .u64 s.e, .int .i64 s.u]] w fun e w' => e = .returned (.string (layC s)) ∧ Below w.heap.size w w' := by
  have HB1 : Hid (Below w.heap.size w (w.alloc (.cells #[.int .u64 s.q, .int .u64 s.b, .int .u64 s.i, .int .u64 s.e, .int .i64 s.u] 26))) := Lib.hid ((Below.refl _ _).alloc (Nat.le_refl _) _)
  have HS1 := Lib.hid (SvA.new w s 26)
  obtain ⟨q, b, i, e, n, eq, eb, ei, ee, en, hn, hq, hb, hi, he, hnums⟩ := nat_of o
  have hl := bodD_len s
  have HN := Lib.hid (fun (W : World) => rnums_any (some ⟨W.heap.size, 0, none⟩) 5 [q, b, i, e, n] (W.alloc (.cells #[.int .u64 q, .int .u64 b, .int .u64 i, .int .u64 e, .int .u64 n] 24)) (by simp) (by intro z hz; simp only [List.mem_cons, List.not_mem_nil, or_false] at hz; omega) (five_new W q b i e n _))
  rw [hnums] at HN
  have HO := Lib.hid (fun (W : World) => rnum_one (bodD s).length W (by omega))
  have hz1 := bod_size s
  have hz2 := num_le (bodD s).length
  have hz3 : (⟨(num (bodD s).length).toArray⟩ : ByteArray).size = (num (bodD s).length).length := by simp [ByteArray.size]
  have HS := Lib.hid (fun (W : World) => rseal_any ((⟨(num (bodD s).length).toArray⟩ : ByteArray) ++ ⟨(bodD s).toArray⟩) W (by rw [ByteArray.size_append]; omega))
  rw [lay_join] at HS
  generalize layC s = R at *
  have hz4 : (⟨(num (bodD s).length).toArray⟩ : ByteArray).size ≤ 10 := by omega
  generalize (⟨(num (bodD s).length).toArray⟩ : ByteArray) = N at *
  generalize (⟨(bodD s).toArray⟩ : ByteArray) = B at *
  rw [← hz1] at HO hl
  clear hz1 hz2 hz3 hnums o
  have hd1 : IntKind.i64.wrap ((n : Int) - 1 + 1) = (n : Int) := by rw [IntWalk.i64_in _ (by omega)]; omega
  have hd2 : IntKind.u64.wrap (n : Int) = (n : Int) := IntWalk.u64_in _ (by omega)
  have hd3 : IntKind.u64.wrap (B.size : Int) = (B.size : Int) := IntWalk.u64_in _ (by omega)
  rw [eq, eb, ei, ee, en] at HB1 HS1
  obtain ⟨Q, Bb, I, E, T⟩ := s
  simp only at eq eb ei ee en
  subst eq eb ei ee en
  go_enter Tryd.func17, Tryd.ntmps17
  go_upto_region 1 with (fail)
  generalize w.alloc (.cells #[.int .u64 (q : Int), .int .u64 (b : Int), .int .u64 (i : Int), .int .u64 (e : Int), .int .i64 ((n : Int) - 1)] 26) = w2 at *
  obtain ⟨a0, a1, a2, a3, a4⟩ := HS1.out
  simp only at a0 a1 a2 a3 a4
  go_wp2_with fail
  refine (HN.out _).mono ?_
  rintro e w3 ⟨rfl, hb3⟩
  have hb3' : Below w2.heap.size w2 w3 := ((Below.refl _ _).alloc (Nat.le_refl _) _).trans (hb3.mono (by simp))
  have HB3 := Lib.hid (HB1.out.trans (hb3'.mono HB1.out.size))
  clear hb3 hb3' HN a0 a1 a2 a3 a4 HS1
  go_wp2_with fail
  refine (HO.out _).mono ?_
  rintro e w4 ⟨rfl, hb4⟩
  have HB4 := Lib.hid (HB3.out.trans (hb4.mono HB3.out.size))
  clear hb4 HO
  go_wp2_with fail
  refine (HS.out _).mono ?_
  rintro e w5 ⟨rfl, hb5⟩
  go_wp2_with fail
  go_ret
  exact ⟨rfl, HB4.out.trans (hb5.mono HB4.out.size)⟩
end Go.Proofs.YtlpnhpnigljlnaaDoor
