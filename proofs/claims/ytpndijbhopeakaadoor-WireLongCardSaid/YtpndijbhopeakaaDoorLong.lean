/-
  WireLong: a number's octets are as many as its bits in groups of seven, a greater number has no fewer, and cut off they are too short: the law returns true for every input.
-/
import Derived.Test.YtpndijbhopeakaaDoorLaw
import Derived.Test.YtpndijbhopeakaaDoorBack
import Derived.Test.YtpndijbhopeakaaDoorAwake
import Derived.Test.YtpndijbhopeakaaDoorTake
import Derived.Test.YtpndijbhopeakaaDoorNum
import Derived.Test.YtpndijbhopeakaaDoorCards
import Derived.Test.YtpndijbhopeakaaDoorTie
import Derived.WalkLawsBesides
namespace Go.Proofs.YtpndijbhopeakaaDoor.lawLong
open Go.ChangeShapes Go.WideShapes Go.ChangeAt Go.RowKit Go.Proofs.YtpndijbhopeakaaDoor.Pure Go.Proofs.YtpndijbhopeakaaDoor.Crc

theorem pow_int (k : Nat) : (2 : Int) ^ (7 * k) = ((128 ^ k : Nat) : Int) := by rw [pow_128]; norm_cast
theorem out_zero (m B : Nat) (h : m < 128 ^ B) : (m : Int) / 2 ^ (7 * B) ≤ 0 := by
  rw [pow_int, ← Int.natCast_ediv, Nat.div_eq_of_lt h]; simp
theorem in_some (m B : Nat) (h : 128 ^ (B - 1) ≤ m) : ((m : Int) / 2 ^ (7 * (B - 1)) == 0) = false := by
  rw [pow_int, ← Int.natCast_ediv, beq_eq_false_iff_ne]
  have h1 : 0 < m / 128 ^ (B - 1) := Nat.div_pos h (Nat.pow_pos (by decide))
  omega
theorem mod_in (c B : Nat) (h : 1 ≤ B) : 0 ≤ (c : Int) % (B : Int) ∧ (c : Int) % (B : Int) ≤ (B : Int) := by
  have h1 := Nat.mod_lt c h
  rw [← Int.natCast_emod]; omega

/-- What is cut off is too short. -/
theorem cut_short (m j : Nat) (ub : ByteArray) (hu : ub = ⟨(num m).toArray⟩) (hj : j < ub.size) (h10 : ub.size ≤ 10) (W : World) :
    Calls Tryd.prog 11 #[.string (ub.extract 0 j), .int .i64 0] W fun e w' => e = .returned (.tuple #[.int .u64 0, .int .i64 0, .int .i64 3]) ∧ W = w' := by
  have h := take_in (ub.extract 0 j) 0 W (by unfold maxLen; simp; omega) (by omega)
  have hs : ub.size = (num m).length := by rw [hu]; show (num m).toArray.size = _; simp
  have e : takeL ((ub.extract 0 j).data.toList.drop 0) 0 0 = (0, 0, 3) := by
    have : (ub.extract 0 j).data.toList = (num m).take j := by rw [hu]; simp [ByteArray.extract_mk]
    rw [List.drop_zero, this]
    exact take_cut 10 m 0 0 j (by rw [hs] at hj; exact hj) (by omega)
  rw [e] at h
  exact h

theorem two_steps {w w1 w2 w4 : World} {o o' : Obj} (hb1 : Below (w.alloc o).heap.size (w.alloc o) w1) (hb2 : Below (w1.alloc o').heap.size (w1.alloc o') w2) (hb4 : Below w2.heap.size w2 w4) : Below w.heap.size w w4 := by
  have c1 := ((Below.refl _ w).alloc (Nat.le_refl _) o).trans (hb1.mono (by simp))
  have c2 := (c1.alloc c1.size o').trans (hb2.mono (by have := c1.size; simp; omega))
  exact c2.trans (hb4.mono c2.size)

set_option maxRecDepth 100000 in
set_option maxHeartbeats 4000000 in
theorem walk (x y n m c : Nat) (w : World) (hn : n < 2 ^ 64) (hm : m < 2 ^ 64) (hc : c < 256) (hnm : n ≤ m) (hxy : (x < y ∧ x = n ∧ y = m) ∨ (y < x ∧ y = n ∧ x = m) ∨ (x = y ∧ x = n ∧ x = m)) (ht : Tab w) :
    Calls Tryd.prog 9 #[.int .u64 x, .int .u64 y, .int .u8 c] w fun e w' => e = .returned (.bool true) ∧ Below w.heap.size w w' := by
  obtain ⟨ua, hua⟩ : ∃ u : ByteArray, u = ⟨(num n).toArray⟩ := ⟨_, rfl⟩
  obtain ⟨ub, hub⟩ : ∃ u : ByteArray, u = ⟨(num m).toArray⟩ := ⟨_, rfl⟩
  have sa : ua.size = (num n).length := by rw [hua]; show (num n).toArray.size = _; simp
  have sb : ub.size = (num m).length := by rw [hub]; show (num m).toArray.size = _; simp
  have HN := Lib.hid (fun (W : World) g => num_one n g W hn)
  have HM := Lib.hid (fun (W : World) g => num_one m g W hm)
  rw [← hua] at HN
  rw [← hub] at HM
  have a1 := (num_size n hn).1
  obtain ⟨b1, b2, b3⟩ := num_size m hm
  have b10 := num_le m
  have hab := num_mono n m hnm hm
  rw [← sa] at a1 hab
  rw [← sb] at b1 b2 b3 b10 hab
  have HC := Lib.hid (fun W => cut_short m (c % ub.size) ub hub (Nat.mod_lt _ b1) b10 W)
  have HT := Lib.hid ht
  have q0 := out_zero m ub.size b2
  obtain ⟨m0, m1⟩ := mod_in c ub.size b1
  rcases (show (ub.size < 10 ∧ ub.size ≤ 1) ∨ (ub.size < 10 ∧ 1 < ub.size) ∨ (10 ≤ ub.size ∧ 1 < ub.size) by omega) with ⟨h10, h1⟩ | ⟨h10, h1⟩ | ⟨h10, h1⟩
  all_goals
    first
      | have q1 := in_some m ub.size (b3 h1)
      | skip
    clear sa sb hua hub b2 b3 ht
    rcases hxy with ⟨hlt, rfl, rfl⟩ | ⟨hlt, rfl, rfl⟩ | ⟨rfl, rfl, rfl⟩
  all_goals
    go_enter Tryd.func9, Tryd.ntmps9
    go_wp2_with fail
    refine (HN.out _ _ (by simp) (by go_simp)).mono ?_
    rintro e w1 ⟨rfl, hb1⟩
    go_wp2_with fail
    refine (HM.out _ _ (by simp) (by go_simp)).mono ?_
    rintro e w2 ⟨rfl, hb2⟩
    go_wp2_with fail
    refine (HC.out _).mono ?_
    rintro e w3 ⟨rfl, rfl⟩
    go_wp2_with fail
    refine (awake_any _ ((((HT.out.alloc _).on hb1).alloc _).on hb2)).mono ?_
    rintro e w4 ⟨rfl, hb4⟩
    go_wp2_with fail
    go_ret
    exact ⟨rfl, two_steps hb1 hb2 hb4⟩

theorem run_walk (x y c : Int) (W : World) (hx : 0 ≤ x ∧ x ≤ 18446744073709551615) (hy : 0 ≤ y ∧ y ≤ 18446744073709551615) (hc : 0 ≤ c ∧ c ≤ 255) (ht : Tab W) :
    Calls Tryd.prog 9 #[.int .u64 x, .int .u64 y, .int .u8 c] W fun e w' => e = .returned (.bool true) ∧ Below W.heap.size W w' := by
  obtain ⟨x, rfl⟩ := Int.eq_ofNat_of_zero_le hx.1
  obtain ⟨y, rfl⟩ := Int.eq_ofNat_of_zero_le hy.1
  obtain ⟨c, rfl⟩ := Int.eq_ofNat_of_zero_le hc.1
  rcases Nat.lt_trichotomy x y with h | h | h
  · exact walk x y x y c W (by omega) (by omega) (by omega) (by omega) (by omega) ht
  · exact walk x y x y c W (by omega) (by omega) (by omega) (by omega) (by omega) ht
  · exact walk x y y x c W (by omega) (by omega) (by omega) (by omega) (by omega) ht

theorem parOk : ∀ t ∈ (#[24, 24, 5] : Array TypeId).toList, Tryd.prog.readableRec t = true ∧ t < Tryd.prog.types.size := by
  have hall : ([24, 24, 5].all fun t => Tryd.prog.readableRec t && decide (t < Tryd.prog.types.size)) = true := by kernel_rfl
  intro t ht
  simpa using List.all_eq_true.1 hall t ht

/-- What the walk gives, for every argument and every world that holds the table. -/
theorem contract (H : Type) (enc : TypeId × Value → H) (W : World) (base : Nat) (args : Array Value) (ds gs : List (DataW H)) (before : List MemPlace)
    (hval : ∀ (j : Nat) t v, Tryd.f9.params[j]? = some t → args[j]? = some v → Value.okWide Tryd.prog W .any base t v)
    (hW : DataW.Whole enc Tryd.prog Tryd.f9.params.toList Rows.wireLongSpec.vars false W args.toList ds gs before) (hL : laidMetH Tryd.prog Rows.wireLongRow.laid W) :
    Calls Tryd.prog 9 args W fun e W' => ∃ v, e = .returned v ∧ Rows.wireLongSpec.post enc Tryd.prog Tryd.f9 false true false false W args v W' := by
  have hW' := hW
  obtain ⟨p, q, hA0, hV, rfl, hfz, hnd⟩ := hW
  have hA : DataW.TrodAll enc Tryd.prog W 0 (fun _ => true) true Tryd.f9.params.toList args.toList ds p := hA0
  rw [Tryd.params9] at hA hval
  obtain ⟨v0, vs0, d0, ds0, p0, q0, hargs, rfl, rfl, h0, r0⟩ := trodAll_cons hA
  obtain ⟨v1, vs1, d1, ds1, p1, q1, rfl, rfl, rfl, h1, r1⟩ := trodAll_cons r0
  obtain ⟨v2, vs2, d2, ds2, p2, q2, rfl, rfl, rfl, h2, r2⟩ := trodAll_cons r1
  obtain ⟨rfl, rfl, rfl⟩ := trodAll_nil r2
  obtain rfl : args = #[v0, v1, v2] := by cases args; simp_all
  obtain ⟨rfl, rfl⟩ := trodVars_none hV
  obtain ⟨x, rfl, rfl, rfl, wx⟩ := open_int Tryd.underlying24 (hval 0 24 v0 rfl rfl) h0
  obtain ⟨y, rfl, rfl, rfl, wy⟩ := open_int Tryd.underlying24 (hval 1 24 v1 rfl rfl) h1
  obtain ⟨c, rfl, rfl, rfl, wc⟩ := open_int Tryd.underlying5 (hval 2 5 v2 rfl rfl) h2
  clear hA0
  refine (run_walk x y c W (by simpa [Lit.wf, IntKind.min, IntKind.max, IntKind.signed, IntKind.bits] using wx) (by simpa [Lit.wf, IntKind.min, IntKind.max, IntKind.signed, IntKind.bits] using wy) (by simpa [Lit.wf, IntKind.min, IntKind.max, IntKind.signed, IntKind.bits] using wc) (tab_of_laid hL)).mono fun e W' ⟨he, hb⟩ => ?_
  subst he
  exact ⟨_, rfl, law_post rfl (by rw [Tryd.params9]; exact parOk) rfl hW' rfl rfl rfl hb⟩

theorem laid_met (os : Os) : laidMet Tryd.prog Rows.wireLongRow.laid ((laidWorld os).forCall (fun _ _ => 0) ⟨#[], #[.int .u64 0, .int .u64 0, .int .u8 0], []⟩).memory :=
  laidMet_of_run' 8 (by kernel_rfl) (by kernel_rfl)
theorem reads (os : Os) {H : Type} (enc : TypeId × Value → H) : ∃ places, DataW.whole enc Tryd.prog ((laidWorld os).forCall (fun _ _ => 0) ⟨#[], #[.int .u64 0, .int .u64 0, .int .u8 0], []⟩).memory Tryd.f9.params.toList Rows.wireLongSpec.vars false (#[.int .u64 0, .int .u64 0, .int .u8 0] : Array Value).toList 8 = some ([.lit (.int .u64 0), .lit (.int .u64 0), .lit (.int .u8 0)], [], places) :=
  ⟨[], by kernel_rfl⟩

set_option maxRecDepth 100000 in
theorem lifted (os : Os) (started : os.Started) (H : Type) (enc : TypeId × Value → H) (F : Stop.Interp) :
    ReturnsInHanded {} Tryd.checked os 9 .any ((OpenSpec.ofChange Rows.wireLongSpec).preRow enc Tryd.prog Tryd.f9 Rows.wireLongRow.domain false Rows.wireLongRow.laid) (((OpenSpec.ofChange Rows.wireLongSpec).at F).post enc Tryd.prog Tryd.f9 false true false false) := by
  obtain ⟨places, hx⟩ := reads os enc
  refine returnsInHanded_of_row (C := Tryd.checked) (s := OpenSpec.ofChange Rows.wireLongSpec) own started (by kernel_rfl) Tryd.func9
    (witness_row_at (enc := enc) (C := Tryd.checked) false (laidWorld os) #[.int .u64 0, .int .u64 0, .int .u8 0] rfl (by kernel_rfl) (by kernel_rfl) (by kernel_rfl)
      (OpenSpec.preRow_of_cond 8 hx (by kernel_rfl) (fun k hk => by cases hk) (by kernel_rfl) (laid_met os))) ?_
  intro W base args ds gs before hval hW _ _ _ hL _ _
  exact contract H enc W base args ds gs before hval hW hL

theorem said : Rows.WireLongSaid :=
  OpenClaim.holds_of_cond 9 Tryd.f9 rfl rfl rfl rfl rfl rfl rfl ⟨rfl, rfl, rfl, rfl, rfl⟩ rfl rfl rfl rfl rfl (by kernel_rfl) Tryd.func9 (by kernel_rfl)
    (of_decide_eq_true (by kernel_rfl)) (by unfold Func.isWrapper; first | (rw [if_pos (by decide +kernel)]; kernel_rfl) | (rw [if_neg (by decide +kernel)]; exact ⟨rfl, rfl⟩))
    (fun os started H enc _ F => by rw [OpenClaim.pre_eq_preRow]; exact lifted os started H enc F)

/-- No parameter wants a stand-in; the program's own looks are off. -/
theorem plain (f : FuncId) (fn : Func) (hf : Tryd.pinned.checked.prog.funcNamed "tattle/tattlelaw01.WireLong" = some f) (hfn : Tryd.pinned.checked.prog.funcs[f]? = some fn) :
    false = Tryd.pinned.checked.prog.looks [] ∧ ∀ (j : Nat) t, fn.params[j]? = some t → Tryd.pinned.checked.prog.wantsStandIn t = false := by
  obtain rfl : f = 9 := Option.some.inj ((show Tryd.prog.funcNamed "tattle/tattlelaw01.WireLong" = some 9 by kernel_rfl).symm.trans hf) |>.symm
  obtain rfl : fn = Tryd.f9 := (Option.some.inj (Tryd.func9.symm.trans hfn)).symm
  refine ⟨by kernel_rfl, fun j t ht => ?_⟩
  rw [Tryd.params9] at ht
  have hm : t ∈ [24, 24, 5] := by simpa using Array.mem_of_getElem? ht
  have hall : ([24, 24, 5].all fun u => !Tryd.prog.wantsStandIn u) = true := by kernel_rfl
  exact (show Tryd.prog.wantsStandIn t = false by simpa using List.all_eq_true.1 hall t hm)

/-- THE CARD. -/
theorem card : Rows.WireLongCardSaid :=
  Claim7.holds_tied_plain_at .later [] _ _ _ _ said (fun _ h => by cases h) (by kernel_rfl) (fun _ h => by cases h) wireLong_row_tie rfl ⟨rfl, rfl⟩ (by kernel_rfl) rfl plain (by kernel_rfl)
end Go.Proofs.YtpndijbhopeakaaDoor.lawLong
