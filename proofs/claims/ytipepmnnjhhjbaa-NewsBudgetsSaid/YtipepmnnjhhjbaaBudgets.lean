/-
  THE LAW NewsBudgets: with more nodes, or a greater factor, news are told as often, or oftener; twice as many nodes make one factor more, and no more; a budget may be told.
  For every number of nodes and every factor that the law makes of two octets.
-/
import Derived.Test.YtipepmnnjhhjbaaLaw
namespace Go.Proofs.Ytipepmnnjhhjbaa.lawBudgets
open Go.Sort Go.ChangeShapes Go.WideShapes Go.ChangeAt Go.RowKit Go.Joins Go.Proofs.Ytipepmnnjhhjbaa.Pure

theorem bits_facts (m : Nat) (h0 : 0 < m) (h : m ≤ 32) : Lib.bitLen (2 * m) = Lib.bitLen m + 1 ∧ Lib.bitLen m ≤ Lib.bitLen (m + 1) ∧ Lib.bitLen (m + 1) ≤ Lib.bitLen m + 1 ∧ 1 ≤ Lib.bitLen m ∧ Lib.bitLen m ≤ 6 := by
  have : ∀ m : Fin 33, 0 < m.val → Lib.bitLen (2 * m.val) = Lib.bitLen m.val + 1 ∧ Lib.bitLen m.val ≤ Lib.bitLen (m.val + 1) ∧ Lib.bitLen (m.val + 1) ≤ Lib.bitLen m.val + 1 ∧ 1 ≤ Lib.bitLen m.val ∧ Lib.bitLen m.val ≤ 6 := by decide
  exact this ⟨m, by omega⟩ h0

set_option maxRecDepth 100000 in
set_option maxHeartbeats 4000000 in
theorem way (x y : Nat) (m f a b c d P : Int) (w : World) (hx : x ≤ 255) (hy : y ≤ 255) (hm : m = 1 + ((x % 32 : Nat) : Int)) (hf : f = 1 + ((y % 7 : Nat) : Int))
    (hb : b = a + f) (hc : a ≤ c ∧ c ≤ a + f) (hd : a < d ∧ d ≤ 1000) (ha : f ≤ a ∧ a ≤ 64) (hP : d * f = P ∧ a * (f + 1) = P ∧ 0 ≤ P ∧ P ≤ 100000)
    (HA : Hid (∀ W : World, Calls Try.prog 10 #[.int .i64 m, .int .i64 f] W fun e w' => e = .returned (.tuple #[.int .i64 a, .int .i64 0]) ∧ W = w'))
    (HB : Hid (∀ W : World, Calls Try.prog 10 #[.int .i64 (2 * m), .int .i64 f] W fun e w' => e = .returned (.tuple #[.int .i64 b, .int .i64 0]) ∧ W = w'))
    (HC : Hid (∀ W : World, Calls Try.prog 10 #[.int .i64 (m + 1), .int .i64 f] W fun e w' => e = .returned (.tuple #[.int .i64 c, .int .i64 0]) ∧ W = w'))
    (HD : Hid (∀ W : World, Calls Try.prog 10 #[.int .i64 m, .int .i64 (f + 1)] W fun e w' => e = .returned (.tuple #[.int .i64 d, .int .i64 0]) ∧ W = w'))
    (HAD : Hid (∀ W : World, Calls Try.prog 12 #[.slice none 0 0, .agg #[.int .i64 5, .int .u64 0, .int .i64 0], .int .i64 a] W fun e w' => ∃ v, e = .returned (.tuple #[v, .int .i64 0]) ∧ Below W.heap.size W w')) :
    Calls Try.prog 8 #[.int .u8 x, .int .u8 y] w fun e w' => e = .returned (.bool true) ∧ Below w.heap.size w w' := by
  have HAW := Lib.hid (fun W => awake_any W)
  have r1 : Int.tmod (x : Int) 32 = ((x % 32 : Nat) : Int) := by rw [Int.tmod_eq_emod_of_nonneg (by omega)]; omega
  have r2 : Int.tmod (y : Int) 7 = ((y % 7 : Nat) : Int) := by rw [Int.tmod_eq_emod_of_nonneg (by omega)]; omega
  have r3 : IntKind.u8.wrap ((x % 32 : Nat) : Int) = ((x % 32 : Nat) : Int) := by rw [IntKind.wrap_u8]; omega
  have r4 : IntKind.u8.wrap ((y % 7 : Nat) : Int) = ((y % 7 : Nat) : Int) := by rw [IntKind.wrap_u8]; omega
  have r5 : IntKind.i64.wrap ((x % 32 : Nat) : Int) = ((x % 32 : Nat) : Int) := IntWalk.i64_in _ (by omega)
  have r6 : IntKind.i64.wrap ((y % 7 : Nat) : Int) = ((y % 7 : Nat) : Int) := IntWalk.i64_in _ (by omega)
  have r7 : IntKind.i64.wrap (1 + ((x % 32 : Nat) : Int)) = m := by rw [IntWalk.i64_in _ (by omega), hm]
  have r8 : IntKind.i64.wrap (1 + ((y % 7 : Nat) : Int)) = f := by rw [IntWalk.i64_in _ (by omega), hf]
  have r9 : IntKind.i64.wrap (2 * m) = 2 * m := by rw [IntWalk.i64_in _ (by omega)]
  have r10 : IntKind.i64.wrap (m + 1) = m + 1 := by rw [IntWalk.i64_in _ (by omega)]
  have r11 : IntKind.i64.wrap (f + 1) = f + 1 := by rw [IntWalk.i64_in _ (by omega)]
  have r12 : IntKind.i64.wrap (a + f) = b := by rw [IntWalk.i64_in _ (by omega), hb]
  have HP1 : Hid (IntKind.i64.wrap (d * f) = P) := Lib.hid (by rw [hP.1, IntWalk.i64_in _ (by omega)])
  have HP2 : Hid (IntKind.i64.wrap (a * (f + 1)) = P) := Lib.hid (by rw [hP.2.1, IntWalk.i64_in _ (by omega)])
  have d1 : decide (c < a) = false := by simp; omega
  have d2 : decide (b < c) = false := by simp; omega
  have d3 : decide (d ≤ a) = false := by simp; omega
  have d4 : decide (a < f) = false := by simp; omega
  generalize x % 32 = xr at *
  generalize y % 7 = yr at *
  clear hm hf hb hc hd ha hP
  go_enter Try.func8, Try.ntmps8
  go_wp2_with fail
  refine (HA.out _).mono ?_
  rintro e w1 ⟨rfl, rfl⟩
  clear HA
  go_wp2_with fail
  refine (HB.out _).mono ?_
  rintro e w1 ⟨rfl, rfl⟩
  clear HB
  go_wp2_with fail
  refine (HC.out _).mono ?_
  rintro e w1 ⟨rfl, rfl⟩
  clear HC
  go_wp2_with fail
  refine (HD.out _).mono ?_
  rintro e w1 ⟨rfl, rfl⟩
  clear HD
  go_wp2_with fail
  refine (HAD.out _).mono ?_
  rintro e w1 ⟨v, rfl, hb1⟩
  have HB1 := Lib.hid hb1
  clear hb1 HAD
  have p1 := HP1.out
  have p2 := HP2.out
  go_wp2_with fail
  refine (HAW.out _).mono ?_
  rintro e w2 ⟨rfl, hb2⟩
  have HB2 : Hid (Below w.heap.size w w2) := Lib.hid (HB1.out.trans (hb2.mono HB1.out.size))
  clear hb2
  go_wp2_with fail
  go_ret
  exact ⟨rfl, HB2.out⟩

theorem walk (x y : Nat) (w : World) (hx : x ≤ 255) (hy : y ≤ 255) : Calls Try.prog 8 #[.int .u8 x, .int .u8 y] w fun e w' => e = .returned (.bool true) ∧ Below w.heap.size w w' := by
  obtain ⟨m, hm⟩ : ∃ m : Nat, m = 1 + x % 32 := ⟨_, rfl⟩
  obtain ⟨f, hf⟩ : ∃ f : Nat, f = 1 + y % 7 := ⟨_, rfl⟩
  obtain ⟨b1, b2, b3, b4, b5⟩ := bits_facts m (by omega) (by omega)
  have hbd : ∀ n g : Nat, bud (n : Int) (g : Int) = (g : Int) * ((Lib.bitLen n : Nat) : Int) := fun n g => by unfold bud; rw [Int.toNat_natCast]
  have hA : bud (m : Int) (f : Int) = (f : Int) * ((Lib.bitLen m : Nat) : Int) := hbd m f
  have hB : bud ((2 * m : Nat) : Int) (f : Int) = (f : Int) * ((Lib.bitLen (2 * m) : Nat) : Int) := hbd (2 * m) f
  have hC : bud ((m + 1 : Nat) : Int) (f : Int) = (f : Int) * ((Lib.bitLen (m + 1) : Nat) : Int) := hbd (m + 1) f
  have hD : bud (m : Int) ((f + 1 : Nat) : Int) = ((f + 1 : Nat) : Int) * ((Lib.bitLen m : Nat) : Int) := hbd m (f + 1)
  have HA := Lib.hid (fun W => budget_yes (m : Int) (f : Int) W (by unfold budB; rw [decide_eq_true_iff]; omega))
  have HB := Lib.hid (fun W => budget_yes ((2 * m : Nat) : Int) (f : Int) W (by unfold budB; rw [decide_eq_true_iff]; omega))
  have HC := Lib.hid (fun W => budget_yes ((m + 1 : Nat) : Int) (f : Int) W (by unfold budB; rw [decide_eq_true_iff]; omega))
  have HD := Lib.hid (fun W => budget_yes (m : Int) ((f + 1 : Nat) : Int) W (by unfold budB; rw [decide_eq_true_iff]; omega))
  generalize bud (m : Int) (f : Int) = a at *
  generalize bud ((2 * m : Nat) : Int) (f : Int) = b at *
  generalize bud ((m + 1 : Nat) : Int) (f : Int) = c at *
  generalize bud (m : Int) ((f + 1 : Nat) : Int) = d at *
  generalize Lib.bitLen (2 * m) = l2 at *
  generalize Lib.bitLen (m + 1) = l3 at *
  generalize Lib.bitLen m = l at *
  have hf1 : 1 ≤ f ∧ f ≤ 7 := by omega
  have n1 : a ≤ c := by rw [hA, hC]; exact Int.mul_le_mul_of_nonneg_left (by omega) (by omega)
  have n2 : b = a + f := by rw [hA, hB, b1, Int.natCast_add, Int.mul_add]; simp
  have n3 : c ≤ a + f := by
    have : c ≤ (f : Int) * ((l + 1 : Nat) : Int) := by rw [hC]; exact Int.mul_le_mul_of_nonneg_left (by omega) (by omega)
    rw [Int.natCast_add, Int.mul_add] at this
    rw [hA]; simpa using this
  have n4 : d = a + l := by rw [hA, hD, Int.natCast_add, Int.add_mul]; simp
  have n5 : (f : Int) ≤ a := by
    have : (f : Int) * 1 ≤ (f : Int) * (l : Int) := Int.mul_le_mul_of_nonneg_left (by omega) (by omega)
    rw [hA]; omega
  have n6 : a ≤ 42 := by
    have : (f : Int) * (l : Int) ≤ 7 * 6 := Int.mul_le_mul (by omega) (by omega) (by omega) (by omega)
    rw [hA]; omega
  have n7 : d * (f : Int) = a * ((f : Int) + 1) := by
    rw [hD, hA, Int.natCast_add, Int.mul_comm ((f : Int) + ((1 : Nat) : Int)) (l : Int), Int.mul_assoc, Int.mul_comm ((f : Int) + ((1 : Nat) : Int)) (f : Int), ← Int.mul_assoc, Int.mul_comm (l : Int) (f : Int)]
    simp
  have n8 : 0 ≤ a * ((f : Int) + 1) := Int.mul_nonneg (by omega) (by omega)
  have n9 : a * ((f : Int) + 1) ≤ 42 * 8 := Int.mul_le_mul (by omega) (by omega) (by omega) (by omega)
  have HAD : Hid (∀ W : World, Calls Try.prog 12 #[.slice none 0 0, .agg #[.int .i64 5, .int .u64 0, .int .i64 0], .int .i64 a] W fun e w' => ∃ v, e = .returned (.tuple #[v, .int .i64 0]) ∧ Below W.heap.size W w') := Lib.hid (fun W => by
    have hmt : mayT ((⟨5, 0, 0⟩ : Nw).td a) = true := by rw [mayT_iff]; exact ⟨by show (0 : Int) ≤ 5; decide, by show (5 : Int) < 64; decide, by show (0 : Int) ≤ 0; decide, by show (0 : Int) ≤ 3; decide, by show 1 ≤ a; omega, by show a ≤ 64; omega⟩
    have := add_any none 0 [] ⟨5, 0, 0⟩ a W (by decide) (Ts.nil _ _) true true rfl hmt
    exact this.mono fun e w' ⟨v, he, _, hb⟩ => ⟨v, he, hb⟩)
  exact way x y (m : Int) (f : Int) a b c d (a * ((f : Int) + 1)) w hx hy (by omega) (by omega) n2 ⟨n1, n3⟩ ⟨by omega, by omega⟩ ⟨n5, by omega⟩ ⟨n7, rfl, n8, by omega⟩ HA
    (Lib.hid (fun W => by have := HB.out W; rwa [Int.natCast_mul] at this)) (Lib.hid (fun W => by have := HC.out W; rwa [Int.natCast_add] at this)) (Lib.hid (fun W => by have := HD.out W; rwa [Int.natCast_add] at this)) HAD

theorem parOk : ∀ t ∈ (#[5, 5] : Array TypeId).toList, Try.prog.readableRec t = true ∧ t < Try.prog.types.size := by
  have hall : ([5, 5].all fun t => Try.prog.readableRec t && decide (t < Try.prog.types.size)) = true := by kernel_rfl
  intro t ht
  simpa using List.all_eq_true.1 hall t ht

set_option maxRecDepth 100000 in
/-- What the walk gives, for every argument. -/
theorem contract (H : Type) (enc : TypeId × Value → H) (W : World) (base : Nat) (args : Array Value) (ds gs : List (DataW H)) (before : List MemPlace)
    (hval : ∀ (j : Nat) t v, Try.f8.params[j]? = some t → args[j]? = some v → Value.okWide Try.prog W .any base t v)
    (hW : DataW.Whole enc Try.prog Try.f8.params.toList Rows.newsBudgetsSpec.vars false W args.toList ds gs before) :
    Calls Try.prog 8 args W fun e W' => ∃ v, e = .returned v ∧ Rows.newsBudgetsSpec.post enc Try.prog Try.f8 false true false false W args v W' := by
  have hW' := hW
  obtain ⟨p, q, hA0, hV, rfl, hfz, hnd⟩ := hW
  have hA : DataW.TrodAll enc Try.prog W 0 (fun _ => true) true Try.f8.params.toList args.toList ds p := hA0
  rw [Try.params8] at hA hval
  obtain ⟨v0, vs0, d0, ds0, p0, q0, hargs, rfl, rfl, h0, r0⟩ := trodAll_cons hA
  obtain ⟨v1, vs1, d1, ds1, p1, q1, rfl, rfl, rfl, h1, r1⟩ := trodAll_cons r0
  obtain ⟨rfl, rfl, rfl⟩ := trodAll_nil r1
  obtain rfl : args = #[v0, v1] := by cases args; simp_all
  obtain ⟨rfl, rfl⟩ := trodVars_none hV
  obtain ⟨x, rfl, hx⟩ := open_u8 (hval 0 5 v0 rfl rfl) h0
  obtain ⟨y, rfl, hy⟩ := open_u8 (hval 1 5 v1 rfl rfl) h1
  clear hA0
  refine (walk x y W hx hy).mono fun e W' ⟨he, hb⟩ => ?_
  subst he
  exact ⟨_, rfl, law_post rfl (by rw [Try.params8]; exact parOk) rfl hW' rfl rfl rfl hb⟩

set_option maxRecDepth 100000 in
theorem lifted (os : Os) (started : os.Started) (H : Type) (enc : TypeId × Value → H) :
    ReturnsInHanded {} Try.checked os 8 .any (Rows.newsBudgetsSpec.pre6 enc Try.prog Try.f8 Rows.newsBudgetsRow.domain false) (Rows.newsBudgetsSpec.post enc Try.prog Try.f8 false true false false) := by
  refine returnsInHanded_of_change (C := Try.checked) own started (by kernel_rfl) Try.func8
    (ChangeSpec.witness6 (enc := enc) (C := Try.checked) false ⟨#[], #[.int .u8 0, .int .u8 0], []⟩ 8 (by kernel_rfl) (by kernel_rfl) (by kernel_rfl) (by kernel_rfl)) ?_
  intro W base args ds gs before hval hW _ _
  exact contract H enc W base args ds gs before hval hW

/-- THE STATEMENT. -/
theorem said : Rows.NewsBudgetsSaid :=
  OpenClaim.holds_of_wide 8 Try.f8 rfl rfl rfl rfl rfl rfl rfl ⟨rfl, rfl, rfl, rfl, rfl⟩ rfl rfl rfl rfl rfl (by kernel_rfl) Try.func8 (by kernel_rfl)
    (of_decide_eq_true (by kernel_rfl)) (by unfold Func.isWrapper; first | (rw [if_pos (by decide +kernel)]; kernel_rfl) | (rw [if_neg (by decide +kernel)]; exact ⟨rfl, rfl⟩))
    (fun os started H enc _ => lifted os started H enc)
end Go.Proofs.Ytipepmnnjhhjbaa.lawBudgets
