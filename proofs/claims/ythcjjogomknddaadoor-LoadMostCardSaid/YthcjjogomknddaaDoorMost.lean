/-
  LoadMost: a bound falls with nodes, rises with tasks, and is just as great as it has to be: the law returns true for every input.
-/
import Derived.Test.YthcjjogomknddaaDoorLk
import Derived.Test.YthcjjogomknddaaDoorCards
import Derived.Test.YthcjjogomknddaaDoorTie
namespace Go.Proofs.YthcjjogomknddaaDoor.lawMost
open Go.ChangeMaps (open_string)
open Go.Sort Go.ChangeShapes Go.WideShapes Go.ChangeAt Go.RowKit Go.Joins Go.Proofs.YthcjjogomknddaaDoor.Pure

set_option maxRecDepth 100000 in
set_option maxHeartbeats 4000000 in
theorem walk (t n : Nat) (w : World) (ht : t ≤ 255) (hn : n ≤ 255) :
    Calls Tryd.prog 9 #[.int .u8 (t : Int), .int .u8 (n : Int)] w fun e w' => e = .returned (.bool true) ∧ Below w.heap.size w w' := by
  obtain ⟨T, hT⟩ : ∃ T, t % 100 = T := ⟨_, rfl⟩
  obtain ⟨m, hm⟩ : ∃ m, n % 63 = m := ⟨_, rfl⟩
  obtain ⟨n1, n2, n3, n4, n5⟩ := u8_mod t T 100 ht hT (by decide) (by decide)
  obtain ⟨s1, s2, s3, s4, s5⟩ := u8_mod n m 63 hn hm (by decide) (by decide)
  replace n1 : Int.tmod (t : Int) 100 = (T : Int) := n1
  replace n2 : (t : Int) % 100 = (T : Int) := n2
  replace s1 : Int.tmod (n : Int) 63 = (m : Int) := s1
  replace s2 : (n : Int) % 63 = (m : Int) := s2
  obtain ⟨N, hN⟩ : ∃ N, N = 1 + m := ⟨_, rfl⟩
  obtain ⟨T1, hT1⟩ : ∃ T1, T1 = T + 1 := ⟨_, rfl⟩
  obtain ⟨N1, hN1⟩ : ∃ N1, N1 = N + 1 := ⟨_, rfl⟩
  have s6 : IntKind.i64.wrap (1 + (m : Int)) = (N : Int) := by rw [IntWalk.i64_in _ (by omega)]; omega
  have s7 : IntKind.i64.wrap ((T : Int) + 1) = (T1 : Int) := by rw [IntWalk.i64_in _ (by omega)]; omega
  have s8 : IntKind.i64.wrap ((N : Int) + 1) = (N1 : Int) := by rw [IntWalk.i64_in _ (by omega)]; omega
  have B0 := Lib.hid (fun W => bound_yes T N W (by omega) (by omega) (by omega))
  have B1 := Lib.hid (fun W => bound_yes T1 N W (by omega) (by omega) (by omega))
  have B2 := Lib.hid (fun W => bound_yes T N1 W (by omega) (by omega) (by omega))
  have hN0 : 0 < N := by omega
  have m1 : boundN T N ≤ boundN T1 N := bound_more hN0 (by omega)
  have m2 : boundN T N1 ≤ boundN T N := bound_fewer hN0 (by omega)
  have m3 := bound_ge T hN0
  have m4 : ∀ k, k < boundN T N → 4 * N * k < 5 * T := fun k hk => bound_lt hN0 hk
  have m5 := bound_pos (t := T) hN0
  have m6 := bound_le (t := T) hN0
  generalize boundN T N = a at *
  generalize boundN T1 N = b at *
  generalize boundN T N1 = c at *
  obtain ⟨G, hG⟩ : ∃ G, G = 4 * N := ⟨_, rfl⟩
  obtain ⟨Ga, hGa⟩ : ∃ Ga, Ga = G * a := ⟨_, rfl⟩
  obtain ⟨T5, hT5⟩ : ∃ T5, T5 = 5 * T := ⟨_, rfl⟩
  have hGb : Ga ≤ 256 * 200 := by rw [hGa]; exact Nat.mul_le_mul (by omega) (by omega)
  have x1 : IntKind.i64.wrap (4 * (N : Int)) = (G : Int) := by rw [IntWalk.i64_in _ (by omega)]; omega
  have x2 : IntKind.i64.wrap ((G : Int) * (a : Int)) = (Ga : Int) := by rw [← Int.natCast_mul, ← hGa]; exact IntWalk.i64_in _ (by omega)
  have x3 : IntKind.i64.wrap (5 * (T : Int)) = (T5 : Int) := by rw [IntWalk.i64_in _ (by omega)]; omega
  rw [← hG, ← hGa, ← hT5] at m3
  have d1 : decide ((a : Int) ≤ (b : Int)) = true := decide_eq_true (by omega)
  have d2 : decide ((c : Int) ≤ (a : Int)) = true := decide_eq_true (by omega)
  have d3 : decide ((T5 : Int) ≤ (Ga : Int)) = true := decide_eq_true (by omega)
  have d1' : decide (a ≤ b) = true := decide_eq_true m1
  have d2' : decide (c ≤ a) = true := decide_eq_true m2
  have d3' : decide (T5 ≤ Ga) = true := decide_eq_true m3
  by_cases h0 : T = 0
  · have y1 : ((T : Int) == 0) = true := by rw [beq_iff_eq]; omega
    have y1' : (T == 0) = true := by rw [beq_iff_eq]; exact h0
    have y2 : decide ((0 : Int) < (T : Int)) = false := decide_eq_false (by omega)
    have y2' : decide (0 < T) = false := decide_eq_false (by omega)
    have y3 : decide ((0 : Int) < (a : Int)) = false := decide_eq_false (by omega)
    have y3' : decide (0 < a) = false := decide_eq_false (by omega)
    clear m1 m2 m3 m4 m5 m6 hG hGa hT5 hGb h0 hT1 hN1 hN hN0 hT hm
    go_enter Tryd.func9, Tryd.ntmps9
    go_wp2_with fail
    refine (B0.out _).mono ?_
    rintro e w1 ⟨rfl, rfl⟩
    go_wp2_with fail
    refine (B1.out _).mono ?_
    rintro e w1 ⟨rfl, rfl⟩
    go_wp2_with fail
    refine (B2.out _).mono ?_
    rintro e w1 ⟨rfl, rfl⟩
    go_wp2_with fail
    refine (awake_any _).mono ?_
    rintro e w9 ⟨rfl, hb9⟩
    go_wp2_with fail
    go_ret
    exact ⟨rfl, hb9⟩
  · obtain ⟨a1, ha1⟩ : ∃ a1, a = a1 + 1 := ⟨a - 1, by omega⟩
    obtain ⟨Gc, hGc⟩ : ∃ Gc, Gc = G * a1 := ⟨_, rfl⟩
    have m7 := m4 a1 (by omega)
    rw [← hG, ← hGc, ← hT5] at m7
    have x4 : IntKind.i64.wrap ((a : Int) - 1) = (a1 : Int) := by rw [IntWalk.i64_in _ (by omega)]; omega
    have x5 : IntKind.i64.wrap ((G : Int) * (a1 : Int)) = (Gc : Int) := by rw [← Int.natCast_mul, ← hGc]; exact IntWalk.i64_in _ (by omega)
    have y1 : ((T : Int) == 0) = false := by rw [beq_eq_false_iff_ne]; omega
    have y1' : (T == 0) = false := by rw [beq_eq_false_iff_ne]; exact h0
    have y2 : decide ((0 : Int) < (T : Int)) = true := decide_eq_true (by omega)
    have y2' : decide (0 < T) = true := decide_eq_true (by omega)
    have y3 : decide ((0 : Int) < (a : Int)) = true := decide_eq_true (by omega)
    have y3' : decide (0 < a) = true := decide_eq_true (by omega)
    have y4 : decide ((Gc : Int) < (T5 : Int)) = true := decide_eq_true (by omega)
    have y4' : decide (Gc < T5) = true := decide_eq_true m7
    clear m1 m2 m3 m4 m5 m6 m7 hG hGa hT5 hGb h0 hT1 hN1 hN hN0 hT hm ha1 hGc
    go_enter Tryd.func9, Tryd.ntmps9
    go_wp2_with fail
    refine (B0.out _).mono ?_
    rintro e w1 ⟨rfl, rfl⟩
    go_wp2_with fail
    refine (B1.out _).mono ?_
    rintro e w1 ⟨rfl, rfl⟩
    go_wp2_with fail
    refine (B2.out _).mono ?_
    rintro e w1 ⟨rfl, rfl⟩
    go_wp2_with fail
    refine (awake_any _).mono ?_
    rintro e w9 ⟨rfl, hb9⟩
    go_wp2_with fail
    go_ret
    exact ⟨rfl, hb9⟩

theorem parOk : ∀ t ∈ (#[5, 5] : Array TypeId).toList, Tryd.prog.readableRec t = true ∧ t < Tryd.prog.types.size := by
  have hall : ([5, 5].all fun t => Tryd.prog.readableRec t && decide (t < Tryd.prog.types.size)) = true := by kernel_rfl
  intro t ht
  simpa using List.all_eq_true.1 hall t ht

set_option maxRecDepth 100000 in
/-- What the walk gives, for every argument and every world that holds the table. -/
theorem contract (H : Type) (enc : TypeId × Value → H) (W : World) (base : Nat) (args : Array Value) (ds gs : List (DataW H)) (before : List MemPlace)
    (hval : ∀ (j : Nat) t v, Tryd.f9.params[j]? = some t → args[j]? = some v → Value.okWide Tryd.prog W .any base t v)
    (hW : DataW.Whole enc Tryd.prog Tryd.f9.params.toList Rows.loadMostSpec.vars false W args.toList ds gs before) (_ : laidMetH Tryd.prog Rows.loadMostRow.laid W) :
    Calls Tryd.prog 9 args W fun e W' => ∃ v, e = .returned v ∧ Rows.loadMostSpec.post enc Tryd.prog Tryd.f9 false true false false W args v W' := by
  have hW' := hW
  obtain ⟨p, q, hA0, hV, rfl, hfz, hnd⟩ := hW
  have hA : DataW.TrodAll enc Tryd.prog W 0 (fun _ => true) true Tryd.f9.params.toList args.toList ds p := hA0
  rw [Tryd.params9] at hA hval
  obtain ⟨v0, vs0, d0, ds0, p0, q0, hargs, rfl, rfl, h0, r0⟩ := trodAll_cons hA
  obtain ⟨v1, vs1, d1, ds1, p1, q1, rfl, rfl, rfl, h1, r1⟩ := trodAll_cons r0
  obtain ⟨rfl, rfl, rfl⟩ := trodAll_nil r1
  obtain rfl : args = #[v0, v1] := by cases args; simp_all
  obtain ⟨rfl, rfl⟩ := trodVars_none hV
  obtain ⟨t, rfl, ht⟩ := open_u8 (hval 0 5 v0 rfl rfl) h0
  obtain ⟨n, rfl, hn⟩ := open_u8 (hval 1 5 v1 rfl rfl) h1
  clear hA0
  refine (walk t n W ht hn).mono fun e W' ⟨he, hb⟩ => ?_
  subst he
  exact ⟨_, rfl, law_post rfl (by rw [Tryd.params9]; exact parOk) rfl hW' rfl rfl rfl hb⟩

set_option maxRecDepth 100000 in
theorem laid_met (os : Os) : laidMet Tryd.prog Rows.loadMostRow.laid ((laidWorld os).forCall (fun _ _ => 0) ⟨#[], #[.int .u8 0, .int .u8 0], []⟩).memory :=
  laidMet_of_run' 8 (by kernel_rfl) (by kernel_rfl)
set_option maxRecDepth 100000 in
theorem reads (os : Os) {H : Type} (enc : TypeId × Value → H) : ∃ places, DataW.whole enc Tryd.prog ((laidWorld os).forCall (fun _ _ => 0) ⟨#[], #[.int .u8 0, .int .u8 0], []⟩).memory Tryd.f9.params.toList Rows.loadMostSpec.vars false (#[.int .u8 0, .int .u8 0] : Array Value).toList 8 = some ([.lit (.int .u8 0), .lit (.int .u8 0)], [], places) :=
  ⟨[], by kernel_rfl⟩

set_option maxRecDepth 100000 in
theorem lifted (os : Os) (started : os.Started) (H : Type) (enc : TypeId × Value → H) (F : Stop.Interp) :
    ReturnsInHanded {} Tryd.checked os 9 .any ((OpenSpec.ofChange Rows.loadMostSpec).preRow enc Tryd.prog Tryd.f9 Rows.loadMostRow.domain false Rows.loadMostRow.laid) (((OpenSpec.ofChange Rows.loadMostSpec).at F).post enc Tryd.prog Tryd.f9 false true false false) := by
  obtain ⟨places, hx⟩ := reads os enc
  refine returnsInHanded_of_row (C := Tryd.checked) (s := OpenSpec.ofChange Rows.loadMostSpec) own started (by kernel_rfl) Tryd.func9
    (witness_row_at (enc := enc) (C := Tryd.checked) false (laidWorld os) #[.int .u8 0, .int .u8 0] rfl (by kernel_rfl) (by kernel_rfl) (by kernel_rfl)
      (OpenSpec.preRow_of_cond 8 hx (by kernel_rfl) (fun k hk => by cases hk) (by kernel_rfl) (laid_met os))) ?_
  intro W base args ds gs before hval hW _ _ _ hL _ _
  exact contract H enc W base args ds gs before hval hW hL

theorem said : Rows.LoadMostSaid :=
  OpenClaim.holds_of_cond 9 Tryd.f9 rfl rfl rfl rfl rfl rfl rfl ⟨rfl, rfl, rfl, rfl, rfl⟩ rfl rfl rfl rfl rfl (by kernel_rfl) Tryd.func9 (by kernel_rfl)
    (of_decide_eq_true (by kernel_rfl)) (by unfold Func.isWrapper; first | (rw [if_pos (by decide +kernel)]; kernel_rfl) | (rw [if_neg (by decide +kernel)]; exact ⟨rfl, rfl⟩))
    (fun os started H enc _ F => by rw [OpenClaim.pre_eq_preRow]; exact lifted os started H enc F)

set_option maxRecDepth 100000 in
/-- No parameter wants a stand-in; the program's own looks are off. -/
theorem plain (f : FuncId) (fn : Func) (hf : Tryd.pinned.checked.prog.funcNamed "tattle/tattlelaw14.LoadMost" = some f) (hfn : Tryd.pinned.checked.prog.funcs[f]? = some fn) :
    false = Tryd.pinned.checked.prog.looks [] ∧ ∀ (j : Nat) t, fn.params[j]? = some t → Tryd.pinned.checked.prog.wantsStandIn t = false := by
  obtain rfl : f = 9 := Option.some.inj ((show Tryd.prog.funcNamed "tattle/tattlelaw14.LoadMost" = some 9 by kernel_rfl).symm.trans hf) |>.symm
  obtain rfl : fn = Tryd.f9 := (Option.some.inj (Tryd.func9.symm.trans hfn)).symm
  refine ⟨by kernel_rfl, fun j t ht => ?_⟩
  rw [Tryd.params9] at ht
  have hm : t ∈ [5, 5] := by simpa using Array.mem_of_getElem? ht
  have hall : ([5, 5].all fun u => !Tryd.prog.wantsStandIn u) = true := by kernel_rfl
  exact (show Tryd.prog.wantsStandIn t = false by simpa using List.all_eq_true.1 hall t hm)

/-- THE CARD. -/
theorem card : Rows.LoadMostCardSaid :=
  Claim7.holds_tied_plain_at .later [] _ _ _ _ said (fun _ h => by cases h) (by kernel_rfl) (fun _ h => by cases h) loadMost_row_tie rfl ⟨rfl, rfl⟩ (by kernel_rfl) rfl plain (by kernel_rfl)
end Go.Proofs.YthcjjogomknddaaDoor.lawMost
