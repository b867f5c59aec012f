/-
  THE LAW TableNodes: a new table has all nodes up, and the first one is the lowest; with each node dead, one by one, none is, and the lowest goes on to the next.
  For every number of nodes that there may be, and every node.
-/
import Derived.Test.YtmfpipcedblklaaLaw
import Derived.Test.YtmfpipcedblklaaNod
namespace Go.Proofs.Ytmfpipcedblklaa.lawNodes
open Go.Sort Go.ChangeShapes Go.WideShapes Go.ChangeAt Go.RowKit Go.Joins Go.Proofs.Ytmfpipcedblklaa.Pure

set_option maxRecDepth 100000 in
set_option maxHeartbeats 4000000 in
theorem way (n f m k : Nat) (bo : Bool) (io : Int) (w : World) (hm : m = 1 + n % 64) (hn : n ≤ 255) (hf : f ≤ 255) (hbo : decide (f < m) = bo) (hio : io = if bo = true then 1 else 0) (hk : (k : Int) = (m : Int) - io)
    (HN : Hid (∀ W : World, Calls Try.prog 10 #[.int .i64 m] W fun e w' => ∃ A' c', e = .returned (.tuple #[.slice A' m c', .int .i64 0]) ∧ Lst w' A' (nod m 0) ∧ Below W.heap.size W w'))
    (HU : Hid (∀ (W : World) X cx i, i ≤ m → Lst W X (nod m i) → Calls Try.prog 19 #[.slice X m cx] W fun e w' => ∃ A' c', e = .returned (.slice A' (m - i) c') ∧ Below W.heap.size W w'))
    (HO : Hid (∀ (W : World) X cx, Lst W X (nod m 0) → Calls Try.prog 20 #[.slice X m cx, .int .i64 f] W fun e w' => ∃ A' c', e = .returned (.slice A' k c') ∧ Below W.heap.size W w'))
    (H1 : Hid (∀ W : World, Calls Try.prog 31 #[.bool bo] W fun e w' => e = .returned (.int .i64 io) ∧ W = w'))
    (HL : Hid (∀ (W : World) X cx i, i < m → Lst W X (nod m i) → Calls Try.prog 15 #[.slice X m cx] W fun e w' => e = .returned (.tuple #[.int .i64 i, .int .i64 0]) ∧ Below W.heap.size W w'))
    (HA : Hid (∀ (W : World) X cx i, i < m → Lst W X (nod m i) → Calls Try.prog 12 #[.slice X m cx, .int .i64 i, .agg #[.int .u64 0, .int .i64 2]] W fun e w' => ∃ A' c', e = .returned (.tuple #[.slice A' m c', .bool true, .int .i64 0]) ∧ Lst w' A' (nod m (i + 1)) ∧ Below W.heap.size W w'))
    (HLE : Hid (∀ (W : World) X cx, Lst W X (nod m m) → Calls Try.prog 15 #[.slice X m cx] W fun e w' => e = .returned (.tuple #[.int .i64 0, .int .i64 6]) ∧ Below W.heap.size W w'))
    (HOE : Hid (∀ (W : World) X cx, Lst W X (nod m m) → Calls Try.prog 20 #[.slice X m cx, .int .i64 (-1)] W fun e w' => ∃ A' c', e = .returned (.slice A' m c') ∧ Below W.heap.size W w')) :
    Calls Try.prog 8 #[.int .u8 n, .int .u8 f] w fun e w' => e = .returned (.bool true) ∧ Below w.heap.size w w' := by
  have hm1 : 1 ≤ m ∧ m ≤ 64 := by omega
  have e1 : Int.tmod (n : Int) 64 = ((n % 64 : Nat) : Int) := by rw [Int.tmod_eq_emod_of_nonneg (by omega)]; omega
  have e2 : IntKind.i64.wrap ((n % 64 : Nat) : Int) = ((n % 64 : Nat) : Int) := IntWalk.i64_in _ (by omega)
  have e3 : IntKind.i64.wrap (1 + ((n % 64 : Nat) : Int)) = (m : Int) := by rw [IntWalk.i64_in _ (by omega)]; omega
  have e4 : IntKind.u8.wrap ((n % 64 : Nat) : Int) = ((n % 64 : Nat) : Int) := by rw [IntKind.wrap_u8]; omega
  have e5 : IntKind.i64.wrap (f : Int) = (f : Int) := IntWalk.i64_in _ (by omega)
  have e6 : IntKind.i64.wrap ((m : Int) - io) = (k : Int) := by rw [IntWalk.i64_in _ (by rcases bo with _ | _ <;> simp at hio <;> omega)]; omega
  have e7 : ((k : Int) != (k : Int)) = false := by simp
  have hkm : k ≤ m := by rcases bo with _ | _ <;> simp at hio <;> omega
  have hio' := Lib.hid hio
  have hk' := Lib.hid hk
  have hm' := Lib.hid hm
  generalize n % 64 = r at *
  clear hio hk hm
  go_enter Try.func8, Try.ntmps8
  go_wp2_with fail
  refine (HN.out _).mono ?_
  rintro e w1 ⟨A1, c1, rfl, hl, hb⟩
  have LT_1 := Lib.hid hl
  have HB_1 := Lib.hid hb
  clear hl hb HN
  have HU0 : Hid (Calls Try.prog 19 #[.slice A1 m c1] w1 fun e w' => ∃ A' c', e = .returned (.slice A' m c') ∧ Below w1.heap.size w1 w') := Lib.hid (HU.out _ _ _ 0 (Nat.zero_le _) LT_1.out)
  go_wp2_with fail
  refine HU0.out.mono ?_
  rintro e w2 ⟨A2, c2, rfl, hb⟩
  have LT_2 := Lib.hid (LT_1.out.on hb)
  have HB_2 : Hid (Below w.heap.size w w2) := Lib.hid (HB_1.out.trans (hb.mono HB_1.out.size))
  clear hb HU0 LT_1 HB_1
  go_wp2_with fail
  refine (HO.out _ _ _ LT_2.out).mono ?_
  rintro e w3 ⟨A3, c3, rfl, hb⟩
  have LT_3 := Lib.hid (LT_2.out.on hb)
  have HB_3 : Hid (Below w.heap.size w w3) := Lib.hid (HB_2.out.trans (hb.mono HB_2.out.size))
  clear hb LT_2 HB_2
  go_wp2_with fail
  refine (H1.out _).mono ?_
  rintro e w' ⟨rfl, rfl⟩
  go_wp2_with fail
  go_loopw [6, 8] (fun t i wr => ∃ (j : Nat) (At : Option Addr) (ct : Nat), i = .int .i64 j ∧ t = .slice At m ct ∧ j ≤ m ∧ Hid (Lst wr At (nod m j)) ∧ Hid (Below w.heap.size w wr)) (fun _ i _ => m - (intOf i).toNat)
  case atStart => exact ⟨0, A1, c1, rfl, rfl, Nat.zero_le _, LT_3, HB_3⟩
  case round =>
    clear LT_3 HB_3
    obtain ⟨j, At, ct, rfl, rfl, hj, LT, HB⟩ := hrel
    by_cases hlt : j < m
    · have d1 : decide ((j : Int) < (m : Int)) = true := by simpa using hlt
      obtain ⟨u, hu⟩ : ∃ u, u = m - (j + 1) := ⟨_, rfl⟩
      have e8 : IntKind.i64.wrap ((m : Int) - (j : Int)) = (m : Int) - (j : Int) := IntWalk.i64_in _ (by omega)
      have e9 : IntKind.i64.wrap ((m : Int) - (j : Int) - 1) = (u : Int) := by rw [IntWalk.i64_in _ (by omega)]; omega
      have HUj : Hid (∀ (W : World) X cx, Lst W X (nod m (j + 1)) → Calls Try.prog 19 #[.slice X m cx] W fun e w' => ∃ A' c', e = .returned (.slice A' u c') ∧ Below W.heap.size W w') := Lib.hid fun W X cx h => by rw [hu]; exact HU.out W X cx (j + 1) hlt h
      clear hu
      go_wp2_with fail
      refine (HL.out _ _ _ j hlt LT.out).mono ?_
      rintro e w5 ⟨rfl, hb⟩
      have LT_5 := Lib.hid (LT.out.on hb)
      have HB_5 : Hid (Below w.heap.size w w5) := Lib.hid (HB.out.trans (hb.mono HB.out.size))
      clear hb LT HB
      go_wp2_with fail
      refine (HA.out _ _ _ j hlt LT_5.out).mono ?_
      rintro e w6 ⟨A6, c6, rfl, hl, hb⟩
      have LT_6 := Lib.hid hl
      have HB_6 : Hid (Below w.heap.size w w6) := Lib.hid (HB_5.out.trans (hb.mono HB_5.out.size))
      clear hb hl LT_5 HB_5
      go_wp2_with fail
      refine (HUj.out _ _ _ LT_6.out).mono ?_
      rintro e w7 ⟨A7, c7, rfl, hb⟩
      have LT_7 := Lib.hid (LT_6.out.on hb)
      have HB_7 : Hid (Below w.heap.size w w7) := Lib.hid (HB_6.out.trans (hb.mono HB_6.out.size))
      clear hb LT_6 HB_6
      go_wp2_with fail
      go_roundw
      case rel => exact ⟨j + 1, A6, c6, by go_num, rfl, by omega, LT_7, HB_7⟩
      case measure => simp [intOf]; omega
    · have hjm : j = m := by omega
      have LT' : Hid (Lst wr At (nod m m)) := Lib.hid (by have := LT.out; rwa [hjm] at this)
      have d1 : decide ((j : Int) < (m : Int)) = false := by simp; omega
      clear hjm LT
      go_wp2_with fail
      refine (HLE.out _ _ _ LT'.out).mono ?_
      rintro e w5 ⟨rfl, hb⟩
      have LT_5 := Lib.hid (LT'.out.on hb)
      have HB_5 : Hid (Below w.heap.size w w5) := Lib.hid (HB.out.trans (hb.mono HB.out.size))
      clear hb LT' HB
      go_wp2_with fail
      refine (HOE.out _ _ _ LT_5.out).mono ?_
      rintro e w6 ⟨A6, c6, rfl, hb⟩
      have HB_6 : Hid (Below w.heap.size w w6) := Lib.hid (HB_5.out.trans (hb.mono HB_5.out.size))
      clear hb LT_5 HB_5
      go_wp2_with fail
      refine (awake_any _).mono ?_
      rintro e wE ⟨rfl, hbE⟩
      have HE : Hid (Below w.heap.size w wE) := Lib.hid (HB_6.out.trans (hbE.mono HB_6.out.size))
      clear hbE
      go_wp2_with fail
      go_ret
      exact ⟨rfl, HE.out⟩

theorem walk (n f : Nat) (w : World) (hn : n ≤ 255) (hf : f ≤ 255) : Calls Try.prog 8 #[.int .u8 n, .int .u8 f] w fun e w' => e = .returned (.bool true) ∧ Below w.heap.size w w' := by
  obtain ⟨m, hm⟩ : ∃ m, m = 1 + n % 64 := ⟨_, rfl⟩
  have hm1 : 1 ≤ m ∧ m ≤ 64 := by omega
  have hl : ∀ i, (nod m i).length = m := fun i => nod_len m i
  have hmay : ∀ i, mayT (nod m i) = true := fun i => nod_may i hm1
  refine way n f m (m - (if f < m then 1 else 0)) (decide (f < m)) (if decide (f < m) = true then 1 else 0) w hm hn hf rfl rfl ?_
    (Lib.hid fun W => ?_) (Lib.hid fun W X cx i hi h => ?_) (Lib.hid fun W X cx h => ?_) (Lib.hid fun W => one_any _ W) (Lib.hid fun W X cx i hi h => ?_) (Lib.hid fun W X cx i hi h => ?_) (Lib.hid fun W X cx h => ?_) (Lib.hid fun W X cx h => ?_)
  · by_cases h : f < m
    · simp [h]; omega
    · simp [h]
  · have := new_yes m hm1 W
    unfold Gives newL at this
    rwa [← nod_zero, hl] at this
  · refine (by have := tup_any X cx (nod m i) W (by rw [hl]; omega) h true (hmay i); rwa [hl] at this : Calls _ _ _ _ _).mono ?_
    rintro e w' ⟨A', c', rfl, _, hb⟩
    exact ⟨A', c', by show _ = Ending.returned (Value.slice A' _ c'); rw [show orNil true (upL (nod m i)) = upL (nod m i) from rfl, nod_up_len], hb⟩
  · refine (by have := toth_any X cx (nod m 0) (f : Int) W (by rw [hl]; omega) h true (hmay 0); rwa [hl] at this : Calls _ _ _ _ _).mono ?_
    rintro e w' ⟨A', c', rfl, _, hb⟩
    exact ⟨A', c', by rw [show orNil true (othL (f : Int) (nod m 0)) = othL (f : Int) (nod m 0) from rfl, nod_oth_len], hb⟩
  · have := tlow_any X cx (nod m i) W (by rw [hl]; omega) h
    rw [low_some (hmay i) (by rw [nod_up_len]; omega), nod_up, from_first i m hi, hl] at this
    exact this
  · have := tapp_yes X cx (nod m i) i dd W (by rw [hl]; omega) h (hmay i) (nod_fit m i) (by rw [hl]; exact hi) rfl
    unfold Turns at this
    rw [nod_app hi, nod_new hi, hl, hl] at this
    exact this
  · have := tlow_any X cx (nod m m) W (by rw [hl]; omega) h
    rw [low_none (hmay m) (List.eq_nil_of_length_eq_zero (by rw [nod_up_len]; omega)), hl] at this
    exact this
  · refine (by have := toth_any X cx (nod m m) (-1) W (by rw [hl]; omega) h true (hmay m); rwa [hl] at this : Calls _ _ _ _ _).mono ?_
    rintro e w' ⟨A', c', rfl, _, hb⟩
    exact ⟨A', c', by rw [show orNil true (othL (-1) (nod m m)) = othL (-1) (nod m m) from rfl, nod_all_len], hb⟩

/-! ### the statement -/
theorem parOk : ∀ t ∈ (#[5, 5] : Array TypeId).toList, Try.prog.readableRec t = true ∧ t < Try.prog.types.size := by
  have hall : ([5, 5].all fun t => Try.prog.readableRec t && decide (t < Try.prog.types.size)) = true := by kernel_rfl
  intro t ht
  simpa using List.all_eq_true.1 hall t ht

/-- What the walk gives, for every argument. -/
theorem contract (H : Type) (enc : TypeId × Value → H) (W : World) (base : Nat) (args : Array Value) (ds gs : List (DataW H)) (before : List MemPlace)
    (hval : ∀ (j : Nat) t v, Try.f8.params[j]? = some t → args[j]? = some v → Value.okWide Try.prog W .any base t v)
    (hW : DataW.Whole enc Try.prog Try.f8.params.toList Rows.tableNodesSpec.vars false W args.toList ds gs before) :
    Calls Try.prog 8 args W fun e W' => ∃ v, e = .returned v ∧ Rows.tableNodesSpec.post enc Try.prog Try.f8 false true false false W args v W' := by
  have hW' := hW
  obtain ⟨p, q, hA0, hV, rfl, hfz, hnd⟩ := hW
  have hA : DataW.TrodAll enc Try.prog W 0 (fun _ => true) true Try.f8.params.toList args.toList ds p := hA0
  rw [Try.params8] at hA hval
  obtain ⟨v0, vs0, d0, ds0, p0, q0, hargs, rfl, rfl, h0, r0⟩ := trodAll_cons hA
  obtain ⟨v1, vs1, d1, ds1, p1, q1, rfl, rfl, rfl, h1, r1⟩ := trodAll_cons r0
  obtain ⟨rfl, rfl, rfl⟩ := trodAll_nil r1
  obtain rfl : args = #[v0, v1] := by cases args; simp_all
  obtain ⟨rfl, rfl⟩ := trodVars_none hV
  obtain ⟨n, rfl, hn⟩ := open_u8 (hval 0 5 v0 rfl rfl) h0
  obtain ⟨f, rfl, hf⟩ := open_u8 (hval 1 5 v1 rfl rfl) h1
  clear hA0
  refine (walk n f W hn hf).mono fun e W' ⟨he, hb⟩ => ?_
  subst he
  exact ⟨_, rfl, law_post rfl (by rw [Try.params8]; exact parOk) rfl hW' rfl rfl rfl hb⟩

set_option maxRecDepth 100000 in
theorem lifted (os : Os) (started : os.Started) (H : Type) (enc : TypeId × Value → H) :
    ReturnsInHanded {} Try.checked os 8 .any (Rows.tableNodesSpec.pre6 enc Try.prog Try.f8 Rows.tableNodesRow.domain false) (Rows.tableNodesSpec.post enc Try.prog Try.f8 false true false false) := by
  refine returnsInHanded_of_change (C := Try.checked) own started (by kernel_rfl) Try.func8
    (ChangeSpec.witness6 (enc := enc) (C := Try.checked) false ⟨#[], #[.int .u8 0, .int .u8 0], []⟩ 8 (by kernel_rfl) (by kernel_rfl) (by kernel_rfl) (by kernel_rfl)) ?_
  intro W base args ds gs before hval hW _ _
  exact contract H enc W base args ds gs before hval hW

/-- THE STATEMENT. -/
theorem said : Rows.TableNodesSaid :=
  OpenClaim.holds_of_wide 8 Try.f8 rfl rfl rfl rfl rfl rfl rfl ⟨rfl, rfl, rfl, rfl, rfl⟩ rfl rfl rfl rfl rfl (by kernel_rfl) Try.func8 (by kernel_rfl)
    (of_decide_eq_true (by kernel_rfl)) (by unfold Func.isWrapper; first | (rw [if_pos (by decide +kernel)]; kernel_rfl) | (rw [if_neg (by decide +kernel)]; exact ⟨rfl, rfl⟩))
    (fun os started H enc _ => lifted os started H enc)
end Go.Proofs.Ytmfpipcedblklaa.lawNodes
