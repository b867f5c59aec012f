/-
  RingOne: on a ring of one node each key is its: the law returns true for every input.
-/
import Derived.Test.YtjmjeaipdfmglaaDoorLaw
import Derived.Test.YtjmjeaipdfmglaaDoorCards
import Derived.Test.YtjmjeaipdfmglaaDoorTie
namespace Go.Proofs.YtjmjeaipdfmglaaDoor.lawOne
open Go.ChangeMaps (open_string)
open Go.Sort Go.ChangeShapes Go.WideShapes Go.ChangeAt Go.RowKit Go.Joins Go.Proofs.YtjmjeaipdfmglaaDoor.Pure

theorem u8_mod (n m k : Nat) (h : n ≤ 255) (hm : n % k = m) (hk : 0 < k) (hk2 : k ≤ 64) : Int.tmod (n : Int) (k : Int) = (m : Int) ∧ (n : Int) % (k : Int) = (m : Int) ∧ IntKind.i64.wrap (m : Int) = (m : Int) ∧ IntKind.u8.wrap (m : Int) = (m : Int) ∧ m < k := by
  have hlt : m < k := by rw [← hm]; exact Nat.mod_lt _ hk
  have e : (n : Int) % (k : Int) = (m : Int) := by rw [← hm]; rfl
  refine ⟨by rw [Int.tmod_eq_emod_of_nonneg (by omega)]; exact e, e, IntWalk.i64_in _ (by omega), ?_, hlt⟩
  simp [IntKind.wrap, IntKind.bits, IntKind.signed]; omega

set_option maxRecDepth 100000 in
set_option maxHeartbeats 4000000 in
theorem walk (n s : Nat) (key : ByteArray) (w : World) (hn : n ≤ 255) (hs : s ≤ 255) (hk : key.size ≤ maxLen) :
    Calls Tryd.prog 8 #[.int .u8 (n : Int), .int .u8 (s : Int), .string key] w fun e w' => e = .returned (.bool true) ∧ Below w.heap.size w w' := by
  obtain ⟨m, hm⟩ : ∃ m, n % 64 = m := ⟨_, rfl⟩
  obtain ⟨q, hq⟩ : ∃ q, s % 32 = q := ⟨_, rfl⟩
  obtain ⟨n1, n2, n3, n4, n5⟩ := u8_mod n m 64 hn hm (by decide) (by decide)
  obtain ⟨s1, s2, s3, s4, s5⟩ := u8_mod s q 32 hs hq (by decide) (by decide)
  replace n1 : Int.tmod (n : Int) 64 = (m : Int) := n1
  replace n2 : (n : Int) % 64 = (m : Int) := n2
  replace s1 : Int.tmod (s : Int) 32 = (q : Int) := s1
  replace s2 : (s : Int) % 32 = (q : Int) := s2
  obtain ⟨N, hN⟩ : ∃ N, N = 1 + q := ⟨_, rfl⟩
  have s6 : IntKind.i64.wrap (1 + (q : Int)) = (N : Int) := by rw [IntWalk.i64_in _ (by omega)]; omega
  have HF := Lib.hid (fun W => F.few_any key W hk)
  have hks := F.few_size key
  generalize F.fewB key = k at *
  have hmr : (0 : Int) ≤ (m : Int) ∧ (m : Int) < 64 := by omega
  have hnode : nodesB [(m : Int)] = true := by
    simp only [nodesB, Bool.and_eq_true, numsB_iff, risesB_iff]
    exact ⟨⟨fun y hy => by rw [List.mem_singleton.1 hy]; exact hmr, by simp⟩, fun i hi => by simp at hi⟩
  have hone := pts_one (m : Int) hmr (s := N) (by omega) (sumK k)
  have hpl : (ptsP [(m : Int)] N).length = N := by rw [pts_len]; simp
  have herr : errP (ptsP [(m : Int)] N) = 0 := by
    unfold errP
    rw [pts_may (nodesB_nums hnode) (by omega), hpl, if_pos rfl, if_neg (by omega)]
  have HP := Lib.hid (fun (W : World) => points_yes (some ⟨W.heap.size, 0, none⟩) 1 W.heap.size (W.heap.size + 1) [(m : Int)] N (W.alloc (.cells #[.int .i64 (m : Int)] 3)) (Has.one W m _) (by simp) hnode (by omega) (by omega))
  have HN := Lib.hid (fun (W : World) => points_no (some ⟨W.heap.size, 0, none⟩) 1 W.heap.size (W.heap.size + 1) [(m : Int)] 0 (W.alloc (.cells #[.int .i64 (m : Int)] 3)) (by simp) (Has.one W m _) (by simp) (.inr (.inl (by decide))))
  have HPL := Lib.hid hpl
  have HOW := Lib.hid (fun (A : Option Addr) (c : Nat) (W : World) (h : Ps W A (ptsP [(m : Int)] N)) => owner_any A c _ k W (by omega) h (by unfold maxLen; omega) (m : Int) 0 herr (by rw [if_pos rfl]; exact hone.2))
  have HWK := Lib.hid (fun (A : Option Addr) (c : Nat) (W : World) (h : Ps W A (ptsP [(m : Int)] N)) => walk_any A c _ k W (by omega) h (by unfold maxLen; omega) 0 herr)
  rw [if_pos rfl, hone.1] at HWK
  clear hpl herr hone hnode hm hq hN
  generalize ptsP [(m : Int)] N = l at *
  go_enter Tryd.func8, Tryd.ntmps8
  go_wp2_with fail
  refine (HF.out _).mono ?_
  rintro e w1 ⟨rfl, rfl⟩
  go_wp2_with fail
  refine (HP.out _).mono ?_
  rintro e w2 ⟨v, rfl, ho, hb⟩
  have HB2 : Hid (Below w.heap.size w w2) := Lib.hid (((Below.refl _ w).alloc (Nat.le_refl _) _).trans (hb.mono (by simp)))
  obtain ⟨A, c, rfl, hc, hps⟩ := ho.lst
  have HX2 := Lib.hid hps
  clear ho hps hb
  have e5 : ((l.length : Int) != (N : Int)) = false := by have := HPL.out; simp; omega
  have e5' : (l.length != N) = false := by have := HPL.out; simp; omega
  go_wp2_with fail
  refine (HOW.out _ _ _ HX2.out).mono ?_
  rintro e w3 ⟨rfl, hb⟩
  have HB3 := Lib.hid (HB2.out.trans (hb.mono HB2.out.size))
  have HX3 := Lib.hid (HX2.out.on hb)
  clear hb HB2 HX2
  go_wp2_with fail
  refine (HWK.out _ _ _ HX3.out).mono ?_
  rintro e w4 ⟨v, rfl, ho, hb⟩
  have HB4 := Lib.hid (HB3.out.trans (hb.mono HB3.out.size))
  obtain ⟨AX, cX, rfl, _, hX⟩ := ho.has
  have HO4 := Lib.hid hX
  clear hb HB3 HX3 ho hX
  have HL1 : ([(m : Int)] : List Int).length = 1 := rfl
  go_wp2_with fail
  refine (HN.out _).mono ?_
  rintro e w5 ⟨rfl, hb⟩
  have HB5 : Hid (Below w4.heap.size w4 w5) := Lib.hid (((Below.refl _ w4).alloc (Nat.le_refl _) _).trans (hb.mono (by simp)))
  have HO5 := Lib.hid (HO4.out.on HB5.out (Nat.le_refl _))
  have HB6 := Lib.hid (HB4.out.trans (HB5.out.mono HB4.out.size))
  have hsz := HB5.out.size
  clear hb HO4 HB4 HB5
  have z1 : ((m : Int) == (m : Int)) = true := by simp
  go_wp2_with fail
  refine (same_any AX _ cX 1 _ _ _ _ [(m : Int)] [(m : Int)] _ (by simp) (HO5.out.alloc _ hsz) (Has.one w5 m _) true (by simp)).mono ?_
  rintro e w6 ⟨rfl, hb⟩
  have HB7 : Hid (Below w.heap.size w w6) := Lib.hid ((HB6.out.alloc HB6.out.size _).trans (hb.mono (by have := HB6.out.size; simp; omega)))
  clear hb HB6
  go_wp2_with fail
  refine (awake_any _).mono ?_
  rintro e w7 ⟨rfl, hb⟩
  go_wp2_with fail
  go_ret
  exact ⟨rfl, HB7.out.trans (hb.mono HB7.out.size)⟩

theorem parOk : ∀ t ∈ (#[5, 5, 9] : Array TypeId).toList, Tryd.prog.readableRec t = true ∧ t < Tryd.prog.types.size := by
  have hall : ([5, 5, 9].all fun t => Tryd.prog.readableRec t && decide (t < Tryd.prog.types.size)) = true := by kernel_rfl
  intro t ht
  simpa using List.all_eq_true.1 hall t ht

set_option maxRecDepth 100000 in
/-- What the walk gives, for every argument and every world that holds the table. -/
theorem contract (H : Type) (enc : TypeId × Value → H) (W : World) (base : Nat) (args : Array Value) (ds gs : List (DataW H)) (before : List MemPlace)
    (hval : ∀ (j : Nat) t v, Tryd.f8.params[j]? = some t → args[j]? = some v → Value.okWide Tryd.prog W .any base t v)
    (hW : DataW.Whole enc Tryd.prog Tryd.f8.params.toList Rows.ringOneSpec.vars false W args.toList ds gs before) (hL : laidMetH Tryd.prog Rows.ringOneRow.laid W) :
    Calls Tryd.prog 8 args W fun e W' => ∃ v, e = .returned v ∧ Rows.ringOneSpec.post enc Tryd.prog Tryd.f8 false true false false W args v W' := by
  have hW' := hW
  obtain ⟨p, q, hA0, hV, rfl, hfz, hnd⟩ := hW
  have hA : DataW.TrodAll enc Tryd.prog W 0 (fun _ => true) true Tryd.f8.params.toList args.toList ds p := hA0
  rw [Tryd.params8] at hA hval
  obtain ⟨v0, vs0, d0, ds0, p0, q0, hargs, rfl, rfl, h0, r0⟩ := trodAll_cons hA
  obtain ⟨v1, vs1, d1, ds1, p1, q1, rfl, rfl, rfl, h1, r1⟩ := trodAll_cons r0
  obtain ⟨v2, vs2, d2, ds2, p2, q2, rfl, rfl, rfl, h2, r2⟩ := trodAll_cons r1
  obtain ⟨rfl, rfl, rfl⟩ := trodAll_nil r2
  obtain rfl : args = #[v0, v1, v2] := by cases args; simp_all
  obtain ⟨rfl, rfl⟩ := trodVars_none hV
  obtain ⟨n, rfl, hn⟩ := open_u8 (hval 0 5 v0 rfl rfl) h0
  obtain ⟨s, rfl, hs⟩ := open_u8 (hval 1 5 v1 rfl rfl) h1
  obtain ⟨k, rfl, hk⟩ := open_text (hval 2 9 v2 rfl rfl) h2
  clear hA0
  refine (walk n s k W hn hs hk).mono fun e W' ⟨he, hb⟩ => ?_
  subst he
  exact ⟨_, rfl, law_post rfl (by rw [Tryd.params8]; exact parOk) rfl hW' rfl rfl rfl hb⟩

set_option maxRecDepth 100000 in
theorem laid_met (os : Os) : laidMet Tryd.prog Rows.ringOneRow.laid ((laidWorld os).forCall (fun _ _ => 0) ⟨#[], #[.int .u8 0, .int .u8 0, .string ⟨#[]⟩], []⟩).memory :=
  laidMet_of_run' 8 (by kernel_rfl) (by kernel_rfl)
set_option maxRecDepth 100000 in
theorem reads (os : Os) {H : Type} (enc : TypeId × Value → H) : ∃ places, DataW.whole enc Tryd.prog ((laidWorld os).forCall (fun _ _ => 0) ⟨#[], #[.int .u8 0, .int .u8 0, .string ⟨#[]⟩], []⟩).memory Tryd.f8.params.toList Rows.ringOneSpec.vars false (#[.int .u8 0, .int .u8 0, .string ⟨#[]⟩] : Array Value).toList 8 = some ([.lit (.int .u8 0), .lit (.int .u8 0), .lit (.string [])], [], places) :=
  ⟨[], by kernel_rfl⟩

set_option maxRecDepth 100000 in
theorem lifted (os : Os) (started : os.Started) (H : Type) (enc : TypeId × Value → H) (F : Stop.Interp) :
    ReturnsInHanded {} Tryd.checked os 8 .any ((OpenSpec.ofChange Rows.ringOneSpec).preRow enc Tryd.prog Tryd.f8 Rows.ringOneRow.domain false Rows.ringOneRow.laid) (((OpenSpec.ofChange Rows.ringOneSpec).at F).post enc Tryd.prog Tryd.f8 false true false false) := by
  obtain ⟨places, hx⟩ := reads os enc
  refine returnsInHanded_of_row (C := Tryd.checked) (s := OpenSpec.ofChange Rows.ringOneSpec) own started (by kernel_rfl) Tryd.func8
    (witness_row_at (enc := enc) (C := Tryd.checked) false (laidWorld os) #[.int .u8 0, .int .u8 0, .string ⟨#[]⟩] rfl (by kernel_rfl) (by kernel_rfl) (by kernel_rfl)
      (OpenSpec.preRow_of_cond 8 hx (by kernel_rfl) (fun k hk => by cases hk) (by kernel_rfl) (laid_met os))) ?_
  intro W base args ds gs before hval hW _ _ _ hL _ _
  exact contract H enc W base args ds gs before hval hW hL

theorem said : Rows.RingOneSaid :=
  OpenClaim.holds_of_cond 8 Tryd.f8 rfl rfl rfl rfl rfl rfl rfl ⟨rfl, rfl, rfl, rfl, rfl⟩ rfl rfl rfl rfl rfl (by kernel_rfl) Tryd.func8 (by kernel_rfl)
    (of_decide_eq_true (by kernel_rfl)) (by unfold Func.isWrapper; first | (rw [if_pos (by decide +kernel)]; kernel_rfl) | (rw [if_neg (by decide +kernel)]; exact ⟨rfl, rfl⟩))
    (fun os started H enc _ F => by rw [OpenClaim.pre_eq_preRow]; exact lifted os started H enc F)

/-- No parameter wants a stand-in; the program's own looks are off. -/
theorem plain (f : FuncId) (fn : Func) (hf : Tryd.pinned.checked.prog.funcNamed "tattle/tattlelaw13.RingOne" = some f) (hfn : Tryd.pinned.checked.prog.funcs[f]? = some fn) :
    false = Tryd.pinned.checked.prog.looks [] ∧ ∀ (j : Nat) t, fn.params[j]? = some t → Tryd.pinned.checked.prog.wantsStandIn t = false := by
  obtain rfl : f = 8 := Option.some.inj ((show Tryd.prog.funcNamed "tattle/tattlelaw13.RingOne" = some 8 by kernel_rfl).symm.trans hf) |>.symm
  obtain rfl : fn = Tryd.f8 := (Option.some.inj (Tryd.func8.symm.trans hfn)).symm
  refine ⟨by kernel_rfl, fun j t ht => ?_⟩
  rw [Tryd.params8] at ht
  have hm : t ∈ [5, 5, 9] := by simpa using Array.mem_of_getElem? ht
  have hall : ([5, 5, 9].all fun u => !Tryd.prog.wantsStandIn u) = true := by kernel_rfl
  exact (show Tryd.prog.wantsStandIn t = false by simpa using List.all_eq_true.1 hall t hm)

/-- THE CARD. -/
theorem card : Rows.RingOneCardSaid :=
  Claim7.holds_tied_plain_at .later [] _ _ _ _ said (fun _ h => by cases h) (by kernel_rfl) (fun _ h => by cases h) ringOne_row_tie rfl ⟨rfl, rfl⟩ (by kernel_rfl) rfl plain (by kernel_rfl)
end Go.Proofs.YtjmjeaipdfmglaaDoor.lawOne
