/-
  RingPlaces: a key's place is that of a point no point of which stands between its sum and it: the law returns true for every input.
-/
import Derived.Test.YtjmjeaipdfmglaaDoorLaw
import Derived.Test.YtjmjeaipdfmglaaDoorCards
import Derived.Test.YtjmjeaipdfmglaaDoorTie
namespace Go.Proofs.YtjmjeaipdfmglaaDoor.lawPlaces
open Go.ChangeMaps (open_string)
open Go.Sort Go.ChangeShapes Go.WideShapes Go.ChangeAt Go.RowKit Go.Joins Go.Proofs.YtjmjeaipdfmglaaDoor.Pure

theorem fitP_take {l : List Pt} (h : FitP l) (k : Nat) : FitP (l.take k) := fun j hj => by
  have hj' : j < k ∧ j < l.length := by rw [List.length_take] at hj; omega
  rw [pt_take l k j hj'.1]
  exact h j hj'.2
theorem fitP_cut {l : List Pt} (h : FitP l) : FitP (cutP l) := by
  unfold cutP
  split
  · exact fitP_take h _
  · exact fitP_take h _
set_option maxRecDepth 100000 in
set_option maxHeartbeats 4000000 in
theorem walk (A : Option Addr) (c : Nat) (l0 : List Pt) (key : ByteArray) (w : World) (hc : l0.length ≤ c) (hm : c ≤ maxLen) (hl : Ps w A l0) (hf : FitP l0) (hk : key.size ≤ maxLen) :
    Calls Tryd.prog 7 #[.slice A l0.length c, .string key] w fun e w' => e = .returned (.bool true) ∧ Below w.heap.size w w' := by
  have HC := Lib.hid (fun W (h : Ps W A l0) => cutP_any A c l0 W hc hm h)
  have H0 := Lib.hid hl
  have HX := Lib.hid (cutP_ps hl)
  have HFT : Hid (FitP (cutP l0)) := Lib.hid (fitP_cut hf)
  have hlen := cutP_len l0
  have HF := Lib.hid (fun W => F.few_any key W hk)
  have hks := F.few_size key
  clear hl hf hm hc
  generalize F.fewB key = k at *
  generalize cutP l0 = l at *
  obtain ⟨e, he⟩ : ∃ e, errP l = e := ⟨_, rfl⟩
  by_cases h0 : e = 0
  · subst h0
    obtain ⟨hmay, hpos⟩ := errP_zero he
    have HP := Lib.hid (fun (W : World) (h : Ps W A l) => place_any A c l k W (by omega) h (by unfold maxLen; omega) _ 0 he rfl)
    rw [if_pos rfl] at HP
    have hq := place_lt (sumK k) hpos
    have HNR : Hid (∀ i, i < l.length → ¬ ((pt l i).h - sumK k) % 18446744073709551616 < ((pt l (placeP l (sumK k))).h - sumK k) % 18446744073709551616) := Lib.hid (fun i hi => place_near (may_rise hmay) HFT.out (sumK k) (sumK_fit k) i hi)
    have HS := Lib.hid (fun g W (h : W.cell? ⟨g, 0, none⟩ = some (.string k)) => rsum_key g k W h hks)
    generalize placeP l (sumK k) = p at *
    generalize sumK k = h at *
    have q0 : (0 : Int) ≤ (p : Int) := by omega
    have q1 : (p : Int) < (l.length : Int) := by omega
    have e1 : decide ((p : Int) < 0) = false := decide_eq_false (by omega)
    have e2 : decide ((l.length : Int) ≤ (p : Int)) = false := decide_eq_false (by omega)
    have e2' : decide (l.length ≤ p) = false := decide_eq_false (by omega)
    clear he hmay hpos HFT
    go_enter Tryd.func7, Tryd.ntmps7
    go_wp2_with fail
    refine (HC.out _ H0.out).mono ?_
    rintro e w1 ⟨rfl, rfl⟩
    go_wp2_with fail
    refine (HF.out _).mono ?_
    rintro e w1 ⟨rfl, rfl⟩
    go_wp2_with fail
    refine (HP.out _ HX.out).mono ?_
    rintro e w2 ⟨rfl, hb2⟩
    have HX2 := Lib.hid (HX.out.on hb2)
    have HB2 := Lib.hid hb2
    clear hb2 HX H0
    go_wp2_with fail
    refine (HS.out _ _ (by go_simp)).mono ?_
    rintro e w3 ⟨rfl, rfl⟩
    have HX3 := Lib.hid (HX2.out.alloc (.cells #[.string k] 9))
    have HB3 := Lib.hid (HB2.out.alloc HB2.out.size (.cells #[.string k] 9))
    clear HX2 HB2
    generalize w2.alloc (.cells #[.string k] 9) = w3 at *
    go_wp2_with fail
    clear e1 e2 e2'
    go_loopw [8] (fun i wr => ∃ a : Nat, i = .int .i64 a ∧ a ≤ l.length ∧ Hid (Below w3.heap.size w3 wr)) (fun i _ => l.length - (intOf i).toNat)
    case atStart => exact ⟨0, rfl, Nat.zero_le _, Lib.hid (Below.refl _ _)⟩
    case round =>
      obtain ⟨a, rfl, ha, HB⟩ := hrel
      by_cases hlt : a < l.length
      · have a0 : (0 : Int) ≤ (a : Int) := by omega
        have a1 : (a : Int) < (l.length : Int) := by omega
        obtain ⟨ad, rfl, _, h1⟩ := (HX3.out.on HB.out) a hlt
        obtain ⟨b0, _, _⟩ := h1.flat
        obtain ⟨ad', e', _, h2⟩ := (HX3.out.on HB.out) p hq
        obtain rfl := Option.some.inj e'
        obtain ⟨c0, _, _⟩ := h2.flat
        have hd : decide (IntKind.u64.wrap ((pt l a).h - h) < IntKind.u64.wrap ((pt l p).h - h)) = false := by
          rw [IntKind.wrap_u64, IntKind.wrap_u64]
          exact decide_eq_false (by have := HNR.out a hlt; omega)
        generalize (pt l a).h = x at *
        generalize (pt l p).h = y at *
        have B0 : ∀ p' : Regrown, (grow (redrawn wr p'.d) p'.os).cell? (ad.add (a * 3)) = some (.int .u64 x) := fun p' => cell_regrown b0 p'.d p'.os
        have C0 : ∀ p' : Regrown, (grow (redrawn wr p'.d) p'.os).cell? (ad.add (p * 3)) = some (.int .u64 y) := fun p' => cell_regrown c0 p'.d p'.os
        clear h1 h2 b0 c0
        go_upto_region 11 with (fail)
        refine q_enter (by kernel_rfl) (by kernel_rfl) ?_
        iterate 15 (refine q_step ?_; intro K hK; go_simp; refine hK _ ?_; clear hK K)
        refine q_nil ?_
        intro wz hbz
        have HB4 := Lib.hid (HB.out.trans (hbz.mono HB.out.size))
        clear hbz
        go_wp2_with fail
        go_roundw
        case rel => exact ⟨a + 1, by go_num, by omega, HB4⟩
        case measure => simp [intOf]; omega
      · obtain rfl : a = l.length := by omega
        have HB4 := Lib.hid (HB3.out.trans (HB.out.mono HB3.out.size))
        go_wp2_with fail
        refine (awake_any _).mono ?_
        rintro e w7 ⟨rfl, hb⟩
        go_wp2_with fail
        go_ret
        exact ⟨rfl, HB4.out.trans (hb.mono HB4.out.size)⟩
  · have HP := Lib.hid (fun (W : World) (h : Ps W A l) => place_any A c l k W (by omega) h (by unfold maxLen; omega) 0 e he (by rw [if_neg h0]))
    have e0 : (e != 0) = true := by simpa using h0
    clear he h0
    go_enter Tryd.func7, Tryd.ntmps7
    go_wp2_with fail
    refine (HC.out _ H0.out).mono ?_
    rintro e w1 ⟨rfl, rfl⟩
    go_wp2_with fail
    refine (HF.out _).mono ?_
    rintro e w1 ⟨rfl, rfl⟩
    go_wp2_with fail
    refine (HP.out _ HX.out).mono ?_
    rintro e w2 ⟨rfl, hb2⟩
    go_wp2_with fail
    refine (awake_any _).mono ?_
    rintro e w7 ⟨rfl, hb⟩
    go_wp2_with fail
    go_ret
    exact ⟨rfl, hb2.trans (hb.mono hb2.size)⟩

theorem parOk : ∀ t ∈ (#[23, 9] : Array TypeId).toList, Tryd.prog.readableRec t = true ∧ t < Tryd.prog.types.size := by
  have hall : ([23, 9].all fun t => Tryd.prog.readableRec t && decide (t < Tryd.prog.types.size)) = true := by kernel_rfl
  intro t ht
  simpa using List.all_eq_true.1 hall t ht

set_option maxRecDepth 100000 in
/-- What the walk gives, for every argument and every world that holds the table. -/
theorem contract (H : Type) (enc : TypeId × Value → H) (W : World) (base : Nat) (args : Array Value) (ds gs : List (DataW H)) (before : List MemPlace)
    (hval : ∀ (j : Nat) t v, Tryd.f7.params[j]? = some t → args[j]? = some v → Value.okWide Tryd.prog W .any base t v)
    (hW : DataW.Whole enc Tryd.prog Tryd.f7.params.toList Rows.ringPlacesSpec.vars false W args.toList ds gs before) (_ : laidMetH Tryd.prog Rows.ringPlacesRow.laid W) :
    Calls Tryd.prog 7 args W fun e W' => ∃ v, e = .returned v ∧ Rows.ringPlacesSpec.post enc Tryd.prog Tryd.f7 false true false false W args v W' := by
  have hW' := hW
  obtain ⟨p, q, hA0, hV, rfl, hfz, hnd⟩ := hW
  have hA : DataW.TrodAll enc Tryd.prog W 0 (fun _ => true) true Tryd.f7.params.toList args.toList ds p := hA0
  rw [Tryd.params7] at hA hval
  obtain ⟨v0, vs0, d0, ds0, p0, q0, hargs, rfl, rfl, h0, r0⟩ := trodAll_cons hA
  obtain ⟨v1, vs1, d1, ds1, p1, q1, rfl, rfl, rfl, h1, r1⟩ := trodAll_cons r0
  obtain ⟨rfl, rfl, rfl⟩ := trodAll_nil r1
  obtain rfl : args = #[v0, v1] := by cases args; simp_all
  obtain ⟨rfl, rfl⟩ := trodVars_none hV
  obtain ⟨A, c, l, rfl, hc, hm, hl, hf⟩ := open_pts (hval 0 23 v0 rfl rfl) h0
  obtain ⟨k, rfl, hk⟩ := open_text (hval 1 9 v1 rfl rfl) h1
  clear hA0
  refine (walk A c l k W hc hm hl hf hk).mono fun e W' ⟨he, hb⟩ => ?_
  subst he
  exact ⟨_, rfl, law_post rfl (by rw [Tryd.params7]; exact parOk) rfl hW' rfl rfl rfl hb⟩

set_option maxRecDepth 100000 in
theorem laid_met (os : Os) : laidMet Tryd.prog Rows.ringPlacesRow.laid ((laidWorld os).forCall (fun _ _ => 0) ⟨#[], #[.slice none 0 0, .string ⟨#[]⟩], []⟩).memory :=
  laidMet_of_run' 8 (by kernel_rfl) (by kernel_rfl)
set_option maxRecDepth 100000 in
theorem reads (os : Os) {H : Type} (enc : TypeId × Value → H) : ∃ places, DataW.whole enc Tryd.prog ((laidWorld os).forCall (fun _ _ => 0) ⟨#[], #[.slice none 0 0, .string ⟨#[]⟩], []⟩).memory Tryd.f7.params.toList Rows.ringPlacesSpec.vars false (#[.slice none 0 0, .string ⟨#[]⟩] : Array Value).toList 8 = some ([.nil, .lit (.string [])], [], places) :=
  ⟨[], by kernel_rfl⟩

set_option maxRecDepth 100000 in
theorem lifted (os : Os) (started : os.Started) (H : Type) (enc : TypeId × Value → H) (F : Stop.Interp) :
    ReturnsInHanded {} Tryd.checked os 7 .any ((OpenSpec.ofChange Rows.ringPlacesSpec).preRow enc Tryd.prog Tryd.f7 Rows.ringPlacesRow.domain false Rows.ringPlacesRow.laid) (((OpenSpec.ofChange Rows.ringPlacesSpec).at F).post enc Tryd.prog Tryd.f7 false true false false) := by
  obtain ⟨places, hx⟩ := reads os enc
  refine returnsInHanded_of_row (C := Tryd.checked) (s := OpenSpec.ofChange Rows.ringPlacesSpec) own started (by kernel_rfl) Tryd.func7
    (witness_row_at (enc := enc) (C := Tryd.checked) false (laidWorld os) #[.slice none 0 0, .string ⟨#[]⟩] rfl (by kernel_rfl) (by kernel_rfl) (by kernel_rfl)
      (OpenSpec.preRow_of_cond 8 hx (by kernel_rfl) (fun k hk => by cases hk) (by kernel_rfl) (laid_met os))) ?_
  intro W base args ds gs before hval hW _ _ _ hL _ _
  exact contract H enc W base args ds gs before hval hW hL

theorem said : Rows.RingPlacesSaid :=
  OpenClaim.holds_of_cond 7 Tryd.f7 rfl rfl rfl rfl rfl rfl rfl ⟨rfl, rfl, rfl, rfl, rfl⟩ rfl rfl rfl rfl rfl (by kernel_rfl) Tryd.func7 (by kernel_rfl)
    (of_decide_eq_true (by kernel_rfl)) (by unfold Func.isWrapper; first | (rw [if_pos (by decide +kernel)]; kernel_rfl) | (rw [if_neg (by decide +kernel)]; exact ⟨rfl, rfl⟩))
    (fun os started H enc _ F => by rw [OpenClaim.pre_eq_preRow]; exact lifted os started H enc F)

/-- No parameter wants a stand-in; the program's own looks are off. -/
theorem plain (f : FuncId) (fn : Func) (hf : Tryd.pinned.checked.prog.funcNamed "tattle/tattlelaw13.RingPlaces" = some f) (hfn : Tryd.pinned.checked.prog.funcs[f]? = some fn) :
    false = Tryd.pinned.checked.prog.looks [] ∧ ∀ (j : Nat) t, fn.params[j]? = some t → Tryd.pinned.checked.prog.wantsStandIn t = false := by
  obtain rfl : f = 7 := Option.some.inj ((show Tryd.prog.funcNamed "tattle/tattlelaw13.RingPlaces" = some 7 by kernel_rfl).symm.trans hf) |>.symm
  obtain rfl : fn = Tryd.f7 := (Option.some.inj (Tryd.func7.symm.trans hfn)).symm
  refine ⟨by kernel_rfl, fun j t ht => ?_⟩
  rw [Tryd.params7] at ht
  have hm : t ∈ [23, 9] := by simpa using Array.mem_of_getElem? ht
  have hall : ([23, 9].all fun u => !Tryd.prog.wantsStandIn u) = true := by kernel_rfl
  exact (show Tryd.prog.wantsStandIn t = false by simpa using List.all_eq_true.1 hall t hm)

/-- THE CARD. -/
theorem card : Rows.RingPlacesCardSaid :=
  Claim7.holds_tied_plain_at .later [] _ _ _ _ said (fun _ h => by cases h) (by kernel_rfl) (fun _ h => by cases h) ringPlaces_row_tie rfl ⟨rfl, rfl⟩ (by kernel_rfl) rfl plain (by kernel_rfl)
end Go.Proofs.YtjmjeaipdfmglaaDoor.lawPlaces
