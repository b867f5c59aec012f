/-
  THE LAW KnowJoins: the join of any is the document's, taken one after the other, or refused.
  For every list; the law itself looks at its first twenty.
-/
import Derived.Test.YtcichjphfdepmaaLaw
namespace Go.Proofs.Ytcichjphfdepmaa.lawJoins
open Go.Sort Go.ChangeShapes Go.WideShapes Go.ChangeAt Go.RowKit Go.Joins Go.Proofs.Ytcichjphfdepmaa.Pure

set_option maxRecDepth 100000 in
set_option maxHeartbeats 4000000 in
theorem run_walk (A : Option Addr) (c n0 : Nat) (l : List Kn) (w : World) (HF : Hid (∀ W : World, Calls Try.prog 17 #[.slice A n0 c] W fun e w' => e = .returned (.slice A l.length c) ∧ W = w')) (HL : Hid (Lst w A l)) (hn : l.length ≤ 20) (R : Kn) (er : Int)
    (HJ : Hid (∀ W : World, Lst W A l → Calls Try.prog 18 #[.slice A l.length c] W fun e w' => e = .returned (.tuple #[.agg #[.int .u64 R.i, .int .i64 R.s], .int .i64 er]) ∧ Below W.heap.size W w'))
    (HT : Hid (mayL l = true → R = joinL l ∧ er = 0)) (HN : Hid (mayL l = false → R = z0 ∧ er = 1)) :
    Calls Try.prog 4 #[.slice A n0 c] w fun e w' => e = .returned (.bool true) ∧ Below w.heap.size w w' := by
  have HA : Hid (∀ ad, A = some ad → 0 < l.length → ad.block < w.heap.size) := Lib.hid fun ad e hl => by
    obtain ⟨ad', e', h1, _⟩ := HL.out 0 hl
    rw [e] at e'
    cases e'
    exact h1
  have HJR : Hid (joinL l = joinL (l.take l.length)) := Lib.hid (by rw [List.take_length])
  have HML : Hid (mayL l = true ↔ ∀ j, j < l.length → mayK (kn l j) = true) := Lib.hid (mayL_iff l)
  generalize mayL l = V at *
  generalize joinL l = J at *
  go_enter Try.func4, Try.ntmps4
  go_wp2_with fail
  refine (HF.out _).mono ?_
  rintro e w' ⟨rfl, rfl⟩
  go_wp2_with fail
  refine (HJ.out _ HL.out).mono ?_
  rintro e w1 ⟨rfl, hb1⟩
  have HB1 := Lib.hid hb1
  clear hb1 HF HJ
  go_upto_region 3 with (fail)
  have BX2 := Lib.hid (Vr.new w1 R 24)
  have HB2 : Hid (Below w.heap.size w (w1.alloc (.cells #[.int .u64 R.i, .int .i64 R.s] 24))) := Lib.hid (HB1.out.alloc HB1.out.size _)
  have hg1 : w.heap.size ≤ w1.heap.size := HB1.out.size
  generalize w1.alloc (.cells #[.int .u64 R.i, .int .i64 R.s] 24) = w2 at *
  generalize w1.heap.size = gx at *
  clear HB1
  go_upto_region 4 with (fail)
  have BW3 := Lib.hid (Vr.zero (w := w2) rfl 24)
  have BX3 := Lib.hid (BX2.out.alloc (.cells #[.int .u64 0, .int .i64 0] 24))
  have HB3 : Hid (Below w.heap.size w (w2.alloc (.cells #[.int .u64 0, .int .i64 0] 24))) := Lib.hid (HB2.out.alloc HB2.out.size _)
  have hg2 : gx < w2.heap.size := BX2.out.lt
  generalize w2.alloc (.cells #[.int .u64 0, .int .i64 0] 24) = w3 at *
  generalize w2.heap.size = gw at *
  clear BX2 HB2
  go_wp2_with fail
  go_loopw [6] (fun i wr => ∃ k : Nat, i = .int .i64 k ∧ k ≤ l.length ∧ Hid (∀ j, j < k → mayK (kn l j) = true) ∧ Hid (Vr wr gx R) ∧ Hid (Vr wr gw (joinL (l.take k))) ∧ Hid (Below w.heap.size w wr)) (fun i _ => l.length - (intOf i).toNat)
  case atStart => exact ⟨0, rfl, Nat.zero_le _, Lib.hid (fun j hj => absurd hj (Nat.not_lt_zero j)), BX3, BW3, HB3⟩
  case round =>
    clear BX3 BW3 HB3
    obtain ⟨k, rfl, hk, hok, hbx, hbw, hb⟩ := hrel
    by_cases hlt : k < l.length
    · obtain ⟨ad, rfl, hlo, h1⟩ := (HL.out.on hb.out) k hlt
      obtain ⟨a0, a1⟩ := h1.flat
      have hne : gw ≠ ad.block := by have := HA.out ad rfl (by omega); omega
      have HJ := Lib.hid (join_take_succ l k hlt)
      have HMY := Lib.hid (fun W => rmay_any (kn l k) W)
      have k0 : (0 : Int) ≤ (k : Int) := by omega
      have k1 : (k : Int) < (l.length : Int) := by omega
      have e0 : decide ((k : Int) < (l.length : Int)) = true := by simpa using k1
      rcases hM : mayK (kn l k) with _ | _
      · have hV : V = false := by
          rcases V with _ | _
          · rfl
          · have := HML.out.1 rfl k hlt
            rw [hM] at this; cases this
        obtain ⟨rfl, rfl⟩ := HN.out hV
        rw [hM] at HMY
        generalize kn l k = K at *
        clear hV hM h1 HT HN HJ hne
        go_wp2_with fail
        refine (HMY.out _).mono ?_
        rintro e w5 ⟨rfl, hb5⟩
        have HB5 : Hid (Below w.heap.size w w5) := Lib.hid (hb.out.trans (hb5.mono hb.out.size))
        have BX5 := Lib.hid (hbx.out.on hb5)
        clear hb5 hbx hbw hb HMY a0 a1
        obtain ⟨⟨x0, x1⟩, _⟩ := BX5.out
        simp only [show z0.i = 0 from rfl, show z0.s = 0 from rfl] at x0 x1
        go_wp2_with fail
        refine (awake_any _).mono ?_
        rintro e wE ⟨rfl, hbE⟩
        have HE : Hid (Below w.heap.size w wE) := Lib.hid (HB5.out.trans (hbE.mono HB5.out.size))
        clear hbE
        go_wp2_with fail
        go_ret
        exact ⟨rfl, HE.out⟩
      · have HS : Hid (∀ j, j < k + 1 → mayK (kn l j) = true) := Lib.hid (fun j hj => by
          rcases Nat.lt_or_ge j k with hjk | hjk
          · exact hok.out j hjk
          · obtain rfl : j = k := by omega
            exact hM)
        have HJN := Lib.hid (fun W => rjoin_any (kn l k) (joinL (l.take k)) W)
        rw [← HJ.out] at HJN
        rw [hM] at HMY
        generalize hN : joinL (l.take (k + 1)) = N at *
        generalize hQ : joinL (l.take k) = M at *
        generalize hK : kn l k = K at *
        clear hM hQ hK h1 HJ HT HN hok
        go_wp2_with fail
        refine (HMY.out _).mono ?_
        rintro e w5 ⟨rfl, hb5⟩
        have HB5 : Hid (Below w.heap.size w w5) := Lib.hid (hb.out.trans (hb5.mono hb.out.size))
        have BX5 := Lib.hid (hbx.out.on hb5)
        have BW5 := Lib.hid (hbw.out.on hb5)
        have a0' := (hb5.cell (p := ad.add (k * 2)) (by rw [block_add]; exact hlo)).trans a0
        have a1' := (hb5.cell (p := ⟨(ad.add (k * 2)).block, (ad.add (k * 2)).off + 1, none⟩) (by show (ad.add (k * 2)).block < _; rw [block_add]; exact hlo)).trans a1
        clear hb5 hbx hbw hb HMY a0 a1
        obtain ⟨⟨m0, m1⟩, fz⟩ := BW5.out
        have A0 := fun d os => cell_regrown a0' d os
        have A1 := fun d os => cell_regrown a1' d os
        have M0 := fun d os => cell_regrown m0 d os
        have M1 := fun d os => cell_regrown m1 d os
        go_upto_region 9 with (fail)
        refine t_region 6 (by kernel_rfl) (by kernel_rfl) ?_
        simp only [List.take_succ_cons, List.take_zero, List.drop_succ_cons, List.drop_zero]
        iterate 6 (refine q_step ?_; intro K hK; go_simp; first | (refine hK _ ?_; clear hK K) | (refine ⟨_, fun p => Calls.regrown_of (HJN.out _), hK _ ?_⟩; clear hK K))
        refine q_nil ?_
        intro wy hby
        have HBY : Hid (Below w.heap.size w wy) := Lib.hid (HB5.out.trans (hby.mono HB5.out.size))
        have BX6 := Lib.hid (BX5.out.on hby)
        have BW6 := Lib.hid (BW5.out.on hby)
        clear A0 A1 M0 M1 m0 m1 fz a0' a1' hby HB5 BX5 BW5 HJN
        obtain ⟨⟨m0, m1⟩, fz⟩ := BW6.out
        have fz0 := fz 0
        have fz1 := fz 1
        have HE : Hid (Below w.heap.size w ((wy.setCell ⟨gw, 0, none⟩ (.int .u64 N.i)).setCell ⟨gw, 1, none⟩ (.int .i64 N.s))) := Lib.hid ((HBY.out.setCell (by simp; omega) _).setCell (by simp; omega) _)
        have HWN := Lib.hid (BW6.out.set N)
        have HXN := Lib.hid (BX6.out.apart (c := gw) (by omega) N)
        clear fz
        go_wp2_with fail
        go_roundw
        case rel => exact ⟨k + 1, by go_num, by omega, HS, HXN, Lib.hid (by rw [hN]; exact HWN.out), HE⟩
        case measure => simp [intOf]; omega
    · obtain rfl : k = l.length := by omega
      have e0 : decide ((l.length : Int) < (l.length : Int)) = false := by simp
      obtain ⟨rfl, rfl⟩ := HT.out (HML.out.2 hok.out)
      rw [← HJR.out] at hbw
      obtain ⟨⟨x0, x1⟩, _⟩ := hbx.out
      obtain ⟨⟨m0, m1⟩, _⟩ := hbw.out
      go_wp2_with fail
      refine (awake_any _).mono ?_
      rintro e wE ⟨rfl, hbE⟩
      have HE : Hid (Below w.heap.size w wE) := Lib.hid (hb.out.trans (hbE.mono hb.out.size))
      clear hbE
      go_wp2_with fail
      go_ret
      exact ⟨rfl, HE.out⟩

theorem walk (A : Option Addr) (c : Nat) (l : List Kn) (w : World) (hc : l.length ≤ c) (hm : c ≤ maxLen) (h : Lst w A l) :
    Calls Try.prog 4 #[.slice A l.length c] w fun e w' => e = .returned (.bool true) ∧ Below w.heap.size w w' := by
  have hl : (l.take 20).length ≤ 20 := by rw [List.length_take]; omega
  rcases hv : mayL (l.take 20) with _ | _
  · exact run_walk A c l.length (l.take 20) w (Lib.hid (few_any A c l w hc hm h)) (Lib.hid (h.take 20)) hl z0 1 (Lib.hid fun W hW => join_bad A c _ W (by omega) hW hv) (Lib.hid (by rw [hv]; intro h; cases h)) (Lib.hid fun _ => ⟨rfl, rfl⟩)
  · exact run_walk A c l.length (l.take 20) w (Lib.hid (few_any A c l w hc hm h)) (Lib.hid (h.take 20)) hl _ 0 (Lib.hid fun W hW => join_yes A c _ W (by omega) hW hv) (Lib.hid fun _ => ⟨rfl, rfl⟩) (Lib.hid (by rw [hv]; intro h; cases h))

/-! ### the statement -/
theorem parOk : ∀ t ∈ (#[35] : Array TypeId).toList, Try.prog.readableRec t = true ∧ t < Try.prog.types.size := by
  have hall : ([35].all fun t => Try.prog.readableRec t && decide (t < Try.prog.types.size)) = true := by kernel_rfl
  intro t ht
  simpa using List.all_eq_true.1 hall t ht

/-- What the walk gives, for every argument. -/
theorem contract (H : Type) (enc : TypeId × Value → H) (W : World) (base : Nat) (args : Array Value) (ds gs : List (DataW H)) (before : List MemPlace)
    (hval : ∀ (j : Nat) t v, Try.f4.params[j]? = some t → args[j]? = some v → Value.okWide Try.prog W .any base t v)
    (hW : DataW.Whole enc Try.prog Try.f4.params.toList Rows.knowJoinsSpec.vars false W args.toList ds gs before) :
    Calls Try.prog 4 args W fun e W' => ∃ v, e = .returned v ∧ Rows.knowJoinsSpec.post enc Try.prog Try.f4 false true false false W args v W' := by
  have hW' := hW
  obtain ⟨p, q, hA0, hV, rfl, hfz, hnd⟩ := hW
  have hA : DataW.TrodAll enc Try.prog W 0 (fun _ => true) true Try.f4.params.toList args.toList ds p := hA0
  rw [Try.params4] at hA hval
  obtain ⟨v0, vs0, d0, ds0, p0, q0, hargs, rfl, rfl, h0, r0⟩ := trodAll_cons hA
  obtain ⟨rfl, rfl, rfl⟩ := trodAll_nil r0
  obtain rfl : args = #[v0] := by cases args; simp_all
  obtain ⟨rfl, rfl⟩ := trodVars_none hV
  obtain ⟨A, c, xs, rfl, hc, hm, hl, hf⟩ := open_kns (hval 0 35 v0 rfl rfl) h0
  clear hA0
  refine (walk A c xs W hc hm hl).mono fun e W' ⟨he, hb⟩ => ?_
  subst he
  exact ⟨_, rfl, law_post rfl (by rw [Try.params4]; exact parOk) rfl hW' rfl rfl rfl hb⟩

set_option maxRecDepth 100000 in
theorem lifted (os : Os) (started : os.Started) (H : Type) (enc : TypeId × Value → H) :
    ReturnsInHanded {} Try.checked os 4 .any (Rows.knowJoinsSpec.pre6 enc Try.prog Try.f4 Rows.knowJoinsRow.domain false) (Rows.knowJoinsSpec.post enc Try.prog Try.f4 false true false false) := by
  refine returnsInHanded_of_change (C := Try.checked) own started (by kernel_rfl) Try.func4
    (ChangeSpec.witness6 (enc := enc) (C := Try.checked) false ⟨#[], #[.slice none 0 0], []⟩ 8 (by kernel_rfl) (by kernel_rfl) (by kernel_rfl) (by kernel_rfl)) ?_
  intro W base args ds gs before hval hW _ _
  exact contract H enc W base args ds gs before hval hW

/-- THE STATEMENT. -/
theorem said : Rows.KnowJoinsSaid :=
  OpenClaim.holds_of_wide 4 Try.f4 rfl rfl rfl rfl rfl rfl rfl ⟨rfl, rfl, rfl, rfl, rfl⟩ rfl rfl rfl rfl rfl (by kernel_rfl) Try.func4 (by kernel_rfl)
    (of_decide_eq_true (by kernel_rfl)) (by unfold Func.isWrapper; first | (rw [if_pos (by decide +kernel)]; kernel_rfl) | (rw [if_neg (by decide +kernel)]; exact ⟨rfl, rfl⟩))
    (fun os started H enc _ => lifted os started H enc)
end Go.Proofs.Ytcichjphfdepmaa.lawJoins
