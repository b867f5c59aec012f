/-
  DiceEnds: dice that are at their end draw 0 for ever, and stay; draw by draw they come to it, each draw one octet: the law returns true for every input.
-/
import Derived.Test.YtincniaekhiceaaLaw
namespace Go.Proofs.Ytincniaekhiceaa.lawEnds
open Go.ChangeShapes Go.WideShapes Go.ChangeAt Go.RowKit Go.Proofs.Ytincniaekhiceaa.Pure

set_option maxRecDepth 100000 in
set_option maxHeartbeats 2000000 in
theorem walk (s0 : ByteArray) (a0 : Int) (m : Nat) (w : World) (hs0 : s0.size ≤ maxLen) (hm : m ≤ 255) :
    Calls Try.prog 7 #[.agg #[.string s0, .int .i64 a0], .int .u8 m] w fun e w' => e = .returned (.bool true) ∧ Below w.heap.size w w' := by
  have HF := Lib.hid (fun W => few_any s0 a0 W hs0)
  have hft := fewB_size s0
  generalize fewB s0 = s at *
  clear hs0
  by_cases hbad : a0 < 0 ∨ (s.size : Int) < a0
  · have HK := Lib.hid (fun W => may_no s a0 W hbad)
    clear hbad
    go_enter Try.func7, Try.ntmps7
    go_wp2_with fail
    refine (HF.out _).mono ?_
    rintro e w1 ⟨rfl, hb1⟩
    obtain ⟨x0, x1, xf0, xf1⟩ := (Box.new w s0 a0 23).on hb1
    have hz1 : w.heap.size < w1.heap.size := by have := hb1.size; simp at this; omega
    have HB1 : Hid (Below w.heap.size w w1) := Lib.hid (((Below.refl _ _).alloc (Nat.le_refl _) _).trans (hb1.mono (by simp)))
    clear hb1
    go_wp2_with fail
    refine (HK.out _).mono ?_
    rintro e w2 ⟨rfl, hb2⟩
    have HB2 : Hid (Below w.heap.size w w2) := Lib.hid (((HB1.out.setCell (by simp) _).setCell (by simp) _).trans (hb2.mono (by simp [World.setCell]; omega)))
    clear hb2
    go_wp2_with fail
    refine (awake_any _).mono ?_
    rintro e w3 ⟨rfl, hb3⟩
    go_wp2_with fail
    go_ret
    exact ⟨rfl, HB2.out.trans (hb3.mono HB2.out.size)⟩
  · obtain ⟨a, rfl⟩ : ∃ a : Nat, a0 = a := ⟨a0.toNat, by omega⟩
    have ha : a ≤ s.size := by omega
    clear hbad
    have HK := Lib.hid (fun W => may_yes s a W ha)
    have HN : Hid (s.data.toList.length = s.size) := Lib.hid (by simp)
    have HC := Lib.hid (fun (p : Nat) (hp : p ≤ s.size) W => below_yes s p (1 + m) W (by omega) hp (by omega) (by omega))
    rw [show ((1 + m : Nat) : Int) = 1 + (m : Int) by simp] at HC
    go_enter Try.func7, Try.ntmps7
    go_wp2_with fail
    refine (HF.out _).mono ?_
    rintro e w1 ⟨rfl, hb1⟩
    have HX := Lib.hid (((Box.new w s0 a 23).on hb1).put s a)
    obtain ⟨x0, x1, xf0, xf1⟩ := (Box.new w s0 a 23).on hb1
    have hz1 : w.heap.size < w1.heap.size := by have := hb1.size; simp at this; omega
    have HB1 : Hid (Below w.heap.size w w1) := Lib.hid (((Below.refl _ _).alloc (Nat.le_refl _) _).trans (hb1.mono (by simp)))
    clear hb1
    go_wp2_with fail
    refine (HK.out _).mono ?_
    rintro e w2 ⟨rfl, hb2⟩
    have HB2 : Hid (Below w.heap.size w w2) := Lib.hid (((HB1.out.setCell (by simp) _).setCell (by simp) _).trans (hb2.mono (by simp [World.setCell]; omega)))
    have HX2 := Lib.hid (HX.out.on hb2)
    clear hb2 x0 x1 xf0 xf1 HX HB1
    obtain ⟨x0, x1, xf0, xf1⟩ := HX2.out
    go_wp2_with fail
    go_loopw [6] (fun i wr => ∃ k : Nat, k ≤ s.size ∧ i = .int .i64 k ∧ Hid (Box wr w.heap.size s k) ∧ Hid (Below w.heap.size w wr)) (fun i _ => s.size - (intOf i).toNat)
    case atStart => exact ⟨a, ha, rfl, HX2, HB2⟩
    case round =>
      clear x0 x1 xf0 xf1 HX2 HB2
      obtain ⟨k, hk, rfl, hx, hb⟩ := hrel
      obtain ⟨x0, x1, xf0, xf1⟩ := hx.out
      have hzx := hx.out.lt
      by_cases hlt : k < s.size
      · have hd : Hid (drawn s.data.toList k (1 + m) = s[k].toNat % (1 + m)) := Lib.hid (by unfold drawn; rw [octet_at s k hlt])
        have hn : Hid (next s.data.toList k = k + 1) := Lib.hid (by unfold next; rw [if_pos (by rw [HN.out]; exact hlt)])
        have HCk := Lib.hid (HC.out k hk)
        rw [hd.out, hn.out] at HCk
        go_wp2_with fail
        refine (HCk.out _).mono ?_
        rintro e w3 ⟨rfl, hb3⟩
        clear x0 x1 xf0 xf1
        obtain ⟨x0, x1, xf0, xf1⟩ := hx.out.on hb3
        have HX3 := Lib.hid (hx.out.on hb3)
        have HB3 := Lib.hid (hb.out.trans (hb3.mono hb.out.size))
        have hz3 : w.heap.size < w3.heap.size := by have := hb3.size; omega
        have k0 : (0 : Int) ≤ (k : Int) := by omega
        have k1 : (k : Int) < (s.size : Int) := by omega
        have ho : s[k].toNat < 256 := s[k].toNat_lt
        clear hb3
        go_wp2_with fail
        go_roundw
        case rel => exact ⟨k + 1, by omega, by go_num, Lib.hid (HX3.out.put s _ |>.alloc _), Lib.hid (((HB3.out.setCell (by simp) _).setCell (by simp) _).alloc (by simp [World.setCell]; omega) _)⟩
        case measure => simp [intOf]; omega
      · have hke : k = s.size := by omega
        subst hke
        have hd : Hid (drawn s.data.toList s.size (1 + m) = 0) := Lib.hid (drawn_end _ _ _ (by rw [HN.out]; omega))
        have hn : Hid (next s.data.toList s.size = s.size) := Lib.hid (by unfold next; rw [if_neg (by rw [HN.out]; omega)])
        have HCk := Lib.hid (HC.out s.size hk)
        rw [hd.out, hn.out] at HCk
        go_wp2_with fail
        refine (HCk.out _).mono ?_
        rintro e w3 ⟨rfl, hb3⟩
        clear x0 x1 xf0 xf1
        obtain ⟨x0, x1, xf0, xf1⟩ := hx.out.on hb3
        have HB3 := Lib.hid (hb.out.trans (hb3.mono hb.out.size))
        have hz3 : w.heap.size < w3.heap.size := by have := hb3.size; omega
        have hq : (s.toList == s.toList) = true := by simp
        clear hb3
        go_wp2_with fail
        refine (awake_any _).mono ?_
        rintro e w5 ⟨rfl, hb5⟩
        go_wp2_with fail
        go_ret
        exact ⟨rfl, (HB3.out.alloc HB3.out.size _).trans (hb5.mono (by simp; have := HB3.out.size; omega))⟩
/-! ### the statement -/
theorem run_walk (s : ByteArray) (a m : Int) (w : World) (hs : s.size ≤ maxLen) (hm : 0 ≤ m ∧ m ≤ 255) :
    Calls Try.prog 7 #[.agg #[.string s, .int .i64 a], .int .u8 m] w fun e w' => e = .returned (.bool true) ∧ Below w.heap.size w w' := by
  obtain ⟨m, rfl⟩ := Int.eq_ofNat_of_zero_le hm.1
  exact walk s a m w hs (by omega)

theorem parOk : ∀ t ∈ (#[23, 5] : Array TypeId).toList, Try.prog.readableRec t = true ∧ t < Try.prog.types.size := by
  have hall : ([23, 5].all fun t => Try.prog.readableRec t && decide (t < Try.prog.types.size)) = true := by kernel_rfl
  intro t ht
  simpa using List.all_eq_true.1 hall t ht

/-- What the walk gives, for every argument. -/
theorem contract (H : Type) (enc : TypeId × Value → H) (W : World) (base : Nat) (args : Array Value) (ds gs : List (DataW H)) (before : List MemPlace)
    (hval : ∀ (j : Nat) t v, Try.f7.params[j]? = some t → args[j]? = some v → Value.okWide Try.prog W .any base t v)
    (hW : DataW.Whole enc Try.prog Try.f7.params.toList Rows.diceEndsSpec.vars false W args.toList ds gs before) :
    Calls Try.prog 7 args W fun e W' => ∃ v, e = .returned v ∧ Rows.diceEndsSpec.post enc Try.prog Try.f7 false true false false W args v W' := by
  have hW' := hW
  obtain ⟨p, q, hA0, hV, rfl, hfz, hnd⟩ := hW
  have hA : DataW.TrodAll enc Try.prog W 0 (fun _ => true) true Try.f7.params.toList args.toList ds p := hA0
  rw [Try.params7] at hA hval
  obtain ⟨v0, vs0, d0, ds0, p0, q0, hargs, rfl, rfl, h0, r0⟩ := trodAll_cons hA
  obtain ⟨v1, vs1, d1, ds1, p1, q1, rfl, rfl, rfl, h1, r1⟩ := trodAll_cons r0
  obtain ⟨rfl, rfl, rfl⟩ := trodAll_nil r1
  obtain rfl : args = #[v0, v1] := by cases args; simp_all
  obtain ⟨rfl, rfl⟩ := trodVars_none hV
  obtain ⟨s, a, rfl, hs, ha0, ha1⟩ := open_dice (hval 0 23 v0 rfl rfl) h0
  obtain ⟨m, rfl, rfl, rfl, wm⟩ := open_int Try.underlying5 (hval 1 5 v1 rfl rfl) h1
  clear hA0
  refine (run_walk s a m W hs (by simpa [Lit.wf, IntKind.min, IntKind.max, IntKind.signed, IntKind.bits] using wm)).mono fun e W' ⟨he, hb⟩ => ?_
  subst he
  exact ⟨_, rfl, law_post rfl (by rw [Try.params7]; exact parOk) rfl hW' rfl rfl rfl hb⟩

set_option maxRecDepth 100000 in
theorem lifted (os : Os) (started : os.Started) (H : Type) (enc : TypeId × Value → H) :
    ReturnsInHanded {} Try.checked os 7 .any (Rows.diceEndsSpec.pre6 enc Try.prog Try.f7 Rows.diceEndsRow.domain false) (Rows.diceEndsSpec.post enc Try.prog Try.f7 false true false false) := by
  refine returnsInHanded_of_change (C := Try.checked) own started (by kernel_rfl) Try.func7
    (ChangeSpec.witness6 (enc := enc) (C := Try.checked) false ⟨#[], #[.agg #[.string ⟨#[]⟩, .int .i64 0], .int .u8 0], []⟩ 8 (by kernel_rfl) (by kernel_rfl) (by kernel_rfl) (by kernel_rfl)) ?_
  intro W base args ds gs before hval hW _ _
  exact contract H enc W base args ds gs before hval hW

/-- THE STATEMENT. -/
theorem said : Rows.DiceEndsSaid :=
  OpenClaim.holds_of_wide 7 Try.f7 rfl rfl rfl rfl rfl rfl rfl ⟨rfl, rfl, rfl, rfl, rfl⟩ rfl rfl rfl rfl rfl (by kernel_rfl) Try.func7 (by kernel_rfl)
    (of_decide_eq_true (by kernel_rfl)) (by unfold Func.isWrapper; first | (rw [if_pos (by decide +kernel)]; kernel_rfl) | (rw [if_neg (by decide +kernel)]; exact ⟨rfl, rfl⟩))
    (fun os started H enc _ => lifted os started H enc)
end Go.Proofs.Ytincniaekhiceaa.lawEnds
