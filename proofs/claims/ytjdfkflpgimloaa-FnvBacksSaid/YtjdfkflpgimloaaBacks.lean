/-
  FnvBacks: On and Back undo one another, and by one text behind another one it goes on, and back, step by step: the law returns true for every input.
-/
import Derived.Test.YtjdfkflpgimloaaLaw
namespace Go.Proofs.Ytjdfkflpgimloaa.lawBacks
open Go.ChangeShapes Go.WideShapes Go.ChangeAt Go.RowKit Go.Joins Go.Proofs.Ytjdfkflpgimloaa.Pure

set_option maxRecDepth 100000 in
set_option maxHeartbeats 4000000 in
theorem way (h h1 h2 h3 h4 h5 s1 s2 : BitVec 64) (a0 b0 a b : ByteArray) (w : World)
    (HF : Hid (∀ W, Calls Try.prog 9 #[.string a0] W fun e w' => e = .returned (.string a) ∧ W = w'))
    (HG : Hid (∀ W, Calls Try.prog 9 #[.string b0] W fun e w' => e = .returned (.string b) ∧ W = w'))
    (C1 : Hid (∀ W, Calls Try.prog 12 #[.int .u64 (h.toNat : Int), .string a] W fun e w' => e = .returned (.int .u64 (h1.toNat : Int)) ∧ W = w'))
    (C2 : Hid (∀ W, Calls Try.prog 14 #[.int .u64 (h1.toNat : Int), .string a] W fun e w' => e = .returned (.int .u64 (h.toNat : Int)) ∧ W = w'))
    (C3 : Hid (∀ W, Calls Try.prog 14 #[.int .u64 (h.toNat : Int), .string a] W fun e w' => e = .returned (.int .u64 (h2.toNat : Int)) ∧ W = w'))
    (C4 : Hid (∀ W, Calls Try.prog 12 #[.int .u64 (h2.toNat : Int), .string a] W fun e w' => e = .returned (.int .u64 (h.toNat : Int)) ∧ W = w'))
    (C5 : Hid (∀ W, Calls Try.prog 12 #[.int .u64 (h.toNat : Int), .string (a ++ b)] W fun e w' => e = .returned (.int .u64 (h3.toNat : Int)) ∧ W = w'))
    (C6 : Hid (∀ W, Calls Try.prog 12 #[.int .u64 (h1.toNat : Int), .string b] W fun e w' => e = .returned (.int .u64 (h3.toNat : Int)) ∧ W = w'))
    (C7 : Hid (∀ W, Calls Try.prog 14 #[.int .u64 (h.toNat : Int), .string (a ++ b)] W fun e w' => e = .returned (.int .u64 (h4.toNat : Int)) ∧ W = w'))
    (C8 : Hid (∀ W, Calls Try.prog 14 #[.int .u64 (h.toNat : Int), .string b] W fun e w' => e = .returned (.int .u64 (h5.toNat : Int)) ∧ W = w'))
    (C9 : Hid (∀ W, Calls Try.prog 14 #[.int .u64 (h5.toNat : Int), .string a] W fun e w' => e = .returned (.int .u64 (h4.toNat : Int)) ∧ W = w'))
    (S1 : Hid (∀ (W : World) (g : Nat), W.cell? ⟨g, 0, none⟩ = some (.string a) → Calls Try.prog 10 #[.slice (some ⟨g, 0, none⟩) 1 1] W fun e w' => e = .returned (.int .u64 (s1.toNat : Int)) ∧ W = w'))
    (S2 : Hid (∀ (W : World) (g : Nat), W.cell? ⟨g, 0, none⟩ = some (.string a) → W.cell? ⟨g, 1, none⟩ = some (.string b) → Calls Try.prog 10 #[.slice (some ⟨g, 0, none⟩) 2 2] W fun e w' => e = .returned (.int .u64 (s2.toNat : Int)) ∧ W = w'))
    (S3 : Hid (∀ W, Calls Try.prog 12 #[.int .u64 (s1.toNat : Int), .string b] W fun e w' => e = .returned (.int .u64 (s2.toNat : Int)) ∧ W = w')) (ha : a.size ≤ 300) (hb : b.size ≤ 300) :
    Calls Try.prog 4 #[.int .u64 (h.toNat : Int), .string a0, .string b0] w fun e w' => e = .returned (.bool true) ∧ Below w.heap.size w w' := by
  go_enter Try.func4, Try.ntmps4
  go_wp2_with fail
  refine (HF.out _).mono ?_
  rintro e w' ⟨rfl, rfl⟩
  go_wp2_with fail
  refine (HG.out _).mono ?_
  rintro e w' ⟨rfl, rfl⟩
  go_wp2_with fail
  refine (C1.out _).mono ?_
  rintro e w' ⟨rfl, rfl⟩
  go_wp2_with fail
  refine (C2.out _).mono ?_
  rintro e w' ⟨rfl, rfl⟩
  go_wp2_with fail
  refine (C3.out _).mono ?_
  rintro e w' ⟨rfl, rfl⟩
  go_wp2_with fail
  refine (C4.out _).mono ?_
  rintro e w' ⟨rfl, rfl⟩
  go_wp2_with fail
  refine (C5.out _).mono ?_
  rintro e w' ⟨rfl, rfl⟩
  go_wp2_with fail
  refine (C1.out _).mono ?_
  rintro e w' ⟨rfl, rfl⟩
  go_wp2_with fail
  refine (C6.out _).mono ?_
  rintro e w' ⟨rfl, rfl⟩
  go_wp2_with fail
  refine (C7.out _).mono ?_
  rintro e w' ⟨rfl, rfl⟩
  go_wp2_with fail
  refine (C8.out _).mono ?_
  rintro e w' ⟨rfl, rfl⟩
  go_wp2_with fail
  refine (C9.out _).mono ?_
  rintro e w' ⟨rfl, rfl⟩
  go_wp2_with fail
  refine (S2.out _ _ (by go_simp) (by go_simp)).mono ?_
  rintro e w' ⟨rfl, rfl⟩
  go_wp2_with fail
  refine (S1.out _ _ (by go_simp)).mono ?_
  rintro e w' ⟨rfl, rfl⟩
  go_wp2_with fail
  refine (S3.out _).mono ?_
  rintro e w' ⟨rfl, rfl⟩
  go_wp2_with fail
  refine (awake_any _).mono ?_
  rintro e w4 ⟨rfl, hb4⟩
  go_wp2_with fail
  go_ret
  exact ⟨rfl, (((Below.refl w.heap.size w).alloc (Nat.le_refl _) _).alloc (by simp) _).trans (hb4.mono (by simp; omega))⟩

theorem walk (h : BitVec 64) (a0 b0 : ByteArray) (w : World) (ha : a0.size ≤ maxLen) (hb : b0.size ≤ maxLen) :
    Calls Try.prog 4 #[.int .u64 (h.toNat : Int), .string a0, .string b0] w fun e w' => e = .returned (.bool true) ∧ Below w.heap.size w w' := by
  have sa := few_size a0
  have sb := few_size b0
  have HF := Lib.hid (fun W => few_any a0 W ha)
  have HG := Lib.hid (fun W => few_any b0 W hb)
  generalize fewB a0 = a at *
  generalize fewB b0 = b at *
  have la : a.size ≤ maxLen := by unfold maxLen; omega
  have lb : b.size ≤ maxLen := by unfold maxLen; omega
  have lab : (a ++ b).size ≤ maxLen := by unfold maxLen; simp; omega
  refine way h (on h a.data.toList) (back h a.data.toList) (on h (a ++ b).data.toList) (back h (a ++ b).data.toList) (back h b.data.toList) (on first a.data.toList) (on first (a.data.toList ++ b.data.toList)) a0 b0 a b w HF HG
    (Lib.hid fun W => on_any h a W la) (Lib.hid fun W => ?_) (Lib.hid fun W => back_any h a W la) (Lib.hid fun W => ?_) (Lib.hid fun W => on_any h (a ++ b) W lab) (Lib.hid fun W => ?_)
    (Lib.hid fun W => back_any h (a ++ b) W lab) (Lib.hid fun W => back_any h b W lb) (Lib.hid fun W => ?_) (Lib.hid fun W g hc => sum_one g a W hc la) (Lib.hid fun W g h0 h1 => sum_two g a b W h0 h1 la lb) (Lib.hid fun W => ?_) sa sb
  · have := back_any (on h a.data.toList) a W la
    rwa [back_on] at this
  · have := on_any (back h a.data.toList) a W la
    rwa [on_back] at this
  · have := on_any (on h a.data.toList) b W lb
    rwa [← on_append, ← cat_flat] at this
  · have := back_any (back h b.data.toList) a W la
    rwa [← back_append, ← cat_flat] at this
  · have := on_any (on first a.data.toList) b W lb
    rwa [← on_append] at this

theorem parOk : ∀ t ∈ (#[23, 9, 9] : Array TypeId).toList, Try.prog.readableRec t = true ∧ t < Try.prog.types.size := by
  have hall : ([23, 9, 9].all fun t => Try.prog.readableRec t && decide (t < Try.prog.types.size)) = true := by kernel_rfl
  intro t ht
  simpa using List.all_eq_true.1 hall t ht

set_option maxRecDepth 100000 in
/-- What the walk gives, for every argument. -/
theorem contract (H : Type) (enc : TypeId × Value → H) (W : World) (base : Nat) (args : Array Value) (ds gs : List (DataW H)) (before : List MemPlace)
    (hval : ∀ (j : Nat) t v, Try.f4.params[j]? = some t → args[j]? = some v → Value.okWide Try.prog W .any base t v)
    (hW : DataW.Whole enc Try.prog Try.f4.params.toList Rows.fnvBacksSpec.vars false W args.toList ds gs before) :
    Calls Try.prog 4 args W fun e W' => ∃ v, e = .returned v ∧ Rows.fnvBacksSpec.post enc Try.prog Try.f4 false true false false W args v W' := by
  have hW' := hW
  obtain ⟨p, q, hA0, hV, rfl, hfz, hnd⟩ := hW
  have hA : DataW.TrodAll enc Try.prog W 0 (fun _ => true) true Try.f4.params.toList args.toList ds p := hA0
  rw [Try.params4] at hA hval
  obtain ⟨v0, vs0, d0, ds0, p0, q0, hargs, rfl, rfl, h0, r0⟩ := trodAll_cons hA
  obtain ⟨v1, vs1, d1, ds1, p1, q1, rfl, rfl, rfl, h1, r1⟩ := trodAll_cons r0
  obtain ⟨v2, vs2, d2, ds2, p2, q2, rfl, rfl, rfl, h2, r2⟩ := trodAll_cons r1
  obtain ⟨rfl, rfl, rfl⟩ := trodAll_nil r2
  obtain rfl : args = #[v0, v1, v2] := by cases args; simp_all
  obtain ⟨rfl, rfl⟩ := trodVars_none hV
  obtain ⟨x, rfl⟩ := open_u64 (hval 0 23 v0 rfl rfl) h0
  obtain ⟨a, rfl, ha⟩ := open_text (hval 1 9 v1 rfl rfl) h1
  obtain ⟨b, rfl, hb⟩ := open_text (hval 2 9 v2 rfl rfl) h2
  clear hA0
  refine (walk x a b W ha hb).mono fun e W' ⟨he, hb⟩ => ?_
  subst he
  exact ⟨_, rfl, law_post rfl (by rw [Try.params4]; exact parOk) rfl hW' rfl rfl rfl hb⟩

set_option maxRecDepth 100000 in
theorem lifted (os : Os) (started : os.Started) (H : Type) (enc : TypeId × Value → H) :
    ReturnsInHanded {} Try.checked os 4 .any (Rows.fnvBacksSpec.pre6 enc Try.prog Try.f4 Rows.fnvBacksRow.domain false) (Rows.fnvBacksSpec.post enc Try.prog Try.f4 false true false false) := by
  refine returnsInHanded_of_change (C := Try.checked) own started (by kernel_rfl) Try.func4
    (ChangeSpec.witness6 (enc := enc) (C := Try.checked) false ⟨#[], #[.int .u64 0, .string ⟨#[]⟩, .string ⟨#[]⟩], []⟩ 8 (by kernel_rfl) (by kernel_rfl) (by kernel_rfl) (by kernel_rfl)) ?_
  intro W base args ds gs before hval hW _ _
  exact contract H enc W base args ds gs before hval hW

/-- THE STATEMENT. -/
theorem said : Rows.FnvBacksSaid :=
  OpenClaim.holds_of_wide 4 Try.f4 rfl rfl rfl rfl rfl rfl rfl ⟨rfl, rfl, rfl, rfl, rfl⟩ rfl rfl rfl rfl rfl (by kernel_rfl) Try.func4 (by kernel_rfl)
    (of_decide_eq_true (by kernel_rfl)) (by unfold Func.isWrapper; first | (rw [if_pos (by decide +kernel)]; kernel_rfl) | (rw [if_neg (by decide +kernel)]; exact ⟨rfl, rfl⟩))
    (fun os started H enc _ => lifted os started H enc)
end Go.Proofs.Ytjdfkflpgimloaa.lawBacks
