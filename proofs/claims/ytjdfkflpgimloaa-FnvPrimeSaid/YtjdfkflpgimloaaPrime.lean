/-
  FnvPrime: octets 0 multiply: the law returns true for every input.
-/
import Derived.Test.YtjdfkflpgimloaaLaw
namespace Go.Proofs.Ytjdfkflpgimloaa.lawPrime
open Go.ChangeShapes Go.WideShapes Go.ChangeAt Go.RowKit Go.Joins Go.Proofs.Ytjdfkflpgimloaa.Pure

theorem Try.infoOctet : (Try.prog.info? 5).map (fun i => (i.zero, i.size, i.bytes)) = some (some (.int .u8 0), 1, 1) := by kernel_rfl
/-- What 'make' lays: octets 0. -/
theorem made (n : Nat) (hn : n ≤ 400) : ∃ Z : Array Value, (∀ j, j < n → Z[j]? = some (.int .u8 0)) ∧ ∀ W : World, (Instr.makeSlice 34 (.int .i64 n) (.int .i64 n)).run Try.prog W = .ok (.slice (some ⟨W.heap.size, 0, none⟩) n n) (W.alloc (.cells Z 5)) := by
  obtain ⟨i0, hi, hz0, hz1, hz2⟩ := info_parts Try.infoOctet
  refine ⟨madeCells (Value.int .u8 0).cells (n * 1), fun j hj => ?_, fun W => ?_⟩
  · unfold madeCells
    simp [hj]
    show (#[Value.int .u8 0] : Array Value)[j % 1]! = _
    simp [Nat.mod_one]
  · have h := run_make (P := Try.prog) W 34 5 i0 (.int .u8 0) Try.underlying34 hi hz0 .i64 .i64 n n (by omega) (by omega) (by rw [hz2]; omega) (by omega)
    rw [hz1] at h
    simpa using h
/-- Their text. -/
theorem text_of (Z : Array Value) (n : Nat) (hZ : ∀ j, j < n → Z[j]? = some (.int .u8 0)) (W : World) :
    (convert 34 9 (.slice (some ⟨W.heap.size, 0, none⟩) n n)).run Try.prog (W.alloc (.cells Z 5)) = .ok (.string ⟨(List.replicate n 0).toArray⟩) (W.alloc (.cells Z 5)) := by
  have := run_convert_bytes_back (P := Try.prog) (W.alloc (.cells Z 5)) 34 9 5 ⟨W.heap.size, 0, none⟩ n (List.replicate n 0) Try.underlying34 Try.underlying5 Try.underlying9 fun j hj => by
    rw [List.length_replicate] at hj
    rw [Addr.add_lit, Nat.zero_add, World.cell?_alloc_new, hZ j hj]
    simp
  rwa [List.length_replicate] at this

set_option maxRecDepth 100000 in
set_option maxHeartbeats 4000000 in
theorem way (h h1 : BitVec 64) (P : Nat → BitVec 64) (s0 s z : ByteArray) (c : Nat) (n : Nat) (Z : Array Value) (w : World)
    (HF : Hid (∀ W, Calls Try.prog 9 #[.string s0] W fun e w' => e = .returned (.string s) ∧ W = w'))
    (hn : (c : Int) % 20 = (n : Int)) (hn20 : n < 20) (hc : c ≤ 255)
    (hmk : ∀ W : World, (Instr.makeSlice 34 (.int .i64 n) (.int .i64 n)).run Try.prog W = .ok (.slice (some ⟨W.heap.size, 0, none⟩) n n) (W.alloc (.cells Z 5)))
    (htx : ∀ W : World, (convert 34 9 (.slice (some ⟨W.heap.size, 0, none⟩) n n)).run Try.prog (W.alloc (.cells Z 5)) = .ok (.string z) (W.alloc (.cells Z 5)))
    (hz : z.size = n) (hs : s.size ≤ 300)
    (C1 : Hid (∀ W, Calls Try.prog 12 #[.int .u64 (h.toNat : Int), .string s] W fun e w' => e = .returned (.int .u64 (h1.toNat : Int)) ∧ W = w'))
    (HP : Hid (P 0 = h1 ∧ ∀ k, IntKind.u64.wrap (((P k).toNat : Int) * 1099511628211) = ((P (k + 1)).toNat : Int)))
    (C2 : Hid (∀ W, Calls Try.prog 12 #[.int .u64 (h.toNat : Int), .string (s ++ z)] W fun e w' => e = .returned (.int .u64 ((P n).toNat : Int)) ∧ W = w'))
    (C3 : Hid (∀ W, Calls Try.prog 14 #[.int .u64 ((P n).toNat : Int), .string z] W fun e w' => e = .returned (.int .u64 (h1.toNat : Int)) ∧ W = w'))
    (C4 : Hid (∀ W, Calls Try.prog 14 #[.int .u64 ((P n).toNat : Int), .string (s ++ z)] W fun e w' => e = .returned (.int .u64 (h.toNat : Int)) ∧ W = w')) :
    Calls Try.prog 8 #[.int .u64 (h.toNat : Int), .string s0, .int .u8 (c : Int)] w fun e w' => e = .returned (.bool true) ∧ Below w.heap.size w w' := by
  go_enter Try.func8, Try.ntmps8
  go_wp2_with fail
  refine (HF.out _).mono ?_
  rintro e w' ⟨rfl, rfl⟩
  go_wp2_with fail
  refine (C1.out _).mono ?_
  rintro e w' ⟨rfl, rfl⟩
  have hbw : Below w.heap.size w (w.alloc (.cells Z 5)) := (Below.refl _ _).alloc (Nat.le_refl _) _
  have HB := Lib.hid hbw
  clear hbw
  generalize w.alloc (.cells Z 5) = w2 at *
  go_wp2_with fail
  go_loop [8, 9] (fun r i => ∃ k : Nat, k ≤ n ∧ i = .int .i64 k ∧ r = .int .u64 ((P k).toNat : Int)) (fun _ i => n - (intOf i).toNat)
  case atStart => exact ⟨0, Nat.zero_le _, rfl, by rw [HP.out.1]⟩
  case round =>
    obtain ⟨k, hk, rfl, rfl⟩ := hrel
    by_cases hlt : k < n
    · have HX := Lib.hid (HP.out.2 k)
      generalize P k = m at *
      go_wp2_with fail
      go_round
      case rel => exact ⟨k + 1, by omega, by go_num, by rw [HX.out]⟩
      case measure => simp [intOf]; omega
    · have hkl : k = n := by omega
      subst hkl
      generalize P k = m at *
      go_wp2_with fail
      refine (C2.out _).mono ?_
      rintro e w' ⟨rfl, rfl⟩
      go_wp2_with fail
      refine (C3.out _).mono ?_
      rintro e w' ⟨rfl, rfl⟩
      go_wp2_with fail
      refine (C1.out _).mono ?_
      rintro e w' ⟨rfl, rfl⟩
      go_wp2_with fail
      refine (C4.out _).mono ?_
      rintro e w' ⟨rfl, rfl⟩
      go_wp2_with fail
      refine (awake_any _).mono ?_
      rintro e w4 ⟨rfl, hb4⟩
      go_wp2_with fail
      go_ret
      exact ⟨rfl, HB.out.trans (hb4.mono HB.out.size)⟩

theorem walk (h : BitVec 64) (s0 : ByteArray) (c : Nat) (w : World) (hs0 : s0.size ≤ maxLen) (hc : c ≤ 255) :
    Calls Try.prog 8 #[.int .u64 (h.toNat : Int), .string s0, .int .u8 (c : Int)] w fun e w' => e = .returned (.bool true) ∧ Below w.heap.size w w' := by
  have ss := few_size s0
  have HF := Lib.hid (fun W => few_any s0 W hs0)
  generalize fewB s0 = s at *
  have hn20 : c % 20 < 20 := Nat.mod_lt _ (by decide)
  have hn : (c : Int) % 20 = ((c % 20 : Nat) : Int) := by omega
  generalize c % 20 = n at *
  obtain ⟨Z, hZ, hmk⟩ := made n (by omega)
  have htx := text_of Z n hZ
  obtain ⟨z, hz⟩ : ∃ z : ByteArray, z = ⟨(List.replicate n (0 : UInt8)).toArray⟩ := ⟨_, rfl⟩
  rw [← hz] at htx
  have hzl : z.data.toList = List.replicate n 0 := by rw [hz]
  have hzn : z.size = n := by rw [hz]; show (List.replicate n (0 : UInt8)).toArray.size = n; simp
  have ls : s.size ≤ maxLen := by unfold maxLen; omega
  have lz : z.size ≤ maxLen := by unfold maxLen; omega
  have lsz : (s ++ z).size ≤ maxLen := by unfold maxLen; simp; omega
  refine way h (on h s.data.toList) (fun k => on h (s.data.toList ++ List.replicate k 0)) s0 s z c n Z w HF hn hn20 hc hmk htx hzn ss (Lib.hid fun W => on_any h s W ls) (Lib.hid ⟨by simp, fun k => ?_⟩) (Lib.hid fun W => ?_) (Lib.hid fun W => ?_) (Lib.hid fun W => ?_)
  · simp only [on_zero]
    rw [IntKind.wrap_u64]
    exact mul_bv _ 1099511628211
  · have := on_any h (s ++ z) W lsz
    rwa [cat_flat, hzl] at this
  · have := back_any (on h (s.data.toList ++ List.replicate n 0)) z W lz
    rw [hzl, on_append, back_on] at this
    simpa [on_append] using this
  · have := back_any (on h (s.data.toList ++ List.replicate n 0)) (s ++ z) W lsz
    rwa [cat_flat, hzl, back_on] at this

theorem parOk : ∀ t ∈ (#[23, 9, 5] : Array TypeId).toList, Try.prog.readableRec t = true ∧ t < Try.prog.types.size := by
  have hall : ([23, 9, 5].all fun t => Try.prog.readableRec t && decide (t < Try.prog.types.size)) = true := by kernel_rfl
  intro t ht
  simpa using List.all_eq_true.1 hall t ht

set_option maxRecDepth 100000 in
/-- What the walk gives, for every argument. -/
theorem contract (H : Type) (enc : TypeId × Value → H) (W : World) (base : Nat) (args : Array Value) (ds gs : List (DataW H)) (before : List MemPlace)
    (hval : ∀ (j : Nat) t v, Try.f8.params[j]? = some t → args[j]? = some v → Value.okWide Try.prog W .any base t v)
    (hW : DataW.Whole enc Try.prog Try.f8.params.toList Rows.fnvPrimeSpec.vars false W args.toList ds gs before) :
    Calls Try.prog 8 args W fun e W' => ∃ v, e = .returned v ∧ Rows.fnvPrimeSpec.post enc Try.prog Try.f8 false true false false W args v W' := by
  have hW' := hW
  obtain ⟨p, q, hA0, hV, rfl, hfz, hnd⟩ := hW
  have hA : DataW.TrodAll enc Try.prog W 0 (fun _ => true) true Try.f8.params.toList args.toList ds p := hA0
  rw [Try.params8] at hA hval
  obtain ⟨v0, vs0, d0, ds0, p0, q0, hargs, rfl, rfl, h0, r0⟩ := trodAll_cons hA
  obtain ⟨v1, vs1, d1, ds1, p1, q1, rfl, rfl, rfl, h1, r1⟩ := trodAll_cons r0
  obtain ⟨v2, vs2, d2, ds2, p2, q2, rfl, rfl, rfl, h2, r2⟩ := trodAll_cons r1
  obtain ⟨rfl, rfl, rfl⟩ := trodAll_nil r2
  obtain rfl : args = #[v0, v1, v2] := by cases args; simp_all
  obtain ⟨rfl, rfl⟩ := trodVars_none hV
  obtain ⟨x, rfl⟩ := open_u64 (hval 0 23 v0 rfl rfl) h0
  obtain ⟨a, rfl, ha⟩ := open_text (hval 1 9 v1 rfl rfl) h1
  obtain ⟨c, rfl, hc⟩ := open_u8 (hval 2 5 v2 rfl rfl) h2
  clear hA0
  refine (walk x a c W ha hc).mono fun e W' ⟨he, hb⟩ => ?_
  subst he
  exact ⟨_, rfl, law_post rfl (by rw [Try.params8]; exact parOk) rfl hW' rfl rfl rfl hb⟩

set_option maxRecDepth 100000 in
theorem lifted (os : Os) (started : os.Started) (H : Type) (enc : TypeId × Value → H) :
    ReturnsInHanded {} Try.checked os 8 .any (Rows.fnvPrimeSpec.pre6 enc Try.prog Try.f8 Rows.fnvPrimeRow.domain false) (Rows.fnvPrimeSpec.post enc Try.prog Try.f8 false true false false) := by
  refine returnsInHanded_of_change (C := Try.checked) own started (by kernel_rfl) Try.func8
    (ChangeSpec.witness6 (enc := enc) (C := Try.checked) false ⟨#[], #[.int .u64 0, .string ⟨#[]⟩, .int .u8 0], []⟩ 8 (by kernel_rfl) (by kernel_rfl) (by kernel_rfl) (by kernel_rfl)) ?_
  intro W base args ds gs before hval hW _ _
  exact contract H enc W base args ds gs before hval hW

/-- THE STATEMENT. -/
theorem said : Rows.FnvPrimeSaid :=
  OpenClaim.holds_of_wide 8 Try.f8 rfl rfl rfl rfl rfl rfl rfl ⟨rfl, rfl, rfl, rfl, rfl⟩ rfl rfl rfl rfl rfl (by kernel_rfl) Try.func8 (by kernel_rfl)
    (of_decide_eq_true (by kernel_rfl)) (by unfold Func.isWrapper; first | (rw [if_pos (by decide +kernel)]; kernel_rfl) | (rw [if_neg (by decide +kernel)]; exact ⟨rfl, rfl⟩))
    (fun os started H enc _ => lifted os started H enc)
end Go.Proofs.Ytjdfkflpgimloaa.lawPrime
