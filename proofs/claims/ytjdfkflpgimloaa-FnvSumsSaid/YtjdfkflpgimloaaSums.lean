/-
  FnvSums: the sum of any texts, and what any number comes to by one, are the document's, and back it is the number: the law returns true for every input.
-/
import Derived.Test.YtjdfkflpgimloaaLaw
namespace Go.Proofs.Ytjdfkflpgimloaa.lawSums
open Go.ChangeShapes Go.WideShapes Go.ChangeAt Go.RowKit Go.Joins Go.Proofs.Ytjdfkflpgimloaa.Pure

theorem few_take (xs : List ByteArray) (k : Nat) (hk : k < xs.length) : (xs.take (k + 1)).map fewB = (xs.take k).map fewB ++ [fewB (xs.getD k ByteArray.empty)] := by
  rw [List.take_succ_eq_append_getElem hk, List.map_append]
  simp [List.getD, hk]
theorem few_all (xs : List ByteArray) : ∀ s ∈ xs.map fewB, s.size ≤ 300 := by
  intro s hs
  obtain ⟨t, _, rfl⟩ := List.mem_map.1 hs
  exact few_size t

set_option maxRecDepth 100000 in
set_option maxHeartbeats 4000000 in
theorem walk (A : Option Addr) (c : Nat) (xs : List ByteArray) (h : BitVec 64) (s0 : ByteArray) (w : World) (hl : xs.length ≤ c) (hc : c ≤ maxLen) (hH : Has w 0 w.heap.size A xs) (hxs : ∀ s ∈ xs, s.size ≤ maxLen) (hs0 : s0.size ≤ maxLen) :
    Calls Try.prog 3 #[.slice A xs.length c, .int .u64 (h.toNat : Int), .string s0] w fun e w' => e = .returned (.bool true) ∧ Below w.heap.size w w' := by
  unfold maxLen at hc
  have ss := few_size s0
  have HF := Lib.hid (fun W => few_any s0 W hs0)
  generalize fewB s0 = s at *
  have ls : s.size ≤ maxLen := by unfold maxLen; omega
  have C1 : Hid (∀ W, Calls Try.prog 12 #[.int .u64 (h.toNat : Int), .string s] W fun e w' => e = .returned (.int .u64 ((on h s.data.toList).toNat : Int)) ∧ W = w') := Lib.hid fun W => on_any h s W ls
  have C2 : Hid (∀ W, Calls Try.prog 13 #[.int .u64 (h.toNat : Int), .string s] W fun e w' => e = .returned (.int .u64 ((on h s.data.toList).toNat : Int)) ∧ W = w') := Lib.hid fun W => ron_any h s W ls
  have C3 : Hid (∀ W, Calls Try.prog 14 #[.int .u64 (h.toNat : Int), .string s] W fun e w' => e = .returned (.int .u64 ((back h s.data.toList).toNat : Int)) ∧ W = w') := Lib.hid fun W => back_any h s W ls
  have C4 : Hid (∀ W, Calls Try.prog 13 #[.int .u64 ((back h s.data.toList).toNat : Int), .string s] W fun e w' => e = .returned (.int .u64 (h.toNat : Int)) ∧ W = w') := Lib.hid fun W => by
    have := ron_any (back h s.data.toList) s W ls
    rwa [on_back] at this
  generalize on h s.data.toList = h1 at *
  generalize back h s.data.toList = h2 at *
  have HH := Lib.hid hH
  have HX := Lib.hid hxs
  clear hH hxs ls
  go_enter Try.func3, Try.ntmps3
  go_wp2_with fail
  go_loopw [7, 8] (fun v i wr => ∃ k : Nat, k ≤ xs.length ∧ k ≤ 8 ∧ i = .int .i64 k ∧ Hid (Own wr w.heap.size v ((xs.take k).map fewB)) ∧ Hid (Below w.heap.size w wr)) (fun _ i _ => 8 - (intOf i).toNat)
  case atStart => exact ⟨0, Nat.zero_le _, Nat.zero_le _, rfl, Lib.hid (Own.nil _ _), Lib.hid (Below.refl _ _)⟩
  case round =>
    obtain ⟨k, hk, hk8, rfl, HO, HB⟩ := hrel
    by_cases hlt : k < xs.length
    · by_cases h8 : k < 8
      · have HR := Lib.hid (few_take xs k hlt)
        obtain ⟨ad, rfl, h1a, h2a, hcell⟩ := (HH.out.on HB.out (Nat.le_refl _)) k hlt
        have HC := Lib.hid (fun W => few_any (xs.getD k ByteArray.empty) W (HX.out _ (by simp [List.getD, hlt])))
        have HN : Hid (((xs.take k).map fewB).length ≤ 8) := Lib.hid (by simp; omega)
        generalize fewB (xs.getD k ByteArray.empty) = y at *
        generalize xs.getD k ByteArray.empty = y0 at *
        generalize (xs.take k).map fewB = L at *
        go_wp2_with fail
        refine (HC.out _).mono ?_
        rintro e w' ⟨rfl, rfl⟩
        have hb1 : Below wr.heap.size wr (wr.alloc (.cells #[.string y] 9)) := (Below.refl _ _).alloc (Nat.le_refl _) _
        have HO1 := Lib.hid (HO.out.on hb1)
        have HB1 := Lib.hid (HB.out.trans (hb1.mono HB.out.size))
        clear hb1
        go_wp2_with (at_builtin; refine append_one rfl _ _ rfl w.heap.size u7 L rfl HO1.out wr.heap.size y rfl ?c1 ?c2 ?c3 ?_)
        case c1 => go_simp
        case c2 => have := HN.out; omega
        case c3 => have := HB.out.size; simp; omega
        intro v' w4 hown hgrow hloc
        generalize wr.alloc (.cells #[.string y] 9) = w3 at *
        have HO4 : Hid (Own w4 w.heap.size v' ((xs.take (k + 1)).map fewB)) := Lib.hid (by rw [HR.out]; exact hown)
        have HB4 : Hid (Below w.heap.size w w4) := Lib.hid (HB1.out.grown hgrow HB1.out.size (fun b e => (HO1.out.ge b e).1))
        clear hown hgrow hloc
        go_wp2_with fail
        go_roundw
        case rel => exact ⟨k + 1, by omega, by omega, by go_num, HO4, HB4⟩
        case measure => simp [intOf]; omega
      · have hL := few_all (xs.take k)
        have hL8 : ((xs.take k).map fewB).length ≤ 8 := by simp; omega
        generalize (xs.take k).map fewB = L at *
        obtain ⟨A', c', rfl, _, hh⟩ := HO.out.has
        have S1 := Lib.hid (sum_any A' c' _ _ L wr (by unfold maxLen; omega) hh (fun t ht => by have := hL t ht; unfold maxLen; omega))
        have S2 := Lib.hid (rsum_any A' c' _ _ L wr hL8 hh hL)
        clear hL hh HO
        generalize on first (flat L) = z at *
        go_wp2_with fail
        refine (HF.out _).mono ?_
        rintro e w' ⟨rfl, rfl⟩
        go_wp2_with fail
        refine (S1.out).mono ?_
        rintro e w' ⟨rfl, rfl⟩
        go_wp2_with fail
        refine (S2.out).mono ?_
        rintro e w' ⟨rfl, rfl⟩
        go_wp2_with fail
        refine (C1.out _).mono ?_
        rintro e w' ⟨rfl, rfl⟩
        go_wp2_with fail
        refine (C2.out _).mono ?_
        rintro e w' ⟨rfl, rfl⟩
        go_wp2_with fail
        refine (C3.out _).mono ?_
        rintro e w' ⟨rfl, rfl⟩
        go_wp2_with fail
        refine (C4.out _).mono ?_
        rintro e w' ⟨rfl, rfl⟩
        go_wp2_with fail
        refine (awake_any _).mono ?_
        rintro e w4 ⟨rfl, hb4⟩
        go_wp2_with fail
        go_ret
        exact ⟨rfl, HB.out.trans (hb4.mono HB.out.size)⟩
    · have hL := few_all (xs.take k)
      have hL8 : ((xs.take k).map fewB).length ≤ 8 := by simp; omega
      generalize (xs.take k).map fewB = L at *
      obtain ⟨A', c', rfl, _, hh⟩ := HO.out.has
      have S1 := Lib.hid (sum_any A' c' _ _ L wr (by unfold maxLen; omega) hh (fun t ht => by have := hL t ht; unfold maxLen; omega))
      have S2 := Lib.hid (rsum_any A' c' _ _ L wr hL8 hh hL)
      clear hL hh HO
      generalize on first (flat L) = z at *
      go_wp2_with fail
      refine (HF.out _).mono ?_
      rintro e w' ⟨rfl, rfl⟩
      go_wp2_with fail
      refine (S1.out).mono ?_
      rintro e w' ⟨rfl, rfl⟩
      go_wp2_with fail
      refine (S2.out).mono ?_
      rintro e w' ⟨rfl, rfl⟩
      go_wp2_with fail
      refine (C1.out _).mono ?_
      rintro e w' ⟨rfl, rfl⟩
      go_wp2_with fail
      refine (C2.out _).mono ?_
      rintro e w' ⟨rfl, rfl⟩
      go_wp2_with fail
      refine (C3.out _).mono ?_
      rintro e w' ⟨rfl, rfl⟩
      go_wp2_with fail
      refine (C4.out _).mono ?_
      rintro e w' ⟨rfl, rfl⟩
      go_wp2_with fail
      refine (awake_any _).mono ?_
      rintro e w4 ⟨rfl, hb4⟩
      go_wp2_with fail
      go_ret
      exact ⟨rfl, HB.out.trans (hb4.mono HB.out.size)⟩

theorem parOk : ∀ t ∈ (#[22, 23, 9] : Array TypeId).toList, Try.prog.readableRec t = true ∧ t < Try.prog.types.size := by
  have hall : ([22, 23, 9].all fun t => Try.prog.readableRec t && decide (t < Try.prog.types.size)) = true := by kernel_rfl
  intro t ht
  simpa using List.all_eq_true.1 hall t ht

set_option maxRecDepth 100000 in
/-- What the walk gives, for every argument. -/
theorem contract (H : Type) (enc : TypeId × Value → H) (W : World) (base : Nat) (args : Array Value) (ds gs : List (DataW H)) (before : List MemPlace)
    (hval : ∀ (j : Nat) t v, Try.f3.params[j]? = some t → args[j]? = some v → Value.okWide Try.prog W .any base t v)
    (hW : DataW.Whole enc Try.prog Try.f3.params.toList Rows.fnvSumsSpec.vars false W args.toList ds gs before) :
    Calls Try.prog 3 args W fun e W' => ∃ v, e = .returned v ∧ Rows.fnvSumsSpec.post enc Try.prog Try.f3 false true false false W args v W' := by
  have hW' := hW
  obtain ⟨p, q, hA0, hV, rfl, hfz, hnd⟩ := hW
  have hA : DataW.TrodAll enc Try.prog W 0 (fun _ => true) true Try.f3.params.toList args.toList ds p := hA0
  rw [Try.params3] at hA hval
  obtain ⟨v0, vs0, d0, ds0, p0, q0, hargs, rfl, rfl, h0, r0⟩ := trodAll_cons hA
  obtain ⟨v1, vs1, d1, ds1, p1, q1, rfl, rfl, rfl, h1, r1⟩ := trodAll_cons r0
  obtain ⟨v2, vs2, d2, ds2, p2, q2, rfl, rfl, rfl, h2, r2⟩ := trodAll_cons r1
  obtain ⟨rfl, rfl, rfl⟩ := trodAll_nil r2
  obtain rfl : args = #[v0, v1, v2] := by cases args; simp_all
  obtain ⟨rfl, rfl⟩ := trodVars_none hV
  obtain ⟨A, c, xs, rfl, hl, hc, hH, hx⟩ := open_texts (hval 0 22 v0 rfl rfl) h0
  obtain ⟨x, rfl⟩ := open_u64 (hval 1 23 v1 rfl rfl) h1
  obtain ⟨a, rfl, ha⟩ := open_text (hval 2 9 v2 rfl rfl) h2
  clear hA0
  refine (walk A c xs x a W hl hc hH hx ha).mono fun e W' ⟨he, hb⟩ => ?_
  subst he
  exact ⟨_, rfl, law_post rfl (by rw [Try.params3]; exact parOk) rfl hW' rfl rfl rfl hb⟩

set_option maxRecDepth 100000 in
theorem lifted (os : Os) (started : os.Started) (H : Type) (enc : TypeId × Value → H) :
    ReturnsInHanded {} Try.checked os 3 .any (Rows.fnvSumsSpec.pre6 enc Try.prog Try.f3 Rows.fnvSumsRow.domain false) (Rows.fnvSumsSpec.post enc Try.prog Try.f3 false true false false) := by
  refine returnsInHanded_of_change (C := Try.checked) own started (by kernel_rfl) Try.func3
    (ChangeSpec.witness6 (enc := enc) (C := Try.checked) false ⟨#[], #[.slice none 0 0, .int .u64 0, .string ⟨#[]⟩], []⟩ 8 (by kernel_rfl) (by kernel_rfl) (by kernel_rfl) (by kernel_rfl)) ?_
  intro W base args ds gs before hval hW _ _
  exact contract H enc W base args ds gs before hval hW

/-- THE STATEMENT. -/
theorem said : Rows.FnvSumsSaid :=
  OpenClaim.holds_of_wide 3 Try.f3 rfl rfl rfl rfl rfl rfl rfl ⟨rfl, rfl, rfl, rfl, rfl⟩ rfl rfl rfl rfl rfl (by kernel_rfl) Try.func3 (by kernel_rfl)
    (of_decide_eq_true (by kernel_rfl)) (by unfold Func.isWrapper; first | (rw [if_pos (by decide +kernel)]; kernel_rfl) | (rw [if_neg (by decide +kernel)]; exact ⟨rfl, rfl⟩))
    (fun os started H enc _ => lifted os started H enc)
end Go.Proofs.Ytjdfkflpgimloaa.lawSums
