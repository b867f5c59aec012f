/-
  FnvParts: a sum hangs on the octets alone, not on how they are cut: the law returns true for every input.
-/
import Derived.Test.YtjdfkflpgimloaaLaw
import Derived.Test.YtjdfkflpgimloaaQuiet
namespace Go.Proofs.Ytjdfkflpgimloaa.lawParts
open Go.Sort Go.ChangeShapes Go.WideShapes Go.ChangeAt Go.RowKit Go.Joins Go.Proofs.Ytjdfkflpgimloaa.Pure

theorem slice_to (s : ByteArray) (j : Nat) (hj : j ≤ s.size) (W : World) : (Instr.slice 9 (.string s) none (some (.int .i64 j)) none).run Try.prog W = .ok (.string (s.extract 0 j)) W := by
  rw [run_slice_string_to_if (w := W) 9 s .i64 _ Try.underlying9, if_pos ⟨by omega, by omega⟩, Int.toNat_natCast]
theorem slice_from (s : ByteArray) (j : Nat) (hj : j ≤ s.size) (W : World) : (Instr.slice 9 (.string s) (some (.int .i64 j)) none none).run Try.prog W = .ok (.string (s.extract j s.size)) W := by
  rw [run_slice_string_from_if (w := W) 9 s .i64 _ Try.underlying9, if_pos ⟨by omega, by omega⟩, Int.toNat_natCast]

/-- What was cut off, and what is left. -/
structure Cut (s r : ByteArray) (L : List ByteArray) : Prop where
  all : flat L ++ r.data.toList = s.data.toList
  small : ∀ t ∈ L, t.size ≤ 300
  rest : r.size ≤ 300
theorem flat_snoc (L : List ByteArray) (t : ByteArray) : flat (L ++ [t]) = flat L ++ t.data.toList := by simp [flat]
theorem Cut.next {s r : ByteArray} {L : List ByteArray} (h : Cut s r L) (m : Nat) (hm : m ≤ r.size) : Cut s (r.extract m r.size) (L ++ [r.extract 0 m]) := by
  refine ⟨?_, fun t ht => ?_, ?_⟩
  · rw [flat_snoc, List.append_assoc, ← h.all]
    congr 1
    simp only [ByteArray.data_extract, Array.toList_extract, List.extract_eq_take_drop]
    have e : r.data.toList.length = r.size := by simp
    rw [List.drop_zero, Nat.sub_zero, List.take_of_length_le (l := r.data.toList.drop m) (by simp), List.take_append_drop]
  · rcases List.mem_append.1 ht with h1 | h1
    · exact h.small t h1
    · have := h.rest
      simp at h1
      subst h1
      simp; omega
  · have := h.rest
    simp; omega

set_option maxRecDepth 100000 in
set_option maxHeartbeats 4000000 in
theorem walk (s0 : ByteArray) (A : Option Addr) (c : Nat) (is : List Int) (w : World) (hs0 : s0.size ≤ maxLen) (_hl : is.length ≤ c) (_hc : c ≤ maxLen) (hO : Octs w A is) :
    Calls Try.prog 6 #[.string s0, .slice A is.length c] w fun e w' => e = .returned (.bool true) ∧ Below w.heap.size w w' := by
  have hil : is.length ≤ 9223372036854775807 := by unfold maxLen at _hc; omega
  have ss := few_size s0
  have HF := Lib.hid (fun W => few_any s0 W hs0)
  generalize fewB s0 = s at *
  have HQ := Lib.hid hO
  clear hO
  go_enter Try.func6, Try.ntmps6
  go_wp2_with fail
  refine (HF.out _).mono ?_
  rintro e w' ⟨rfl, rfl⟩
  go_wp2_with fail
  go_loopw [5, 6, 7, 8] (fun v r i _ wr => ∃ (k : Nat) (L : List ByteArray) (q : ByteArray), k ≤ is.length ∧ k ≤ 10 ∧ L.length = k ∧ i = .int .i64 k ∧ r = .string q ∧ Hid (Cut s q L) ∧ Hid (Own wr w.heap.size v L) ∧ Hid (Below w.heap.size w wr)) (fun _ _ i _ _ => 10 - (intOf i).toNat)
  case atStart => exact ⟨0, [], s, Nat.zero_le _, Nat.zero_le _, rfl, rfl, rfl, Lib.hid ⟨rfl, by simp, ss⟩, Lib.hid (Own.nil _ _), Lib.hid (Below.refl _ _)⟩
  case round =>
    obtain ⟨k, L, q, hk, hk10, hLk, rfl, rfl, HCut, HO, HB⟩ := hrel
    by_cases hlt : k < is.length ∧ k < 10
    · obtain ⟨hlt, h10⟩ := hlt
      obtain ⟨ad, rfl, _, hcell⟩ := (HQ.out.on HB.out).1 k hlt
      have hx := HQ.out.2 (is.getD k 0) (by simp [List.getD, hlt])
      generalize is.getD k 0 = x at *
      have hq := HCut.out.rest
      obtain ⟨m, hm, hmq⟩ : ∃ m : Nat, x % ((q.size : Int) + 1) = (m : Int) ∧ m ≤ q.size := by
        have h1 := Int.emod_nonneg x (b := (q.size : Int) + 1) (by omega)
        have h2 := Int.emod_lt_of_pos x (b := (q.size : Int) + 1) (by omega)
        exact ⟨(x % ((q.size : Int) + 1)).toNat, by omega, by omega⟩
      have HN := Lib.hid (HCut.out.next m hmq)
      have hs1 := fun W : World => slice_to q m hmq W
      have hs2 := fun W : World => slice_from q m hmq W
      generalize q.extract 0 m = y at *
      generalize q.extract m q.size = q' at *
      have HLk := Lib.hid hLk
      clear hLk
      go_upto_region 8 with (fail)
      rw [hm]
      clear hm hx hcell
      have hb1 : Below wr.heap.size wr (wr.alloc (.cells #[.string y] 9)) := (Below.refl _ _).alloc (Nat.le_refl _) _
      have HO1 := Lib.hid (HO.out.on hb1)
      have HB1 := Lib.hid (HB.out.trans (hb1.mono HB.out.size))
      clear hb1
      go_wp2_with (at_builtin; refine append_one rfl _ _ rfl w.heap.size u5 L rfl HO1.out wr.heap.size y rfl ?c1 ?c2 ?c3 ?_)
      case c1 => go_simp
      case c2 => have := HLk.out; omega
      case c3 => have := HB.out.size; simp; omega
      intro v' w4 hown hgrow hloc
      generalize wr.alloc (.cells #[.string y] 9) = w3 at *
      have HO4 := Lib.hid hown
      have HB4 : Hid (Below w.heap.size w w4) := Lib.hid (HB1.out.grown hgrow HB1.out.size (fun b e => (HO1.out.ge b e).1))
      clear hown hgrow hloc
      go_wp2_with fail
      go_roundw
      case rel => exact ⟨k + 1, L ++ [y], q', by omega, by omega, by simp [HLk.out], by go_num, rfl, HN, HO4, HB4⟩
      case measure => simp [intOf]; omega
    · have hd : (decide ((k : Int) < (is.length : Int)) && decide ((k : Int) < 10)) = false := by
        rw [Bool.and_eq_false_iff, decide_eq_false_iff_not, decide_eq_false_iff_not]; omega
      by_cases hlt1 : k < is.length
      · have h10 : ¬ k < 10 := fun h => hlt ⟨hlt1, h⟩
        clear hlt hd
        have hb1 : Below wr.heap.size wr (wr.alloc (.cells #[.string q] 9)) := (Below.refl _ _).alloc (Nat.le_refl _) _
        have HO1 := Lib.hid (HO.out.on hb1)
        have HB1 := Lib.hid (HB.out.trans (hb1.mono HB.out.size))
        have HLk := Lib.hid hLk
        clear hb1 hLk
        go_wp2_with (at_builtin; refine append_one rfl _ _ rfl w.heap.size u5 L rfl HO1.out wr.heap.size q rfl ?c1 ?c2 ?c3 ?_)
        case c1 => go_simp
        case c2 => have := HLk.out; omega
        case c3 => have := HB.out.size; simp; omega
        intro v' w4 hown hgrow hloc
        generalize wr.alloc (.cells #[.string q] 9) = w3 at *
        have HB4 : Hid (Below w.heap.size w w4) := Lib.hid (HB1.out.grown hgrow HB1.out.size (fun b e => (HO1.out.ge b e).1))
        obtain ⟨A', c', rfl, _, hh⟩ := hown.has
        have S1 := Lib.hid (sum_any A' c' _ _ (L ++ [q]) w4 (by have := HLk.out; unfold maxLen; simp; omega) hh (fun t ht => by
          rcases List.mem_append.1 ht with h1 | h1
          · have := HCut.out.small t h1; unfold maxLen; omega
          · have := HCut.out.rest; simp at h1; subst h1; unfold maxLen; omega))
        rw [flat_snoc, HCut.out.all] at S1
        have S2 := Lib.hid (fun W g hc => sum_one g s W hc (by unfold maxLen; omega))
        generalize on first s.data.toList = z at *
        generalize (L ++ [q]).length = n at *
        clear hown hgrow hloc hh
        go_wp2_with fail
        refine (S1.out).mono ?_
        rintro e w' ⟨rfl, rfl⟩
        go_wp2_with fail
        refine (S2.out _ _ (by go_simp)).mono ?_
        rintro e w' ⟨rfl, rfl⟩
        go_wp2_with fail
        refine (awake_any _).mono ?_
        rintro e w5 ⟨rfl, hb5⟩
        go_wp2_with fail
        go_ret
        exact ⟨rfl, (HB4.out.alloc HB4.out.size _).trans (hb5.mono (by have := HB4.out.size; simp; omega))⟩
      · clear hlt hd
        have hb1 : Below wr.heap.size wr (wr.alloc (.cells #[.string q] 9)) := (Below.refl _ _).alloc (Nat.le_refl _) _
        have HO1 := Lib.hid (HO.out.on hb1)
        have HB1 := Lib.hid (HB.out.trans (hb1.mono HB.out.size))
        have HLk := Lib.hid hLk
        clear hb1 hLk
        go_wp2_with (at_builtin; refine append_one rfl _ _ rfl w.heap.size u5 L rfl HO1.out wr.heap.size q rfl ?c1 ?c2 ?c3 ?_)
        case c1 => go_simp
        case c2 => have := HLk.out; omega
        case c3 => have := HB.out.size; simp; omega
        intro v' w4 hown hgrow hloc
        generalize wr.alloc (.cells #[.string q] 9) = w3 at *
        have HB4 : Hid (Below w.heap.size w w4) := Lib.hid (HB1.out.grown hgrow HB1.out.size (fun b e => (HO1.out.ge b e).1))
        obtain ⟨A', c', rfl, _, hh⟩ := hown.has
        have S1 := Lib.hid (sum_any A' c' _ _ (L ++ [q]) w4 (by have := HLk.out; unfold maxLen; simp; omega) hh (fun t ht => by
          rcases List.mem_append.1 ht with h1 | h1
          · have := HCut.out.small t h1; unfold maxLen; omega
          · have := HCut.out.rest; simp at h1; subst h1; unfold maxLen; omega))
        rw [flat_snoc, HCut.out.all] at S1
        have S2 := Lib.hid (fun W g hc => sum_one g s W hc (by unfold maxLen; omega))
        generalize on first s.data.toList = z at *
        generalize (L ++ [q]).length = n at *
        clear hown hgrow hloc hh
        go_wp2_with fail
        refine (S1.out).mono ?_
        rintro e w' ⟨rfl, rfl⟩
        go_wp2_with fail
        refine (S2.out _ _ (by go_simp)).mono ?_
        rintro e w' ⟨rfl, rfl⟩
        go_wp2_with fail
        refine (awake_any _).mono ?_
        rintro e w5 ⟨rfl, hb5⟩
        go_wp2_with fail
        go_ret
        exact ⟨rfl, (HB4.out.alloc HB4.out.size _).trans (hb5.mono (by have := HB4.out.size; simp; omega))⟩

theorem parOk : ∀ t ∈ (#[9, 34] : Array TypeId).toList, Try.prog.readableRec t = true ∧ t < Try.prog.types.size := by
  have hall : ([9, 34].all fun t => Try.prog.readableRec t && decide (t < Try.prog.types.size)) = true := by kernel_rfl
  intro t ht
  simpa using List.all_eq_true.1 hall t ht

set_option maxRecDepth 100000 in
/-- What the walk gives, for every argument. -/
theorem contract (H : Type) (enc : TypeId × Value → H) (W : World) (base : Nat) (args : Array Value) (ds gs : List (DataW H)) (before : List MemPlace)
    (hval : ∀ (j : Nat) t v, Try.f6.params[j]? = some t → args[j]? = some v → Value.okWide Try.prog W .any base t v)
    (hW : DataW.Whole enc Try.prog Try.f6.params.toList Rows.fnvPartsSpec.vars false W args.toList ds gs before) :
    Calls Try.prog 6 args W fun e W' => ∃ v, e = .returned v ∧ Rows.fnvPartsSpec.post enc Try.prog Try.f6 false true false false W args v W' := by
  have hW' := hW
  obtain ⟨p, q, hA0, hV, rfl, hfz, hnd⟩ := hW
  have hA : DataW.TrodAll enc Try.prog W 0 (fun _ => true) true Try.f6.params.toList args.toList ds p := hA0
  rw [Try.params6] at hA hval
  obtain ⟨v0, vs0, d0, ds0, p0, q0, hargs, rfl, rfl, h0, r0⟩ := trodAll_cons hA
  obtain ⟨v1, vs1, d1, ds1, p1, q1, rfl, rfl, rfl, h1, r1⟩ := trodAll_cons r0
  obtain ⟨rfl, rfl, rfl⟩ := trodAll_nil r1
  obtain rfl : args = #[v0, v1] := by cases args; simp_all
  obtain ⟨rfl, rfl⟩ := trodVars_none hV
  obtain ⟨a, rfl, ha⟩ := open_text (hval 0 9 v0 rfl rfl) h0
  obtain ⟨A, c, is, rfl, hl, hc, hO⟩ := open_octs (hval 1 34 v1 rfl rfl) h1
  clear hA0
  refine (walk a A c is W ha hl hc hO).mono fun e W' ⟨he, hb⟩ => ?_
  subst he
  exact ⟨_, rfl, law_post rfl (by rw [Try.params6]; exact parOk) rfl hW' rfl rfl rfl hb⟩

set_option maxRecDepth 100000 in
theorem lifted (os : Os) (started : os.Started) (H : Type) (enc : TypeId × Value → H) :
    ReturnsInHanded {} Try.checked os 6 .any (Rows.fnvPartsSpec.pre6 enc Try.prog Try.f6 Rows.fnvPartsRow.domain false) (Rows.fnvPartsSpec.post enc Try.prog Try.f6 false true false false) := by
  refine returnsInHanded_of_change (C := Try.checked) own started (by kernel_rfl) Try.func6
    (ChangeSpec.witness6 (enc := enc) (C := Try.checked) false ⟨#[], #[.string ⟨#[]⟩, .slice none 0 0], []⟩ 8 (by kernel_rfl) (by kernel_rfl) (by kernel_rfl) (by kernel_rfl)) ?_
  intro W base args ds gs before hval hW _ _
  exact contract H enc W base args ds gs before hval hW

/-- THE STATEMENT. -/
theorem said : Rows.FnvPartsSaid :=
  OpenClaim.holds_of_wide 6 Try.f6 rfl rfl rfl rfl rfl rfl rfl ⟨rfl, rfl, rfl, rfl, rfl⟩ rfl rfl rfl rfl rfl (by kernel_rfl) Try.func6 (by kernel_rfl)
    (of_decide_eq_true (by kernel_rfl)) (by unfold Func.isWrapper; first | (rw [if_pos (by decide +kernel)]; kernel_rfl) | (rw [if_neg (by decide +kernel)]; exact ⟨rfl, rfl⟩))
    (fun os started H enc _ => lifted os started H enc)
end Go.Proofs.Ytjdfkflpgimloaa.lawParts
