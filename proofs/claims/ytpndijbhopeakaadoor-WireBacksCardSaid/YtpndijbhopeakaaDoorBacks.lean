/-
  WireBacks: what is laid down is taken, whatever stands ahead, and behind; what is taken, laid down, stands as it did: the law returns true for every input.
-/
import Derived.Test.YtpndijbhopeakaaDoorLaw
import Derived.Test.YtpndijbhopeakaaDoorBoth
import Derived.Test.YtpndijbhopeakaaDoorBack
import Derived.Test.YtpndijbhopeakaaDoorCards
import Derived.Test.YtpndijbhopeakaaDoorTie
import Derived.StillTactics
import Derived.Deep.RegionHeld3
import Derived.Lib.SmallJoins
namespace Go.Proofs.YtpndijbhopeakaaDoor.lawBacks
open Go.ChangeMaps (open_string)
open Go.ChangeShapes Go.WideShapes Go.ChangeAt Go.RowKit Go.Joins Go.Proofs.YtpndijbhopeakaaDoor.Pure Go.Proofs.YtpndijbhopeakaaDoor.Crc

def numB (n : Nat) : ByteArray := ⟨(num n).toArray⟩
theorem numB_list (n : Nat) : (numB n).data.toList = num n := by simp [numB]
theorem numB_size (n : Nat) : (numB n).size = (num n).length := by show (num n).toArray.size = _; simp

theorem list_app (a b : ByteArray) : (a ++ b).data.toList = a.data.toList ++ b.data.toList := by simp
theorem drop_ahead (a b c : ByteArray) : ((a ++ b) ++ c).data.toList.drop a.size = b.data.toList ++ c.data.toList := by
  rw [list_app, list_app, List.append_assoc]
  have : a.size = a.data.toList.length := by simp
  rw [this, List.drop_left]

theorem extract_list (s : ByteArray) (i j : Nat) : (s.extract i j).data.toList = (s.data.toList.drop i).take (j - i) := by
  obtain ⟨l, rfl⟩ : ∃ l : List UInt8, s = ⟨l.toArray⟩ := ⟨s.data.toList, by simp⟩
  rw [ByteArray.extract_mk]

/-- A number that is laid down is taken. -/
theorem num_taken (a b : ByteArray) (n : Nat) (hn : n < 2 ^ 64) (ha : a.size ≤ 400) (hb : b.size ≤ 400) (W : World) :
    Calls Tryd.prog 11 #[.string (a ++ numB n ++ b), .int .i64 a.size] W fun e w' => e = .returned (.tuple #[.int .u64 n, .int .i64 ((a.size : Int) + ((numB n).size : Int)), .int .i64 0]) ∧ W = w' := by
  have hl := num_le n
  have hs : (a ++ numB n ++ b).size = a.size + (num n).length + b.size := by rw [ByteArray.size_append, ByteArray.size_append, numB_size]
  have h := take_in (a ++ numB n ++ b) a.size W (by rw [hs]; unfold maxLen; omega) (by omega)
  rw [drop_ahead, numB_list, take_num n _ hn] at h
  rw [numB_size]
  exact h
/-- A text that is laid down is taken. -/
theorem text_taken (a b t : ByteArray) (ht : t.size ≤ 200) (ha : a.size ≤ 400) (hb : b.size ≤ 400) (W : World) :
    Calls Tryd.prog 18 #[.string (a ++ textOf t ++ b), .int .i64 a.size] W fun e w' => e = .returned (.tuple #[.string t, .int .i64 ((a.size : Int) + ((textOf t).size : Int)), .int .i64 0]) ∧ W = w' := by
  have hl := num_le t.size
  have hx : (textOf t).size = (num t.size).length + t.size := by unfold textOf; rw [ByteArray.size_append]; show (num t.size).toArray.size + _ = _; simp
  have hs : (a ++ textOf t ++ b).size = a.size + ((num t.size).length + t.size) + b.size := by rw [ByteArray.size_append, ByteArray.size_append, hx]
  have h := taketext_in (a ++ textOf t ++ b) a.size W (by rw [hs]; omega) (by omega)
  have hlist : (textOf t).data.toList = num t.size ++ t.data.toList := by unfold textOf; rw [list_app]
  rw [drop_ahead, hlist, List.append_assoc, take_num t.size _ (by omega)] at h
  have hcut : (a ++ textOf t ++ b).extract (a.size + (num t.size).length) (a.size + (num t.size).length + t.size) = t := by
    apply ByteArray.ext
    apply Array.toList_inj.1
    rw [extract_list, list_app, list_app, hlist, List.append_assoc, List.append_assoc, ← List.append_assoc]
    have e : a.size + (num t.size).length = (a.data.toList ++ num t.size).length := by simp
    have e2 : a.size + (num t.size).length + t.size - (a.size + (num t.size).length) = t.data.toList.length := by rw [Nat.add_sub_cancel_left]; simp
    rw [e2, e, List.drop_left, List.take_left]
  unfold textL at h
  simp only [ne_eq, not_true_eq_false, if_false] at h
  rw [if_neg (by omega), if_neg (by omega), hcut] at h
  rw [hx]
  have e : ((a.size : Int) + (((num t.size).length + t.size : Nat) : Int)) = ((a.size + (num t.size).length + t.size : Nat) : Int) := by omega
  rw [e]
  exact h

theorem slice_upto {P : Program} (t : TypeId) (h : P.underlying t = some .string) (s : ByteArray) (j : Nat) (hj : j ≤ s.size) (W : World) :
    (Instr.slice t (.string s) none (some (.int .i64 j)) none).run P W = .ok (.string (s.extract 0 j)) W := by
  rw [run_slice_string_to_if (w := W) t s .i64 _ h, if_pos ⟨by omega, by omega⟩, Int.toNat_natCast]

set_option maxRecDepth 100000 in
set_option maxHeartbeats 4000000 in
theorem walk (n : Nat) (t0 a0 b0 : ByteArray) (w : World) (hn : n < 2 ^ 64) (ht0 : t0.size ≤ maxLen) (ha0 : a0.size ≤ maxLen) (hb0 : b0.size ≤ maxLen) (ht : Tab w) :
    Calls Tryd.prog 6 #[.agg #[.int .u64 n, .string t0, .string a0, .string b0]] w fun e w' => e = .returned (.bool true) ∧ Below w.heap.size w w' := by
  have HF := Lib.hid (fun W => few_is t0 W ht0)
  have HG := Lib.hid (fun W => few_is a0 W ha0)
  have HH := Lib.hid (fun W => few_is b0 W hb0)
  have ft := few_size t0
  have fa := few_size a0
  have fb := few_size b0
  generalize fewB t0 = t at *
  generalize fewB a0 = a at *
  generalize fewB b0 = b at *
  have HT := Lib.hid ht
  have HN := Lib.hid (fun (W : World) g => num_one n g W hn)
  have hu10 : (numB n).size ≤ 10 := by rw [numB_size]; exact num_le n
  have HK := Lib.hid (fun W => num_taken a b n hn fa fb W)
  change Hid (∀ (W : World) (g : Nat), _ → _ → Calls _ _ _ W fun e w' => e = .returned (.string (numB n)) ∧ _) at HN
  generalize numB n = u at *
  have HL : Hid (∃ m p k : Nat, (∀ W, Calls Tryd.prog 11 #[.string b, .int .i64 0] W fun e w' => e = .returned (.tuple #[.int .u64 m, .int .i64 p, .int .i64 k]) ∧ W = w') ∧
      (k = 0 → 0 < p ∧ p ≤ b.size ∧ m < 2 ^ 64 ∧ numB m = b.extract 0 p)) := by
    have h := fun W => take_in b 0 W (by unfold maxLen; omega) (by omega)
    rw [List.drop_zero] at h
    rcases hr : takeL b.data.toList 0 0 with ⟨m, p, k⟩
    rw [hr] at h
    refine ⟨m, (if k = 0 then 0 + p else 0), k, h, fun hk => ?_⟩
    subst hk
    obtain ⟨h1, h2, h3⟩ := back_num _ _ _ hr
    have h4 := take_small _ _ _ hr
    have hl : b.data.toList.length = b.size := by simp
    rw [if_pos rfl, Nat.zero_add]
    refine ⟨h1, by omega, h4, ?_⟩
    apply ByteArray.ext
    apply Array.toList_inj.1
    rw [extract_list, numB_list, h3]; simp
  obtain ⟨m, p, k, hl1, hl2⟩ := HL.out
  have HL1 := Lib.hid hl1
  have HL2 := Lib.hid hl2
  clear ht ht0 ha0 hb0 hl1 hl2 HL
  go_enter Tryd.func6, Tryd.ntmps6
  go_wp2_with fail
  have hbw : Below w.heap.size w (w.alloc (Obj.cells #[Value.int .u64 n, .string t0, .string a0, .string b0] 47)) := (Below.refl _ _).alloc (Nat.le_refl _) _
  have k0 : (w.alloc (Obj.cells #[Value.int .u64 n, .string t0, .string a0, .string b0] 47)).cell? ⟨w.heap.size, 0, none⟩ = some (.int .u64 n) := by rw [World.cell?_alloc_new]; rfl
  have k1 : (w.alloc (Obj.cells #[Value.int .u64 n, .string t0, .string a0, .string b0] 47)).cell? ⟨w.heap.size, 1, none⟩ = some (.string t0) := by rw [World.cell?_alloc_new]; rfl
  have k2 : (w.alloc (Obj.cells #[Value.int .u64 n, .string t0, .string a0, .string b0] 47)).cell? ⟨w.heap.size, 2, none⟩ = some (.string a0) := by rw [World.cell?_alloc_new]; rfl
  have k3 : (w.alloc (Obj.cells #[Value.int .u64 n, .string t0, .string a0, .string b0] 47)).cell? ⟨w.heap.size, 3, none⟩ = some (.string b0) := by rw [World.cell?_alloc_new]; rfl
  have hTW := HT.out.alloc (Obj.cells #[Value.int .u64 n, .string t0, .string a0, .string b0] 47)
  generalize w.alloc (Obj.cells #[Value.int .u64 n, .string t0, .string a0, .string b0] 47) = W at *
  have HB := Lib.hid hbw
  have HTW := Lib.hid hTW
  clear hbw hTW
  refine wp_region_still_lit (by kernel_rfl) (by kernel_rfl) ?_
  change wpStill _ _ W.drew _ _ _
  still_step
  still_step
  still_step
  still_step
  still_call ((HF.out W.drew).mono fun _ _ ⟨h, hw⟩ => ⟨h, hw.symm⟩)
  still_step
  still_step
  still_call ((HG.out W.drew).mono fun _ _ ⟨h, hw⟩ => ⟨h, hw.symm⟩)
  still_step
  still_step
  still_call ((HH.out W.drew).mono fun _ _ ⟨h, hw⟩ => ⟨h, hw.symm⟩)
  still_step
  still_step
  still_step
  still_step
  refine wpStill_nil ?_
  change Exit.then _ _ _ _ W.drew
  clear k0 k1 k2 k3
  go_wp2_with fail
  refine (HN.out _ _ (by simp) (by go_simp)).mono ?_
  rintro e w1 ⟨rfl, hb1⟩
  have HB1 := Lib.hid ((HB.out.alloc HB.out.size (Obj.cells #[Value.int .u64 n] 24)).drew.trans (hb1.mono (by have := HB.out.size; simp; omega)))
  have HT1 := Lib.hid ((HTW.out.alloc (Obj.cells #[Value.int .u64 n] 24)).drew.on hb1)
  clear hb1
  go_wp2_with fail
  refine (HK.out _).mono ?_
  rintro e w' ⟨rfl, rfl⟩
  go_wp2_with fail
  rcases Nat.lt_or_ge 200 t.size with h200 | h200
  · have HX := Lib.hid (fun W => text_not t W (by omega) h200)
    refine (HX.out _).mono ?_
    rintro e w' ⟨rfl, rfl⟩
    go_wp2_with fail
    refine (HL1.out _).mono ?_
    rintro e w' ⟨rfl, rfl⟩
    by_cases hk : k = 0
    · subst hk
      obtain ⟨p1, p2, p3, p4⟩ := HL2.out rfl
      have HNm := Lib.hid (fun (W : World) g => num_one m g W p3)
      change Hid (∀ (W : World) (g : Nat), _ → _ → Calls _ _ _ W fun e w' => e = .returned (.string (numB m)) ∧ _) at HNm
      have hsl := fun W => slice_upto (P := Tryd.prog) 9 Tryd.underlying9 b p p2 W
      rw [← p4] at hsl
      generalize numB m = v at *
      have hq : (v.toList == v.toList) = true := by simp
      have q1 : (0 : Int) < (p : Int) := by omega
      have q2 : (p : Int) ≤ (b.size : Int) := by omega
      have hd1 : decide ((0 : Int) < (p : Int)) = true := by simp; omega
      have hd2 : decide (0 < p) = true := by simp; omega
      have hd3 : decide ((p : Int) ≤ (b.size : Int)) = true := by simp; omega
      have hd4 : decide (p ≤ b.size) = true := by simp; omega
      clear p4
      go_wp2_with fail
      go_region_held3 (fun _ => True) (trivial) (first | (go_at_call 13; refine (HNm.out _ _ ?_ ?_).mono ?_; (go_simp); (go_simp); rintro e w5 ⟨rfl, hb5⟩) | (go_at_call 15; refine (awake_any _ ?_).mono ?_; (exact (HT1.out.alloc _).drew.on hb5); rintro e w6 ⟨rfl, hb6⟩))
      go_wp2_with fail
      go_ret
      have c5 := (HB1.out.alloc HB1.out.size (Obj.cells #[Value.int .u64 m] 24)).drew.trans (hb5.mono (by have := HB1.out.size; simp; omega))
      exact ⟨rfl, c5.trans (hb6.mono c5.size)⟩
    · have hk1 : ((k : Int) != 0) = true := by rw [bne_iff_ne]; omega
      have hk2 : ((k : Int) == 0) = false := by rw [beq_eq_false_iff_ne]; omega
      go_wp2_with fail
      refine (awake_any _ HT1.out).mono ?_
      rintro e w6 ⟨rfl, hb6⟩
      go_wp2_with fail
      go_ret
      exact ⟨rfl, HB1.out.trans (hb6.mono HB1.out.size)⟩
  · have HX := Lib.hid (fun W => text_in t W h200)
    have HY := Lib.hid (fun W => text_taken a b t h200 fa fb W)
    have hx210 : (textOf t).size ≤ 210 := by
      have := num_le t.size
      unfold textOf
      rw [ByteArray.size_append]
      have e : (⟨(num t.size).toArray⟩ : ByteArray).size = (num t.size).length := by show (num t.size).toArray.size = _; simp
      omega
    have hqt : (t.toList == t.toList) = true := by simp
    generalize textOf t = x at *
    refine (HX.out _).mono ?_
    rintro e w2 ⟨rfl, hb2⟩
    have HB2 := Lib.hid (HB1.out.trans (hb2.mono HB1.out.size))
    have HT2 := Lib.hid (HT1.out.on hb2)
    clear hb2
    go_wp2_with fail
    refine (HY.out _).mono ?_
    rintro e w' ⟨rfl, rfl⟩
    go_wp2_with fail
    refine (HL1.out _).mono ?_
    rintro e w' ⟨rfl, rfl⟩
    by_cases hk : k = 0
    · subst hk
      obtain ⟨p1, p2, p3, p4⟩ := HL2.out rfl
      have HNm := Lib.hid (fun (W : World) g => num_one m g W p3)
      change Hid (∀ (W : World) (g : Nat), _ → _ → Calls _ _ _ W fun e w' => e = .returned (.string (numB m)) ∧ _) at HNm
      have hsl := fun W => slice_upto (P := Tryd.prog) 9 Tryd.underlying9 b p p2 W
      rw [← p4] at hsl
      generalize numB m = v at *
      have hq : (v.toList == v.toList) = true := by simp
      have q1 : (0 : Int) < (p : Int) := by omega
      have q2 : (p : Int) ≤ (b.size : Int) := by omega
      have hd1 : decide ((0 : Int) < (p : Int)) = true := by simp; omega
      have hd2 : decide (0 < p) = true := by simp; omega
      have hd3 : decide ((p : Int) ≤ (b.size : Int)) = true := by simp; omega
      have hd4 : decide (p ≤ b.size) = true := by simp; omega
      clear p4
      go_wp2_with fail
      go_region_held3 (fun _ => True) (trivial) (first | (go_at_call 13; refine (HNm.out _ _ ?_ ?_).mono ?_; (go_simp); (go_simp); rintro e w5 ⟨rfl, hb5⟩) | (go_at_call 15; refine (awake_any _ ?_).mono ?_; (exact (HT2.out.alloc _).drew.on hb5); rintro e w6 ⟨rfl, hb6⟩))
      go_wp2_with fail
      go_ret
      have c5 := (HB2.out.alloc HB2.out.size (Obj.cells #[Value.int .u64 m] 24)).drew.trans (hb5.mono (by have := HB2.out.size; simp; omega))
      exact ⟨rfl, c5.trans (hb6.mono c5.size)⟩
    · have hk1 : ((k : Int) != 0) = true := by rw [bne_iff_ne]; omega
      have hk2 : ((k : Int) == 0) = false := by rw [beq_eq_false_iff_ne]; omega
      go_wp2_with fail
      refine (awake_any _ HT2.out).mono ?_
      rintro e w6 ⟨rfl, hb6⟩
      go_wp2_with fail
      go_ret
      exact ⟨rfl, HB2.out.trans (hb6.mono HB2.out.size)⟩
/-- The struct that came in. -/
theorem open_back {H : Type} {enc : TypeId × Value → H} {W : World} {b0 : Nat} {v : Value} {d : DataW H} {p : List MemPlace} (hval : Value.okWide Tryd.prog W .any b0 47 v) (h : DataW.Trod enc Tryd.prog W 0 (fun _ => true) true 47 v d p) :
    ∃ (n : Nat) (t a b : ByteArray), v = .agg #[.int .u64 n, .string t, .string a, .string b] ∧ n < 2 ^ 64 ∧ t.size ≤ maxLen ∧ a.size ≤ maxLen ∧ b.size ≤ maxLen := by
  obtain ⟨v0, v1, v2, v3, y0, y1, y2, y3, k, rfl, _, _, h0, h1, h2, h3⟩ := open_agg4 Tryd.underlying47 (by kernel_rfl) (by kernel_rfl) hval h
  obtain ⟨n, e0, _, w0⟩ := DataW.trod_int Tryd.underlying24 h0
  obtain ⟨t, e1, _, w1⟩ := DataW.trod_string Tryd.underlying9 h1
  obtain ⟨a, e2, _, w2⟩ := DataW.trod_string Tryd.underlying9 h2
  obtain ⟨b, e3, _, w3⟩ := DataW.trod_string Tryd.underlying9 h3
  simp only [List.cons.injEq, and_true] at e0 e1 e2 e3
  subst e0 e1 e2 e3
  have hw : 0 ≤ n ∧ n ≤ 18446744073709551615 := by simpa [Lit.wf, IntKind.min, IntKind.max, IntKind.signed, IntKind.bits] using w0
  obtain ⟨n, rfl⟩ := Int.eq_ofNat_of_zero_le hw.1
  exact ⟨n, t, a, b, rfl, by omega, w1, w2, w3⟩

theorem parOk : ∀ t ∈ (#[47] : Array TypeId).toList, Tryd.prog.readableRec t = true ∧ t < Tryd.prog.types.size := by
  have hall : ([47].all fun t => Tryd.prog.readableRec t && decide (t < Tryd.prog.types.size)) = true := by kernel_rfl
  intro t ht
  simpa using List.all_eq_true.1 hall t ht

/-- What the walk gives, for every argument and every world that holds the table. -/
theorem contract (H : Type) (enc : TypeId × Value → H) (W : World) (base : Nat) (args : Array Value) (ds gs : List (DataW H)) (before : List MemPlace)
    (hval : ∀ (j : Nat) t v, Tryd.f6.params[j]? = some t → args[j]? = some v → Value.okWide Tryd.prog W .any base t v)
    (hW : DataW.Whole enc Tryd.prog Tryd.f6.params.toList Rows.wireBacksSpec.vars false W args.toList ds gs before) (hL : laidMetH Tryd.prog Rows.wireBacksRow.laid W) :
    Calls Tryd.prog 6 args W fun e W' => ∃ v, e = .returned v ∧ Rows.wireBacksSpec.post enc Tryd.prog Tryd.f6 false true false false W args v W' := by
  have hW' := hW
  obtain ⟨p, q, hA0, hV, rfl, hfz, hnd⟩ := hW
  have hA : DataW.TrodAll enc Tryd.prog W 0 (fun _ => true) true Tryd.f6.params.toList args.toList ds p := hA0
  rw [Tryd.params6] at hA hval
  obtain ⟨v0, vs0, d0, ds0, p0, q0, hargs, rfl, rfl, h0, r0⟩ := trodAll_cons hA
  obtain ⟨rfl, rfl, rfl⟩ := trodAll_nil r0
  obtain rfl : args = #[v0] := by cases args; simp_all
  obtain ⟨rfl, rfl⟩ := trodVars_none hV
  obtain ⟨n, t, a, b, rfl, hn, ht, ha, hb⟩ := open_back (hval 0 47 v0 rfl rfl) h0
  clear hA0
  refine (walk n t a b W hn ht ha hb (tab_of_laid hL)).mono fun e W' ⟨he, hb⟩ => ?_
  subst he
  exact ⟨_, rfl, law_post rfl (by rw [Tryd.params6]; exact parOk) rfl hW' rfl rfl rfl hb⟩

theorem laid_met (os : Os) : laidMet Tryd.prog Rows.wireBacksRow.laid ((laidWorld os).forCall (fun _ _ => 0) ⟨#[], #[.agg #[.int .u64 0, .string ⟨#[]⟩, .string ⟨#[]⟩, .string ⟨#[]⟩]], []⟩).memory :=
  laidMet_of_run' 8 (by kernel_rfl) (by kernel_rfl)
theorem reads (os : Os) {H : Type} (enc : TypeId × Value → H) : ∃ places, DataW.whole enc Tryd.prog ((laidWorld os).forCall (fun _ _ => 0) ⟨#[], #[.agg #[.int .u64 0, .string ⟨#[]⟩, .string ⟨#[]⟩, .string ⟨#[]⟩]], []⟩).memory Tryd.f6.params.toList Rows.wireBacksSpec.vars false (#[.agg #[.int .u64 0, .string ⟨#[]⟩, .string ⟨#[]⟩, .string ⟨#[]⟩]] : Array Value).toList 8 = some ([.agg [.lit (.int .u64 0), .lit (.string []), .lit (.string []), .lit (.string [])]], [], places) :=
  ⟨[], by kernel_rfl⟩

set_option maxRecDepth 100000 in
theorem lifted (os : Os) (started : os.Started) (H : Type) (enc : TypeId × Value → H) (F : Stop.Interp) :
    ReturnsInHanded {} Tryd.checked os 6 .any ((OpenSpec.ofChange Rows.wireBacksSpec).preRow enc Tryd.prog Tryd.f6 Rows.wireBacksRow.domain false Rows.wireBacksRow.laid) (((OpenSpec.ofChange Rows.wireBacksSpec).at F).post enc Tryd.prog Tryd.f6 false true false false) := by
  obtain ⟨places, hx⟩ := reads os enc
  refine returnsInHanded_of_row (C := Tryd.checked) (s := OpenSpec.ofChange Rows.wireBacksSpec) own started (by kernel_rfl) Tryd.func6
    (witness_row_at (enc := enc) (C := Tryd.checked) false (laidWorld os) #[.agg #[.int .u64 0, .string ⟨#[]⟩, .string ⟨#[]⟩, .string ⟨#[]⟩]] rfl (by kernel_rfl) (by kernel_rfl) (by kernel_rfl)
      (OpenSpec.preRow_of_cond 8 hx (by kernel_rfl) (fun k hk => by cases hk) (by kernel_rfl) (laid_met os))) ?_
  intro W base args ds gs before hval hW _ _ _ hL _ _
  exact contract H enc W base args ds gs before hval hW hL

theorem said : Rows.WireBacksSaid :=
  OpenClaim.holds_of_cond 6 Tryd.f6 rfl rfl rfl rfl rfl rfl rfl ⟨rfl, rfl, rfl, rfl, rfl⟩ rfl rfl rfl rfl rfl (by kernel_rfl) Tryd.func6 (by kernel_rfl)
    (of_decide_eq_true (by kernel_rfl)) (by unfold Func.isWrapper; first | (rw [if_pos (by decide +kernel)]; kernel_rfl) | (rw [if_neg (by decide +kernel)]; exact ⟨rfl, rfl⟩))
    (fun os started H enc _ F => by rw [OpenClaim.pre_eq_preRow]; exact lifted os started H enc F)

/-- No parameter wants a stand-in; the program's own looks are off. -/
theorem plain (f : FuncId) (fn : Func) (hf : Tryd.pinned.checked.prog.funcNamed "tattle/tattlelaw01.WireBacks" = some f) (hfn : Tryd.pinned.checked.prog.funcs[f]? = some fn) :
    false = Tryd.pinned.checked.prog.looks [] ∧ ∀ (j : Nat) t, fn.params[j]? = some t → Tryd.pinned.checked.prog.wantsStandIn t = false := by
  obtain rfl : f = 6 := Option.some.inj ((show Tryd.prog.funcNamed "tattle/tattlelaw01.WireBacks" = some 6 by kernel_rfl).symm.trans hf) |>.symm
  obtain rfl : fn = Tryd.f6 := (Option.some.inj (Tryd.func6.symm.trans hfn)).symm
  refine ⟨by kernel_rfl, fun j t ht => ?_⟩
  rw [Tryd.params6] at ht
  have hm : t ∈ [47] := by simpa using Array.mem_of_getElem? ht
  have hall : ([47].all fun u => !Tryd.prog.wantsStandIn u) = true := by kernel_rfl
  exact (show Tryd.prog.wantsStandIn t = false by simpa using List.all_eq_true.1 hall t hm)

/-- THE CARD. -/
theorem card : Rows.WireBacksCardSaid :=
  Claim7.holds_tied_plain_at .later [] _ _ _ _ said (fun _ h => by cases h) (by kernel_rfl) (fun _ h => by cases h) wireBacks_row_tie rfl ⟨rfl, rfl⟩ (by kernel_rfl) rfl plain (by kernel_rfl)
end Go.Proofs.YtpndijbhopeakaaDoor.lawBacks
