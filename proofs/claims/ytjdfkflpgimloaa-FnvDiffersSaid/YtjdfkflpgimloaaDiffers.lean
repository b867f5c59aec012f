/-
  FnvDiffers: texts that are as long, and differ in just one octet, have sums that differ, and so have numbers that differ, by the same text: the law returns true for every input.
-/
import Derived.Test.YtjdfkflpgimloaaLaw
import Derived.Test.YtjdfkflpgimloaaQuiet
import Derived.Laws.IdiomStrings
namespace Go.Proofs.Ytjdfkflpgimloaa.lawDiffers
open Go.Sort Go.ChangeShapes Go.WideShapes Go.ChangeAt Go.RowKit Go.Joins Go.Proofs.Ytjdfkflpgimloaa.Pure

theorem text_eq {a b : ByteArray} (h : a.toList = b.toList) : a = b := by
  rw [ByteArray.toList_eq, ByteArray.toList_eq] at h
  exact ByteArray.ext (Array.toList_inj.1 h)
/-- The text, one octet written over. -/
theorem set_text (W1 W : World) (g i cap : Nat) (s : ByteArray) (c : UInt8) (hlt : i < s.size) (hW : ∀ p, W.cell? p = (W1.setCell ⟨g, i, none⟩ (.int .u8 (c.toNat : Int))).cell? p) (hc : ∀ j (h : j < s.size), W1.cell? ⟨g, j, none⟩ = some (.int .u8 (s[j].toNat : Int))) :
    (convert 34 9 (.slice (some ⟨g, 0, none⟩) s.size cap)).run Try.prog W = .ok (.string ⟨(s.data.toList.set i c).toArray⟩) W := by
  have hl : (s.data.toList.set i c).length = s.size := by simp
  have h := run_convert_bytes_back (P := Try.prog) W 34 9 5 ⟨g, 0, none⟩ cap (s.data.toList.set i c) Try.underlying34 Try.underlying5 Try.underlying9 fun j hj => by
    have hj' : j < s.size := by rw [← hl]; exact hj
    rw [Addr.add_lit, Nat.zero_add, hW]
    by_cases e : j = i
    · subst e
      rw [World.cell?_setCell_same _ _ _ (hc j hj'), List.getElem_set_self]
    · rw [World.cell?_setCell_other _ _ _ _ (by intro h; cases h; exact e rfl), hc j hj', List.getElem_set_ne (fun h => e h.symm)]
      rfl
  rw [hl] at h
  exact h

set_option maxRecDepth 100000 in
set_option maxHeartbeats 4000000 in
theorem way (s0 s u : ByteArray) (t : Nat) (c : UInt8) (h k hs ks z1 z2 : BitVec 64) (w : World) (ht : t ≤ 65535) (hsz : s.size ≤ 300) (T T2 : Bool)
    (HF : Hid (∀ W, Calls Try.prog 9 #[.string s0] W fun e w' => e = .returned (.string s) ∧ W = w'))
    (C1 : Hid (∀ W, Calls Try.prog 12 #[.int .u64 (h.toNat : Int), .string s] W fun e w' => e = .returned (.int .u64 (hs.toNat : Int)) ∧ W = w'))
    (C2 : Hid (∀ W, Calls Try.prog 12 #[.int .u64 (k.toNat : Int), .string s] W fun e w' => e = .returned (.int .u64 (ks.toNat : Int)) ∧ W = w'))
    (hT1 : ((hs.toNat : Int) == (ks.toNat : Int)) = T) (hT2 : ((h.toNat : Int) == (k.toNat : Int)) = T)
    (S1 : Hid (∀ W g, W.cell? ⟨g, 0, none⟩ = some (.string u) → Calls Try.prog 10 #[.slice (some ⟨g, 0, none⟩) 1 1] W fun e w' => e = .returned (.int .u64 (z1.toNat : Int)) ∧ W = w'))
    (S2 : Hid (∀ W g, W.cell? ⟨g, 0, none⟩ = some (.string s) → Calls Try.prog 10 #[.slice (some ⟨g, 0, none⟩) 1 1] W fun e w' => e = .returned (.int .u64 (z2.toNat : Int)) ∧ W = w'))
    (hz : ((z1.toNat : Int) == (z2.toNat : Int)) = T2) (hsu : (s.toList == u.toList) = T2)
    (HU : Hid (0 < s.size → u = ⟨(s.data.toList.set (t % s.size) c).toArray⟩)) :
    Calls Try.prog 5 #[.agg #[.string s0, .int .u16 (t : Int), .int .u8 (c.toNat : Int), .int .u64 (h.toNat : Int), .int .u64 (k.toNat : Int)]] w fun e w' => e = .returned (.bool true) ∧ Below w.heap.size w w' := by
  go_enter Try.func5, Try.ntmps5
  go_upto_region 1 with (fail)
  have HB0 : Hid (Below w.heap.size w (w.alloc (.cells #[.string s0, .int .u16 (t : Int), .int .u8 (c.toNat : Int), .int .u64 (h.toNat : Int), .int .u64 (k.toNat : Int)] 33))) := Lib.hid ((Below.refl _ _).alloc (Nat.le_refl _) _)
  have c0 : (w.alloc (.cells #[.string s0, .int .u16 (t : Int), .int .u8 (c.toNat : Int), .int .u64 (h.toNat : Int), .int .u64 (k.toNat : Int)] 33)).cell? ⟨w.heap.size, 0, none⟩ = some (.string s0) := by rw [World.cell?_alloc_new]; rfl
  have c1 : (w.alloc (.cells #[.string s0, .int .u16 (t : Int), .int .u8 (c.toNat : Int), .int .u64 (h.toNat : Int), .int .u64 (k.toNat : Int)] 33)).cell? ⟨w.heap.size, 1, none⟩ = some (.int .u16 (t : Int)) := by rw [World.cell?_alloc_new]; rfl
  have c2 : (w.alloc (.cells #[.string s0, .int .u16 (t : Int), .int .u8 (c.toNat : Int), .int .u64 (h.toNat : Int), .int .u64 (k.toNat : Int)] 33)).cell? ⟨w.heap.size, 2, none⟩ = some (.int .u8 (c.toNat : Int)) := by rw [World.cell?_alloc_new]; rfl
  have c3 : (w.alloc (.cells #[.string s0, .int .u16 (t : Int), .int .u8 (c.toNat : Int), .int .u64 (h.toNat : Int), .int .u64 (k.toNat : Int)] 33)).cell? ⟨w.heap.size, 3, none⟩ = some (.int .u64 (h.toNat : Int)) := by rw [World.cell?_alloc_new]; rfl
  have c4 : (w.alloc (.cells #[.string s0, .int .u16 (t : Int), .int .u8 (c.toNat : Int), .int .u64 (h.toNat : Int), .int .u64 (k.toNat : Int)] 33)).cell? ⟨w.heap.size, 4, none⟩ = some (.int .u64 (k.toNat : Int)) := by rw [World.cell?_alloc_new]; rfl
  have hlt : w.heap.size < (w.alloc (.cells #[.string s0, .int .u16 (t : Int), .int .u8 (c.toNat : Int), .int .u64 (h.toNat : Int), .int .u64 (k.toNat : Int)] 33)).heap.size := by simp
  generalize w.alloc (.cells #[.string s0, .int .u16 (t : Int), .int .u8 (c.toNat : Int), .int .u64 (h.toNat : Int), .int .u64 (k.toNat : Int)] 33) = w0 at *
  go_cut [3, 4, 5, 6, 7] from 3 to 21 (fun u3 u4 u5 u6 u7 wx => u3 = .string s ∧ u4 = .int .u16 (t : Int) ∧ u5 = .int .u8 (c.toNat : Int) ∧ u6 = .int .u64 (h.toNat : Int) ∧ u7 = .int .u64 (k.toNat : Int) ∧ Hid (Below w.heap.size w wx))
  case first =>
    have c0 : ∀ p : Regrown, (grow (redrawn w0 p.d) p.os).cell? ⟨w.heap.size, 0, none⟩ = some (.string s0) := fun p => cell_regrown c0 p.d p.os
    have c1 : ∀ p : Regrown, (grow (redrawn w0 p.d) p.os).cell? ⟨w.heap.size, 1, none⟩ = some (.int .u16 (t : Int)) := fun p => cell_regrown c1 p.d p.os
    have c2 : ∀ p : Regrown, (grow (redrawn w0 p.d) p.os).cell? ⟨w.heap.size, 2, none⟩ = some (.int .u8 (c.toNat : Int)) := fun p => cell_regrown c2 p.d p.os
    have c3 : ∀ p : Regrown, (grow (redrawn w0 p.d) p.os).cell? ⟨w.heap.size, 3, none⟩ = some (.int .u64 (h.toNat : Int)) := fun p => cell_regrown c3 p.d p.os
    have c4 : ∀ p : Regrown, (grow (redrawn w0 p.d) p.os).cell? ⟨w.heap.size, 4, none⟩ = some (.int .u64 (k.toNat : Int)) := fun p => cell_regrown c4 p.d p.os
    refine q_enter (by kernel_rfl) (by kernel_rfl) ?_
    iterate 16 (refine q_step ?_; intro K hK; go_simp; first | (refine hK _ ?_; clear hK K) | (refine ⟨_, fun p => Calls.regrown_of (by with_reducible exact (HF.out (grow (redrawn w0 p.d) p.os)).mono (fun _ _ ⟨he, hw⟩ => ⟨he, hw ▸ Below.refl _ _⟩)), hK _ ?_⟩; clear hK K))
    refine q_nil ?_
    intro wz hbz
    go_wp2_with fail
    go_meet
    case rel => exact ⟨rfl, rfl, rfl, rfl, rfl, Lib.hid (HB0.out.trans (hbz.mono (by omega)))⟩
  case rest =>
    obtain ⟨rfl, rfl, rfl, rfl, rfl, HB⟩ := hcut
    clear c0 c1 c2 c3 c4 hlt HB0
    go_wp2_with fail
    refine (C1.out _).mono ?_
    rintro e w' ⟨rfl, rfl⟩
    go_wp2_with fail
    refine (C2.out _).mono ?_
    rintro e w' ⟨rfl, rfl⟩
    by_cases h0 : s.size = 0
    · have e1 : ((s.size : Int) == 0) = true := by rw [beq_iff_eq]; omega
      clear HU
      have H0 := Lib.hid h0
      clear h0
      go_wp2_with fail
      refine (awake_any _).mono ?_
      rintro e w5 ⟨rfl, hb5⟩
      go_wp2_with fail
      go_ret
      exact ⟨rfl, HB.out.trans (hb5.mono HB.out.size)⟩
    · have e1 : ((s.size : Int) == 0) = false := by rw [beq_eq_false_iff_ne]; omega
      have e2 : ¬ (s.size : Int) = 0 := by omega
      have hu := HU.out (by omega)
      clear HU
      obtain ⟨i, hi, hil⟩ : ∃ i : Nat, i = t % s.size ∧ i < s.size := ⟨_, rfl, Nat.mod_lt _ (by omega)⟩
      rw [← hi] at hu
      have him : (t : Int) % (s.size : Int) = (i : Int) := by rw [hi]; simp
      clear hi
      have HU := Lib.hid hu
      clear hu
      go_upto_region 7 with (fail)
      rw [him]
      clear him
      have hconv := run_bytes_of_string (P := Try.prog) wc 9 34 5 s Try.underlying9 Try.underlying34 Try.underlying5
      go_upto_region 8 with (fail)
      clear hconv
      have hcap := grownCap_ge wc s.size 0 5
      generalize grownCap wc s.size 0 5 = cap at *
      have hrow : (bytesRow s cap).size = cap := by simp [bytesRow]; omega
      have hcells : ∀ j (h : j < s.size), (wc.alloc (Obj.cells (bytesRow s cap) 5 ((bytesRow s cap).size, (bytesRow s cap).size + 1))).cell? ⟨wc.heap.size, j, none⟩ = some (.int .u8 (s[j].toNat : Int)) := fun j h => by
        rw [World.cell?_alloc_mark]; exact bytesRow_at s cap j h
      have hfree : (wc.alloc (Obj.cells (bytesRow s cap) 5 ((bytesRow s cap).size, (bytesRow s cap).size + 1))).frozen? ⟨wc.heap.size, i, none⟩ = false := by
        rw [World.frozen?_alloc_mark, hrow]; simp; omega
      have hbel : Below w.heap.size w (wc.alloc (Obj.cells (bytesRow s cap) 5 ((bytesRow s cap).size, (bytesRow s cap).size + 1))) := HB.out.alloc HB.out.size _
      generalize wc.alloc (Obj.cells (bytesRow s cap) 5 ((bytesRow s cap).size, (bytesRow s cap).size + 1)) = W1 at *
      have hgw : w.heap.size ≤ wc.heap.size := HB.out.size
      generalize wc.heap.size = g at *
      have hcell := hcells i hil
      have HCV := Lib.hid (fun W hW => set_text W1 W g i cap s c hil hW hcells)
      rw [← HU.out] at HCV
      have HB2 : Hid (Below w.heap.size w (W1.setCell ⟨g, i, none⟩ (.int .u8 (c.toNat : Int)))) := Lib.hid (hbel.setCell (p := ⟨g, i, none⟩) hgw _)
      clear hrow hcells hbel HB
      go_upto_region 9 with (fail)
      clear hcell hfree
      generalize W1.setCell ⟨g, i, none⟩ (.int .u8 (c.toNat : Int)) = W2 at *
      have hcv := HCV.out W2.drew (fun _ => rfl)
      go_upto_region 10 with (fail)
      clear hcv HCV
      go_wp2_with fail
      refine (S1.out _ _ (by go_simp)).mono ?_
      rintro e w' ⟨rfl, rfl⟩
      go_wp2_with fail
      refine (S2.out _ _ (by go_simp)).mono ?_
      rintro e w' ⟨rfl, rfl⟩
      go_wp2_with fail
      refine (awake_any _).mono ?_
      rintro e w5 ⟨rfl, hb5⟩
      go_wp2_with fail
      go_ret
      exact ⟨rfl, ((HB2.out.drew.alloc HB2.out.size _).alloc (by have := HB2.out.size; simp; omega) _).trans (hb5.mono (by have := HB2.out.size; simp; omega))⟩

theorem walk (s0 : ByteArray) (t : Nat) (c : UInt8) (h k : BitVec 64) (w : World) (hs0 : s0.size ≤ maxLen) (ht : t ≤ 65535) :
    Calls Try.prog 5 #[.agg #[.string s0, .int .u16 (t : Int), .int .u8 (c.toNat : Int), .int .u64 (h.toNat : Int), .int .u64 (k.toNat : Int)]] w fun e w' => e = .returned (.bool true) ∧ Below w.heap.size w w' := by
  have ss := few_size s0
  have HF := Lib.hid (fun W => few_any s0 W hs0)
  generalize fewB s0 = s at *
  have ls : s.size ≤ maxLen := by unfold maxLen; omega
  have lu : (⟨(s.data.toList.set (t % s.size) c).toArray⟩ : ByteArray).size ≤ maxLen := by
    show ((s.data.toList.set (t % s.size) c).toArray).size ≤ _
    unfold maxLen; simp; omega
  have bvb : ∀ a b : BitVec 64, (((a.toNat : Int) == (b.toNat : Int))) = decide (a = b) := fun a b => by
    rw [Bool.eq_iff_iff, beq_iff_eq, decide_eq_true_iff]
    exact ⟨fun e => BitVec.eq_of_toNat_eq (by omega), fun e => by rw [e]⟩
  refine way s0 s ⟨(s.data.toList.set (t % s.size) c).toArray⟩ t c h k (on h s.data.toList) (on k s.data.toList) (on first (s.data.toList.set (t % s.size) c)) (on first s.data.toList) w ht ss (decide (h = k)) (s.toList == (⟨(s.data.toList.set (t % s.size) c).toArray⟩ : ByteArray).toList) HF
    (Lib.hid fun W => on_any h s W ls) (Lib.hid fun W => on_any k s W ls) ?_ (bvb h k) (Lib.hid fun W g hc => sum_one g _ W hc lu) (Lib.hid fun W g hc => sum_one g s W hc ls) ?_ rfl (Lib.hid fun _ => rfl)
  · rw [bvb, Bool.eq_iff_iff, decide_eq_true_iff, decide_eq_true_iff]
    exact on_same
  · rw [bvb, Bool.eq_iff_iff, decide_eq_true_iff, beq_iff_eq]
    have hte : ∀ a b : ByteArray, a.toList = b.toList ↔ a = b := fun a b => ⟨text_eq, fun e => by rw [e]⟩
    rw [hte]
    by_cases hn : s.size = 0
    · have e : s.data.toList = [] := List.eq_nil_of_length_eq_zero (by simpa using hn)
      have e' : s = ⟨s.data.toList.toArray⟩ := by simp
      rw [e', e]
      simp
    · rw [on_set first s.data.toList _ c (by have := Nat.mod_lt t (y := s.size) (by omega); simpa using this)]
      constructor
      · intro e; rw [← e]
      · intro e
        have := congrArg (fun b : ByteArray => b.data.toList) e
        simpa using this

theorem parOk : ∀ t ∈ (#[33] : Array TypeId).toList, Try.prog.readableRec t = true ∧ t < Try.prog.types.size := by
  have hall : ([33].all fun t => Try.prog.readableRec t && decide (t < Try.prog.types.size)) = true := by kernel_rfl
  intro t ht
  simpa using List.all_eq_true.1 hall t ht

set_option maxRecDepth 100000 in
/-- What the walk gives, for every argument. -/
theorem contract (H : Type) (enc : TypeId × Value → H) (W : World) (base : Nat) (args : Array Value) (ds gs : List (DataW H)) (before : List MemPlace)
    (hval : ∀ (j : Nat) t v, Try.f5.params[j]? = some t → args[j]? = some v → Value.okWide Try.prog W .any base t v)
    (hW : DataW.Whole enc Try.prog Try.f5.params.toList Rows.fnvDiffersSpec.vars false W args.toList ds gs before) :
    Calls Try.prog 5 args W fun e W' => ∃ v, e = .returned v ∧ Rows.fnvDiffersSpec.post enc Try.prog Try.f5 false true false false W args v W' := by
  have hW' := hW
  obtain ⟨p, q, hA0, hV, rfl, hfz, hnd⟩ := hW
  have hA : DataW.TrodAll enc Try.prog W 0 (fun _ => true) true Try.f5.params.toList args.toList ds p := hA0
  rw [Try.params5] at hA hval
  obtain ⟨v0, vs0, d0, ds0, p0, q0, hargs, rfl, rfl, h0, r0⟩ := trodAll_cons hA
  obtain ⟨rfl, rfl, rfl⟩ := trodAll_nil r0
  obtain rfl : args = #[v0] := by cases args; simp_all
  obtain ⟨rfl, rfl⟩ := trodVars_none hV
  obtain ⟨s, t, c, x, y, rfl, hs, ht⟩ := open_differ (hval 0 33 v0 rfl rfl) h0
  clear hA0
  refine (walk s t c x y W hs ht).mono fun e W' ⟨he, hb⟩ => ?_
  subst he
  exact ⟨_, rfl, law_post rfl (by rw [Try.params5]; exact parOk) rfl hW' rfl rfl rfl hb⟩

set_option maxRecDepth 100000 in
theorem lifted (os : Os) (started : os.Started) (H : Type) (enc : TypeId × Value → H) :
    ReturnsInHanded {} Try.checked os 5 .any (Rows.fnvDiffersSpec.pre6 enc Try.prog Try.f5 Rows.fnvDiffersRow.domain false) (Rows.fnvDiffersSpec.post enc Try.prog Try.f5 false true false false) := by
  refine returnsInHanded_of_change (C := Try.checked) own started (by kernel_rfl) Try.func5
    (ChangeSpec.witness6 (enc := enc) (C := Try.checked) false ⟨#[], #[.agg #[.string ⟨#[]⟩, .int .u16 0, .int .u8 0, .int .u64 0, .int .u64 0]], []⟩ 8 (by kernel_rfl) (by kernel_rfl) (by kernel_rfl) (by kernel_rfl)) ?_
  intro W base args ds gs before hval hW _ _
  exact contract H enc W base args ds gs before hval hW

/-- THE STATEMENT. -/
theorem said : Rows.FnvDiffersSaid :=
  OpenClaim.holds_of_wide 5 Try.f5 rfl rfl rfl rfl rfl rfl rfl ⟨rfl, rfl, rfl, rfl, rfl⟩ rfl rfl rfl rfl rfl (by kernel_rfl) Try.func5 (by kernel_rfl)
    (of_decide_eq_true (by kernel_rfl)) (by unfold Func.isWrapper; first | (rw [if_pos (by decide +kernel)]; kernel_rfl) | (rw [if_neg (by decide +kernel)]; exact ⟨rfl, rfl⟩))
    (fun os started H enc _ => lifted os started H enc)
end Go.Proofs.Ytjdfkflpgimloaa.lawDiffers
