/-
  What Next answers, as a law meets it; the walk of the chapter's examples.
-/
import Derived.Test.YtphcmjhphoacgaaNext
import Derived.Test.YtphcmjhphoacgaaTail
namespace Go.Proofs.Ytphcmjhphoacgaa
open Go.Sort Go.RowKit Go.Proofs.Ytphcmjhphoacgaa.Pure

/-- A slice of numbers, made anew. -/
theorem has_new (w : World) (xs : List Int) (t : TypeId) : Has (w.alloc (.cells (ints xs).toArray t)) w.heap.size (w.heap.size + 1) (some ⟨w.heap.size, 0, none⟩) xs := fun j hj => by
  refine ⟨_, rfl, Nat.le_refl _, by simp, ?_⟩
  have e : (⟨w.heap.size, 0, none⟩ : Addr).add j = ⟨w.heap.size, j, none⟩ := by unfold Addr.add; split <;> simp_all
  rw [e, World.cell?_alloc_mark]
  simp [ints, List.getD, hj]

/-- Next answers who, the order then, the dice then. -/
def Gx (w : World) (s : ByteArray) (n : Int) (st : Tn) (e : Ending) (w' : World) : Prop :=
  ∃ A2 c2, e = .returned (.tuple #[.int .i64 n, .agg #[.slice A2 st.T.length c2, .int .i64 (st.p : Nat)], .agg #[.string s, .int .i64 (st.a : Nat)], .int .i64 0]) ∧ Has w' w.heap.size w'.heap.size A2 st.T ∧ Below w.heap.size w w'
theorem l_next (s : ByteArray) (st : Tn) (A A' : Option Addr) (c c' lo hi lo' hi' : Nat) (l : List Int) (w : World) (hs : s.size ≤ 1000) (hst : OkS s.data.toList st) (hn : nodesB l = true) (hl : l ≠ [])
    (h : Has w lo hi A st.T) (hh : hi ≤ w.heap.size) (h' : Has w lo' hi' A' l) (hh' : hi' ≤ w.heap.size) :
    Calls Try.prog 11 #[.agg #[.slice A st.T.length c, .int .i64 (st.p : Nat)], .agg #[.string s, .int .i64 (st.a : Nat)], .slice A' l.length c'] w (Gx w s (who s.data.toList l st) (stp s.data.toList l st)) := by
  have h1 := nums_len st.T hst.1
  have h2 := nums_len l (nodesB_nums hn)
  exact next_any s st.a A A' c c' lo hi lo' hi' st.T l st.p w hs (by omega) (by omega) h hh h' hh' _ (ans_ok s.data.toList st.a st.T st.p l hst.t hn hst.2.2 hl)

theorem ex1 : ans (⟨#[]⟩ : ByteArray).data.toList 0 [] 0 [1, 2] = ⟨2, [2, 1], 1, 0, 0⟩ := by rfl
theorem ex2 : ans (⟨#[]⟩ : ByteArray).data.toList 0 [2, 1] 1 [1, 2] = ⟨1, [2, 1], 2, 0, 0⟩ := by rfl
theorem ex3 : ans (⟨#[]⟩ : ByteArray).data.toList 0 [2, 1] 1 [] = ⟨0, [2, 1], 1, 0, 6⟩ := by rfl

set_option maxRecDepth 100000 in
set_option maxHeartbeats 4000000 in
theorem awake_any (w : World) : Calls Try.prog 19 #[] w fun e w' => e = .returned (.bool true) ∧ Below w.heap.size w w' := by
  have H1 : Hid (∀ (W : World) (g : Nat), Has W g (g + 1) (some ⟨g, 0, none⟩) [1, 2] → g + 1 ≤ W.heap.size → Calls Try.prog 11 #[.agg #[.slice none 0 0, .int .i64 0], .agg #[.string ⟨#[]⟩, .int .i64 0], .slice (some ⟨g, 0, none⟩) 2 2] W fun e w' =>
      ∃ A2 c2, e = .returned (.tuple #[.int .i64 2, .agg #[.slice A2 2 c2, .int .i64 1], .agg #[.string ⟨#[]⟩, .int .i64 0], .int .i64 0]) ∧ Has w' W.heap.size w'.heap.size A2 [2, 1] ∧ Below W.heap.size W w') := Lib.hid fun W g h hg =>
    next_any ⟨#[]⟩ 0 none _ 0 2 0 0 g (g + 1) [] [1, 2] 0 W (by decide) (by decide) (by decide) (Has.nil _ _ _ _) (Nat.zero_le _) h hg _ ex1
  have H2 : Hid (∀ (W : World) (g : Nat) A c lo hi, Has W lo hi A [2, 1] → hi ≤ W.heap.size → Has W g (g + 1) (some ⟨g, 0, none⟩) [1, 2] → g + 1 ≤ W.heap.size → Calls Try.prog 11 #[.agg #[.slice A 2 c, .int .i64 1], .agg #[.string ⟨#[]⟩, .int .i64 0], .slice (some ⟨g, 0, none⟩) 2 2] W fun e w' =>
      ∃ A2 c2, e = .returned (.tuple #[.int .i64 1, .agg #[.slice A2 2 c2, .int .i64 2], .agg #[.string ⟨#[]⟩, .int .i64 0], .int .i64 0]) ∧ Has w' W.heap.size w'.heap.size A2 [2, 1] ∧ Below W.heap.size W w') := Lib.hid fun W g A c lo hi hA hh h hg =>
    next_any ⟨#[]⟩ 0 A _ c 2 lo hi g (g + 1) [2, 1] [1, 2] 1 W (by decide) (by decide) (by decide) hA hh h hg _ ex2
  have H3 : Hid (∀ (W : World) A c lo hi, Has W lo hi A [2, 1] → hi ≤ W.heap.size → Calls Try.prog 11 #[.agg #[.slice A 2 c, .int .i64 1], .agg #[.string ⟨#[]⟩, .int .i64 0], .slice none 0 0] W fun e w' =>
      ∃ A2 c2, e = .returned (.tuple #[.int .i64 0, .agg #[.slice A2 2 c2, .int .i64 1], .agg #[.string ⟨#[]⟩, .int .i64 0], .int .i64 6]) ∧ Has w' W.heap.size w'.heap.size A2 [2, 1] ∧ Below W.heap.size W w') := Lib.hid fun W A c lo hi hA hh =>
    next_any ⟨#[]⟩ 0 A none c 0 lo hi 0 0 [2, 1] [] 1 W (by decide) (by decide) (by decide) hA hh (Has.nil _ _ _ _) (Nat.zero_le _) _ ex3
  have HN : Hid (∀ W : World, Has (W.alloc (.cells #[.int .i64 1, .int .i64 2] 3)) W.heap.size (W.heap.size + 1) (some ⟨W.heap.size, 0, none⟩) [1, 2]) := Lib.hid fun W => has_new W [1, 2] 3
  go_enter Try.func19, Try.ntmps19
  go_wp2_with fail
  refine (H1.out _ _ (HN.out w) (by simp)).mono ?_
  rintro e w1 ⟨A1, c1, rfl, hh1, hb1⟩
  have HB1 : Hid (Below w.heap.size w w1) := Lib.hid (((Below.refl _ _).alloc (Nat.le_refl _) _).trans (hb1.mono (by simp)))
  have HT : Hid (Tb ((w1.alloc (.cells #[.slice A1 2 c1, .int .i64 1] 24)).alloc (.cells #[.string ⟨#[]⟩, .int .i64 0] 26)) w1.heap.size (.slice A1 2 c1) 1) := Lib.hid ((Tb.new w1 _ _ _).alloc _)
  have HD : Hid (Box ((w1.alloc (.cells #[.slice A1 2 c1, .int .i64 1] 24)).alloc (.cells #[.string ⟨#[]⟩, .int .i64 0] 26)) (w1.heap.size + 1) ⟨#[]⟩ 0) := Lib.hid (by
    have := Box.new (w1.alloc (.cells #[.slice A1 2 c1, .int .i64 1] 24)) ⟨#[]⟩ 0 26
    simpa using this)
  have HA : Hid (Has ((w1.alloc (.cells #[.slice A1 2 c1, .int .i64 1] 24)).alloc (.cells #[.string ⟨#[]⟩, .int .i64 0] 26)) 0 w1.heap.size A1 [2, 1]) := Lib.hid (((hh1.wide (Nat.zero_le _) (Nat.le_refl _)).alloc _ (Nat.le_refl _)).alloc _ (by simp))
  have HB2 : Hid (Below w.heap.size w ((w1.alloc (.cells #[.slice A1 2 c1, .int .i64 1] 24)).alloc (.cells #[.string ⟨#[]⟩, .int .i64 0] 26))) := Lib.hid ((HB1.out.alloc HB1.out.size _).alloc (by have := HB1.out.size; simp; omega) _)
  clear hh1 hb1 HB1
  go_upto_region 2 with (fail)
  have hgs : w1.heap.size ≤ ((w1.alloc (.cells #[.slice A1 2 c1, .int .i64 1] 24)).alloc (.cells #[.string ⟨#[]⟩, .int .i64 0] 26)).heap.size := by simp; omega
  generalize (w1.alloc (.cells #[.slice A1 2 c1, .int .i64 1] 24)).alloc (.cells #[.string ⟨#[]⟩, .int .i64 0] 26) = w2 at *
  generalize w1.heap.size = g at *
  obtain ⟨x0, x1, _, _⟩ := HT.out
  obtain ⟨y0, y1, _, _⟩ := HD.out
  go_wp2_with fail
  refine (H2.out _ _ _ _ _ _ (HA.out.alloc _ hgs) (by simp; omega) (HN.out w2) (by simp)).mono ?_
  rintro e w3 ⟨A3, c3, rfl, _, hb3⟩
  have hbb : Below w2.heap.size w2 w3 := ((Below.refl _ _).alloc (Nat.le_refl _) _).trans (hb3.mono (by simp))
  have HT3 := Lib.hid (HT.out.on hbb)
  have HD3 := Lib.hid (HD.out.on hbb)
  have HA3 := Lib.hid (HA.out.on hbb hgs)
  have HB3 := Lib.hid (HB2.out.trans (hbb.mono HB2.out.size))
  have hgs3 : g ≤ w3.heap.size := Nat.le_trans hgs hbb.size
  clear hb3 hbb HT HD HA HB2 x0 x1 y0 y1 hgs
  go_upto_region 3 with (fail)
  have hbb : Below w3.heap.size w3 ((w3.alloc (.cells #[.slice A3 2 c3, .int .i64 2] 24)).alloc (.cells #[.string ⟨#[]⟩, .int .i64 0] 26)) := ((Below.refl _ _).alloc (Nat.le_refl _) _).alloc (by simp) _
  have HT4 := Lib.hid (HT3.out.on hbb)
  have HD4 := Lib.hid (HD3.out.on hbb)
  have HA4 := Lib.hid (HA3.out.on hbb hgs3)
  have HB4 := Lib.hid (HB3.out.trans (hbb.mono HB3.out.size))
  have hgs4 := Nat.le_trans hgs3 hbb.size
  clear HT3 HD3 HA3 HB3 hgs3 hbb
  generalize (w3.alloc (.cells #[.slice A3 2 c3, .int .i64 2] 24)).alloc (.cells #[.string ⟨#[]⟩, .int .i64 0] 26) = w4 at *
  obtain ⟨x0, x1, _, _⟩ := HT4.out
  obtain ⟨y0, y1, _, _⟩ := HD4.out
  go_wp2_with fail
  refine (H3.out _ _ _ _ _ HA4.out hgs4).mono ?_
  rintro e w5 ⟨A5, c5, rfl, _, hb5⟩
  have HB5 := Lib.hid (HB4.out.trans (hb5.mono HB4.out.size))
  clear hb5 HT4 HD4 HA4 HB4 x0 x1 y0 y1
  go_upto_region 4 with (fail)
  have HB6 : Hid (Below w.heap.size w ((w5.alloc (.cells #[.slice A5 2 c5, .int .i64 1] 24)).alloc (.cells #[.string ⟨#[]⟩, .int .i64 0] 26))) := Lib.hid ((HB5.out.alloc HB5.out.size _).alloc (by have := HB5.out.size; simp; omega) _)
  clear HB5
  generalize (w5.alloc (.cells #[.slice A5 2 c5, .int .i64 1] 24)).alloc (.cells #[.string ⟨#[]⟩, .int .i64 0] 26) = w6 at *
  go_wp2_with fail
  go_ret
  exact ⟨rfl, HB6.out⟩
end Go.Proofs.Ytphcmjhphoacgaa
