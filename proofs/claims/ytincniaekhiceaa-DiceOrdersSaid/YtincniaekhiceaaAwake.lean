/-
  The walk of the chapter's examples.
-/
import Derived.Test.YtincniaekhiceaaSame
namespace Go.Proofs.Ytincniaekhiceaa
open Go.RowKit Go.Proofs.Ytincniaekhiceaa.Pure

/-- A slice of numbers, made anew. -/
theorem has_new (w : World) (xs : List Int) (t : TypeId) : Has (w.alloc (.cells (ints xs).toArray t)) w.heap.size (w.heap.size + 1) (some ⟨w.heap.size, 0, none⟩) xs := fun j hj => by
  refine ⟨_, rfl, Nat.le_refl _, by simp, ?_⟩
  have e : (⟨w.heap.size, 0, none⟩ : Addr).add j = ⟨w.heap.size, j, none⟩ := by unfold Addr.add; split <;> simp_all
  rw [e, World.cell?_alloc_mark]
  simp [ints, List.getD, hj]

set_option maxRecDepth 100000 in
set_option maxHeartbeats 1000000 in
theorem awake_any (w : World) : Calls Try.prog 20 #[] w fun e w' => e = .returned (.bool true) ∧ Below w.heap.size w w' := by
  have HA : Hid (∀ W : World, Calls Try.prog 11 #[.agg #[.string ⟨#[23]⟩, .int .i64 0], .int .i64 10] W fun e w' => e = .returned (.tuple #[.int .i64 3, .agg #[.string ⟨#[23]⟩, .int .i64 1], .int .i64 0]) ∧ Below W.heap.size W w') := fun W =>
    below_yes ⟨#[23]⟩ 0 10 W (by decide) (by decide) (by decide) (by decide)
  have HB : Hid (∀ (W : World) (g : Nat), Has W g (g + 1) (some ⟨g, 0, none⟩) [0, 1, 2] → g < W.heap.size → Calls Try.prog 15 #[.agg #[.string ⟨#[0, 0]⟩, .int .i64 0], .slice (some ⟨g, 0, none⟩) 3 3] W fun e w' =>
      ∃ A' c', e = .returned (.tuple #[.slice A' 3 c', .agg #[.string ⟨#[0, 0]⟩, .int .i64 2], .int .i64 0]) ∧ 3 ≤ c' ∧ Has w' W.heap.size w'.heap.size A' [1, 2, 0] ∧ Below W.heap.size W w') := fun W g h hg => by
    have := shuffle_yes ⟨#[0, 0]⟩ 0 3 g (g + 1) _ [0, 1, 2] W (by decide) (by decide) (by decide) h hg
    have e : shufAll ((⟨#[0, 0]⟩ : ByteArray).data.toList) 0 [0, 1, 2] = ([1, 2, 0], 2) := by decide
    rw [e] at this
    exact this
  have HC : Hid (∀ (W : World) (g : Nat), Has W g (g + 1) (some ⟨g, 0, none⟩) [5, 6] → g < W.heap.size → Calls Try.prog 18 #[.agg #[.string ⟨#[]⟩, .int .i64 0], .slice (some ⟨g, 0, none⟩) 2 2, .int .i64 1] W fun e w' =>
      ∃ A' c', e = .returned (.tuple #[.slice A' 1 c', .agg #[.string ⟨#[]⟩, .int .i64 0], .int .i64 0]) ∧ 1 ≤ c' ∧ Has w' W.heap.size w'.heap.size A' [6] ∧ Below W.heap.size W w') := fun W g h hg => by
    have := pick_yes ⟨#[]⟩ 0 2 g (g + 1) 1 _ [5, 6] W (by decide) (by decide) (by decide) (by decide) h hg
    have e : shufAll ((⟨#[]⟩ : ByteArray).data.toList) 0 [5, 6] = ([6, 5], 0) := by decide
    rw [e] at this
    exact this
  go_enter Try.func20, Try.ntmps20
  go_wp2_with fail
  refine (HA.out _).mono ?_
  rintro e w1 ⟨rfl, hb1⟩
  have h2 := has_new (w1.alloc (.cells #[.string ⟨#[23]⟩, .int .i64 1] 23)) [0, 1, 2] 3
  have HX := Lib.hid ((Box.new w1 ⟨#[23]⟩ 1 23).alloc (.cells (ints [0, 1, 2]).toArray 3))
  have HB1 := Lib.hid hb1
  clear hb1
  simp only [World.size_alloc] at h2
  have H2 := Lib.hid h2
  clear h2
  go_wp2_with fail
  refine (HB.out _ _ H2.out (by simp)).mono ?_
  rintro e w2 ⟨A2, c2, rfl, hc2, hh2, hb2⟩
  have HX2 := Lib.hid (HX.out.on hb2)
  have hz2 : w1.heap.size + 2 ≤ w2.heap.size := by have := hb2.size; simpa using this
  have HB2 : Hid (Below w.heap.size w w2) := Lib.hid (((HB1.out.alloc HB1.out.size _).alloc (by have := HB1.out.size; simp; omega) _).trans (hb2.mono (by have := HB1.out.size; simp; omega)))
  have HH2 := Lib.hid hh2
  have h3 := has_new (w2.alloc (.cells #[.string ⟨#[0, 0]⟩, .int .i64 2] 23)) [5, 6] 3
  simp only [World.size_alloc] at h3
  have H3 := Lib.hid h3
  clear h3 hh2 hb2 H2 HX
  go_wp2_with fail
  refine (HC.out _ _ H3.out (by simp)).mono ?_
  rintro e w3 ⟨A3, c3, rfl, hc3, hh3, hb3⟩
  have HX3 := Lib.hid (((HX2.out.alloc _).alloc _).on hb3)
  have hz3 : w2.heap.size + 2 ≤ w3.heap.size := by have := hb3.size; simpa using this
  have HB3 : Hid (Below w.heap.size w w3) := Lib.hid (((HB2.out.alloc HB2.out.size _).alloc (by have := HB2.out.size; simp; omega) _).trans (hb3.mono (by have := HB2.out.size; simp; omega)))
  have HS1 : Hid (∀ (W : World) (lo hi g : Nat), Has W lo hi A2 [1, 2, 0] → Has W g (g + 1) (some ⟨g, 0, none⟩) [1, 2, 0] →
      Calls Try.prog 17 #[.slice A2 3 c2, .slice (some ⟨g, 0, none⟩) 3 3] W fun e w' => e = .returned (.bool true) ∧ Below W.heap.size W w') := fun W lo hi g h h' =>
    same_yes A2 _ c2 3 lo hi g (g + 1) [1, 2, 0] W (by decide) h h'
  have HS2 : Hid (∀ (W : World) (lo hi g : Nat), Has W lo hi A3 [6] → Has W g (g + 1) (some ⟨g, 0, none⟩) [6] →
      Calls Try.prog 17 #[.slice A3 1 c3, .slice (some ⟨g, 0, none⟩) 1 1] W fun e w' => e = .returned (.bool true) ∧ Below W.heap.size W w') := fun W lo hi g h h' =>
    same_yes A3 _ c3 1 lo hi g (g + 1) [6] W (by decide) h h'
  have HP := Lib.hid ((((HH2.out.alloc (.cells #[.string ⟨#[0, 0]⟩, .int .i64 2] 23) (Nat.le_refl _)).alloc (.cells (ints [5, 6]).toArray 3) (by simp)).on hb3 (by simp; omega)))
  have HQ := Lib.hid hh3
  have h4 := has_new (w3.alloc (.cells #[.string ⟨#[]⟩, .int .i64 0] 23)) [1, 2, 0] 3
  simp only [World.size_alloc] at h4
  have H4 := Lib.hid h4
  clear h4 hh3 hb3 H3 HX2 HB2 HA HB HC HH2
  obtain ⟨x0, x1, _, _⟩ := HX3.out
  have hz4 : w1.heap.size < w3.heap.size := by omega
  go_wp2_with fail
  refine (HS1.out _ _ _ _ ((HP.out.alloc _ (by omega)).alloc _ (by simp; omega)) H4.out).mono ?_
  rintro e w4 ⟨rfl, hb4⟩
  have HB4 : Hid (Below w.heap.size w w4) := Lib.hid (((HB3.out.alloc HB3.out.size _).alloc (by have := HB3.out.size; simp; omega) _).trans (hb4.mono (by have := HB3.out.size; simp; omega)))
  have hz5 : w3.heap.size + 2 ≤ w4.heap.size := by have := hb4.size; simpa using this
  have HR := Lib.hid (((HQ.out.alloc (.cells #[.string ⟨#[]⟩, .int .i64 0] 23) (Nat.le_refl _)).alloc (.cells (ints [1, 2, 0]).toArray 3) (by simp)).on hb4 (by simp; omega))
  have H5 := Lib.hid (has_new w4 [6] 3)
  clear hb4
  go_wp2_with fail
  refine (HS2.out _ _ _ _ (HR.out.alloc _ (by omega)) H5.out).mono ?_
  rintro e w5 ⟨rfl, hb5⟩
  go_wp2_with fail
  go_ret
  exact ⟨rfl, (HB4.out.alloc HB4.out.size _).trans (hb5.mono (by have := HB4.out.size; simp; omega))⟩
end Go.Proofs.Ytincniaekhiceaa
