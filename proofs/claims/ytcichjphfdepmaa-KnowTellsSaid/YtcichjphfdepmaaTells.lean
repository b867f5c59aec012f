/-
  THE LAW KnowTells: exactly as the document says: which of any two beats the other one, which may be, which is up, and by which incarnation any is refuted, or why not.
  For any two, and every incarnation.
-/
import Derived.Test.YtcichjphfdepmaaLaw
import Derived.Test.YtcichjphfdepmaaSeq
namespace Go.Proofs.Ytcichjphfdepmaa.lawTells
open Go.Sort Go.ChangeShapes Go.WideShapes Go.ChangeAt Go.RowKit Go.Joins Go.Proofs.Ytcichjphfdepmaa.Pure

set_option maxRecDepth 100000 in
set_option maxHeartbeats 4000000 in
theorem wayTT (own n er : Int) (a b : Kn) (v u : Bool) (w : World) (hu : decide (a.s < 2) = u)
    (HR : Hid (∀ W : World, Calls Try.prog 9 #[.int .u64 own, .agg #[.int .u64 a.i, .int .i64 a.s]] W fun e w' => e = .returned (.tuple #[.int .u64 n, .int .i64 er]) ∧ Below W.heap.size W w'))
    (HRR : Hid (∀ W : World, Calls Try.prog 10 #[.int .u64 own, .agg #[.int .u64 a.i, .int .i64 a.s]] W fun e w' => e = .returned (.tuple #[.int .u64 n, .int .i64 er]) ∧ Below W.heap.size W w'))
    (HBT : Hid (∀ W : World, Calls Try.prog 12 #[.agg #[.int .u64 a.i, .int .i64 a.s], .agg #[.int .u64 b.i, .int .i64 b.s]] W fun e w' => e = .returned (.bool v) ∧ Below W.heap.size W w'))
    (HRB : Hid (∀ W : World, Calls Try.prog 13 #[.agg #[.int .u64 a.i, .int .i64 a.s], .agg #[.int .u64 b.i, .int .i64 b.s]] W fun e w' => e = .returned (.bool v) ∧ Below W.heap.size W w'))
    (HCK : Hid (∀ (W : World) (g : Nat), Lst W (some ⟨g, 0, none⟩) [a, b] → Calls Try.prog 14 #[.slice (some ⟨g, 0, none⟩) 2 2] W fun e w' => e = .returned (.int .i64 0) ∧ Below W.heap.size W w'))
    (HMA : Hid (∀ W : World, Calls Try.prog 11 #[.agg #[.int .u64 a.i, .int .i64 a.s]] W fun e w' => e = .returned (.bool true) ∧ Below W.heap.size W w'))
    (HMB : Hid (∀ W : World, Calls Try.prog 11 #[.agg #[.int .u64 b.i, .int .i64 b.s]] W fun e w' => e = .returned (.bool true) ∧ Below W.heap.size W w'))
    (HUP : Hid (∀ W : World, Calls Try.prog 15 #[.agg #[.int .u64 a.i, .int .i64 a.s]] W fun e w' => e = .returned (.bool u) ∧ Below W.heap.size W w')) :
    Calls Try.prog 3 #[.agg #[.int .u64 a.i, .int .i64 a.s], .agg #[.int .u64 b.i, .int .i64 b.s], .int .u64 own] w fun e w' => e = .returned (.bool true) ∧ Below w.heap.size w w' := by
  have HAW := Lib.hid (fun W => awake_any W)
  have H2 := Lib.hid (fun W => Lst.two W a b 24)
  go_enter Try.func3, Try.ntmps3
  go_upto_region 1 with (fail)
  have HB_0 : Hid (Below w.heap.size w ((w.alloc (.cells #[.int .u64 a.i, .int .i64 a.s] 24)).alloc (.cells #[.int .u64 b.i, .int .i64 b.s] 24))) := Lib.hid (((Below.refl _ _).alloc (Nat.le_refl _) _).alloc (by simp) _)
  have Ba_0 : Hid (Vr ((w.alloc (.cells #[.int .u64 a.i, .int .i64 a.s] 24)).alloc (.cells #[.int .u64 b.i, .int .i64 b.s] 24)) w.heap.size a) := Lib.hid ((Vr.new w a _).alloc _)
  have Bb_0 : Hid (Vr ((w.alloc (.cells #[.int .u64 a.i, .int .i64 a.s] 24)).alloc (.cells #[.int .u64 b.i, .int .i64 b.s] 24)) (w.heap.size + 1) b) := Lib.hid (Vr.at_ (by simp) b _)
  generalize (w.alloc (.cells #[.int .u64 a.i, .int .i64 a.s] 24)).alloc (.cells #[.int .u64 b.i, .int .i64 b.s] 24) = w0 at *
  obtain ⟨⟨a0, a1⟩, _⟩ := Ba_0.out
  go_wp2_with fail
  refine (HR.out _).mono ?_
  rintro e w1 ⟨rfl, hb1⟩
  clear a0 a1
  have HB_1 : Hid (Below w.heap.size w w1) := Lib.hid (HB_0.out.trans (hb1.mono HB_0.out.size))
  have Ba_1 := Lib.hid (Ba_0.out.on hb1)
  have Bb_1 := Lib.hid (Bb_0.out.on hb1)
  clear HB_0 Ba_0 Bb_0 hb1
  obtain ⟨⟨a0, a1⟩, _⟩ := Ba_1.out
  go_wp2_with fail
  refine (HRR.out _).mono ?_
  rintro e w2 ⟨rfl, hb2⟩
  clear a0 a1
  have HB_2 : Hid (Below w.heap.size w w2) := Lib.hid (HB_1.out.trans (hb2.mono HB_1.out.size))
  have Ba_2 := Lib.hid (Ba_1.out.on hb2)
  have Bb_2 := Lib.hid (Bb_1.out.on hb2)
  clear HB_1 Ba_1 Bb_1 hb2
  obtain ⟨⟨a0, a1⟩, _⟩ := Ba_2.out
  go_wp2_with fail
  refine (HMA.out _).mono ?_
  rintro e w3 ⟨rfl, hb3⟩
  clear a0 a1
  have HB_3 : Hid (Below w.heap.size w w3) := Lib.hid (HB_2.out.trans (hb3.mono HB_2.out.size))
  have Ba_3 := Lib.hid (Ba_2.out.on hb3)
  have Bb_3 := Lib.hid (Bb_2.out.on hb3)
  clear HB_2 Ba_2 Bb_2 hb3
  have hz3 : w.heap.size + 1 < w3.heap.size := Bb_3.out.lt
  obtain ⟨⟨a0, a1⟩, _⟩ := Ba_3.out
  obtain ⟨⟨b0, b1⟩, _⟩ := Bb_3.out
  go_upto_region 4 with (fail)
  refine z_enter [(0, true), (1, true), (3, true), (4, true), (2, false), (5, false), (6, true), (7, true), (8, true), (9, true), (13, true), (10, false), (11, false), (12, true), (14, false), (15, true), (16, true), (17, false), (18, true), (19, true), (20, true), (21, true), (22, true), (24, true), (23, false), (25, true), (26, true), (27, true), (28, true), (29, true), (30, true), (31, true), (32, true), (33, true), (34, true), (35, true), (36, true), (37, true), (38, false), (39, true), (40, true)] (fun w' => w'.cell? ⟨w.heap.size, 0, none⟩ = some (.int .u64 a.i) ∧ w'.cell? ⟨w.heap.size, 1, none⟩ = some (.int .i64 a.s) ∧ w'.cell? ⟨w.heap.size + 1, 0, none⟩ = some (.int .u64 b.i) ∧ w'.cell? ⟨w.heap.size + 1, 1, none⟩ = some (.int .i64 b.s)) (by kernel_rfl) (by kernel_rfl) (by kernel_rfl) (fun _ _ d _ _ h => by cases d <;> exact h) ⟨a0, a1, b0, b1⟩ ?_
  simp only [pickL, List.drop_succ_cons, List.drop_zero]
  have hdr : Below w3.heap.size w3 w3.drew := (Below.refl _ _).drew
  clear a0 a1 b0 b1
  have HB_4 : Hid (Below w.heap.size w w3.drew) := Lib.hid (HB_3.out.trans (hdr.mono HB_3.out.size))
  have Ba_4 := Lib.hid (Ba_3.out.on hdr)
  have Bb_4 := Lib.hid (Bb_3.out.on hdr)
  clear HB_3 Ba_3 Bb_3 hdr
  generalize w3.drew = wd at *
  iterate 4 (first | (refine' z_yes ?_ (by rfl) ?_ ?_; rotate_left; (intro w' hS; (try dsimp only at hS); go_simp; try (with_reducible rfl)); simp only [Act.put, List.setIfInBounds_toArray, List.set_cons_zero, List.set_cons_succ]) | (refine z_no (by rfl) ?_; simp only [Act.put, List.setIfInBounds_toArray, List.set_cons_zero, List.set_cons_succ]))
  refine z_mem ?_
  intro K hK
  go_simp
  refine (HBT.out _).mono ?_
  rintro e w4 ⟨rfl, hb4⟩
  have HB_5 : Hid (Below w.heap.size w w4) := Lib.hid (HB_4.out.trans (hb4.mono HB_4.out.size))
  have Ba_5 := Lib.hid (Ba_4.out.on hb4)
  have Bb_5 := Lib.hid (Bb_4.out.on hb4)
  clear HB_4 Ba_4 Bb_4 hb4
  obtain ⟨⟨a0, a1⟩, _⟩ := Ba_5.out
  obtain ⟨⟨b0, b1⟩, _⟩ := Bb_5.out
  refine hK.out _ _ ⟨a0, a1, b0, b1⟩ ?_
  clear hK
  clear a0 a1 b0 b1
  refine z_mem ?_
  intro K hK
  go_simp
  refine (HRB.out _).mono ?_
  rintro e w5 ⟨rfl, hb5⟩
  have HB_6 : Hid (Below w.heap.size w w5) := Lib.hid (HB_5.out.trans (hb5.mono HB_5.out.size))
  have Ba_6 := Lib.hid (Ba_5.out.on hb5)
  have Bb_6 := Lib.hid (Bb_5.out.on hb5)
  clear HB_5 Ba_5 Bb_5 hb5
  obtain ⟨⟨a0, a1⟩, _⟩ := Ba_6.out
  obtain ⟨⟨b0, b1⟩, _⟩ := Bb_6.out
  refine hK.out _ _ ⟨a0, a1, b0, b1⟩ ?_
  clear hK
  clear a0 a1 b0 b1
  iterate 5 (first | (refine' z_yes ?_ (by rfl) ?_ ?_; rotate_left; (intro w' hS; (try dsimp only at hS); go_simp; try (with_reducible rfl)); simp only [Act.put, List.setIfInBounds_toArray, List.set_cons_zero, List.set_cons_succ]) | (refine z_no (by rfl) ?_; simp only [Act.put, List.setIfInBounds_toArray, List.set_cons_zero, List.set_cons_succ]))
  refine z_mem ?_
  intro K hK
  go_simp
  have hL := H2.out w5
  have hbs : Below w5.heap.size w5 (w5.alloc (.cells #[.int .u64 a.i, .int .i64 a.s, .int .u64 b.i, .int .i64 b.s] 24)) := (Below.refl _ _).alloc (Nat.le_refl _) _
  have HB_7 : Hid (Below w.heap.size w (w5.alloc (.cells #[.int .u64 a.i, .int .i64 a.s, .int .u64 b.i, .int .i64 b.s] 24))) := Lib.hid (HB_6.out.trans (hbs.mono HB_6.out.size))
  have Ba_7 := Lib.hid (Ba_6.out.on hbs)
  have Bb_7 := Lib.hid (Bb_6.out.on hbs)
  clear HB_6 Ba_6 Bb_6 hbs
  generalize w5.alloc (.cells #[.int .u64 a.i, .int .i64 a.s, .int .u64 b.i, .int .i64 b.s] 24) = ws at *
  obtain ⟨⟨a0, a1⟩, _⟩ := Ba_7.out
  obtain ⟨⟨b0, b1⟩, _⟩ := Bb_7.out
  refine hK.out _ _ ⟨a0, a1, b0, b1⟩ ?_
  clear hK
  clear a0 a1 b0 b1
  refine z_mem ?_
  intro K hK
  go_simp
  refine (HCK.out _ _ hL).mono ?_
  rintro e w6 ⟨rfl, hb6⟩
  have HB_8 : Hid (Below w.heap.size w w6) := Lib.hid (HB_7.out.trans (hb6.mono HB_7.out.size))
  have Ba_8 := Lib.hid (Ba_7.out.on hb6)
  have Bb_8 := Lib.hid (Bb_7.out.on hb6)
  clear HB_7 Ba_7 Bb_7 hb6
  obtain ⟨⟨a0, a1⟩, _⟩ := Ba_8.out
  obtain ⟨⟨b0, b1⟩, _⟩ := Bb_8.out
  refine hK.out _ _ ⟨a0, a1, b0, b1⟩ ?_
  clear hK hL
  clear a0 a1 b0 b1
  iterate 1 (first | (refine' z_yes ?_ (by rfl) ?_ ?_; rotate_left; (intro w' hS; (try dsimp only at hS); go_simp; try (with_reducible rfl)); simp only [Act.put, List.setIfInBounds_toArray, List.set_cons_zero, List.set_cons_succ]) | (refine z_no (by rfl) ?_; simp only [Act.put, List.setIfInBounds_toArray, List.set_cons_zero, List.set_cons_succ]))
  refine z_mem ?_
  intro K hK
  go_simp
  refine (HMA.out _).mono ?_
  rintro e w7 ⟨rfl, hb7⟩
  have HB_9 : Hid (Below w.heap.size w w7) := Lib.hid (HB_8.out.trans (hb7.mono HB_8.out.size))
  have Ba_9 := Lib.hid (Ba_8.out.on hb7)
  have Bb_9 := Lib.hid (Bb_8.out.on hb7)
  clear HB_8 Ba_8 Bb_8 hb7
  obtain ⟨⟨a0, a1⟩, _⟩ := Ba_9.out
  obtain ⟨⟨b0, b1⟩, _⟩ := Bb_9.out
  refine hK.out _ _ ⟨a0, a1, b0, b1⟩ ?_
  clear hK
  clear a0 a1 b0 b1
  iterate 2 (first | (refine' z_yes ?_ (by rfl) ?_ ?_; rotate_left; (intro w' hS; (try dsimp only at hS); go_simp; try (with_reducible rfl)); simp only [Act.put, List.setIfInBounds_toArray, List.set_cons_zero, List.set_cons_succ]) | (refine z_no (by rfl) ?_; simp only [Act.put, List.setIfInBounds_toArray, List.set_cons_zero, List.set_cons_succ]))
  refine z_mem ?_
  intro K hK
  go_simp
  refine (HMB.out _).mono ?_
  rintro e w8 ⟨rfl, hb8⟩
  have HB_10 : Hid (Below w.heap.size w w8) := Lib.hid (HB_9.out.trans (hb8.mono HB_9.out.size))
  have Ba_10 := Lib.hid (Ba_9.out.on hb8)
  have Bb_10 := Lib.hid (Bb_9.out.on hb8)
  clear HB_9 Ba_9 Bb_9 hb8
  obtain ⟨⟨a0, a1⟩, _⟩ := Ba_10.out
  obtain ⟨⟨b0, b1⟩, _⟩ := Bb_10.out
  refine hK.out _ _ ⟨a0, a1, b0, b1⟩ ?_
  clear hK
  clear a0 a1 b0 b1
  iterate 6 (first | (refine' z_yes ?_ (by rfl) ?_ ?_; rotate_left; (intro w' hS; (try dsimp only at hS); go_simp; try (with_reducible rfl)); simp only [Act.put, List.setIfInBounds_toArray, List.set_cons_zero, List.set_cons_succ]) | (refine z_no (by rfl) ?_; simp only [Act.put, List.setIfInBounds_toArray, List.set_cons_zero, List.set_cons_succ]))
  refine z_mem ?_
  intro K hK
  go_simp
  refine (HUP.out _).mono ?_
  rintro e w9 ⟨rfl, hb9⟩
  have HB_11 : Hid (Below w.heap.size w w9) := Lib.hid (HB_10.out.trans (hb9.mono HB_10.out.size))
  have Ba_11 := Lib.hid (Ba_10.out.on hb9)
  have Bb_11 := Lib.hid (Bb_10.out.on hb9)
  clear HB_10 Ba_10 Bb_10 hb9
  obtain ⟨⟨a0, a1⟩, _⟩ := Ba_11.out
  obtain ⟨⟨b0, b1⟩, _⟩ := Bb_11.out
  refine hK.out _ _ ⟨a0, a1, b0, b1⟩ ?_
  clear hK
  clear a0 a1 b0 b1
  iterate 13 (first | (refine' z_yes ?_ (by rfl) ?_ ?_; rotate_left; (intro w' hS; (try dsimp only at hS); go_simp; try (with_reducible rfl)); simp only [Act.put, List.setIfInBounds_toArray, List.set_cons_zero, List.set_cons_succ]) | (refine z_no (by rfl) ?_; simp only [Act.put, List.setIfInBounds_toArray, List.set_cons_zero, List.set_cons_succ]))
  refine z_mem ?_
  intro K hK
  go_simp
  refine (HAW.out _).mono ?_
  rintro e w10 ⟨rfl, hb10⟩
  have HB_12 : Hid (Below w.heap.size w w10) := Lib.hid (HB_11.out.trans (hb10.mono HB_11.out.size))
  have Ba_12 := Lib.hid (Ba_11.out.on hb10)
  have Bb_12 := Lib.hid (Bb_11.out.on hb10)
  clear HB_11 Ba_11 Bb_11 hb10
  obtain ⟨⟨a0, a1⟩, _⟩ := Ba_12.out
  obtain ⟨⟨b0, b1⟩, _⟩ := Bb_12.out
  refine hK.out _ _ ⟨a0, a1, b0, b1⟩ ?_
  clear hK
  clear a0 a1 b0 b1
  iterate 2 (first | (refine' z_yes ?_ (by rfl) ?_ ?_; rotate_left; (intro w' hS; (try dsimp only at hS); go_simp; try (with_reducible rfl)); simp only [Act.put, List.setIfInBounds_toArray, List.set_cons_zero, List.set_cons_succ]) | (refine z_no (by rfl) ?_; simp only [Act.put, List.setIfInBounds_toArray, List.set_cons_zero, List.set_cons_succ]))
  refine z_nil ?_
  go_wp2_with fail
  go_ret
  exact ⟨rfl, HB_12.out⟩

set_option maxRecDepth 100000 in
set_option maxHeartbeats 4000000 in
theorem wayTF (own n er : Int) (a b : Kn) (v u : Bool) (w : World) (hu : decide (a.s < 2) = u)
    (HR : Hid (∀ W : World, Calls Try.prog 9 #[.int .u64 own, .agg #[.int .u64 a.i, .int .i64 a.s]] W fun e w' => e = .returned (.tuple #[.int .u64 n, .int .i64 er]) ∧ Below W.heap.size W w'))
    (HRR : Hid (∀ W : World, Calls Try.prog 10 #[.int .u64 own, .agg #[.int .u64 a.i, .int .i64 a.s]] W fun e w' => e = .returned (.tuple #[.int .u64 n, .int .i64 er]) ∧ Below W.heap.size W w'))
    (HBT : Hid (∀ W : World, Calls Try.prog 12 #[.agg #[.int .u64 a.i, .int .i64 a.s], .agg #[.int .u64 b.i, .int .i64 b.s]] W fun e w' => e = .returned (.bool v) ∧ Below W.heap.size W w'))
    (HRB : Hid (∀ W : World, Calls Try.prog 13 #[.agg #[.int .u64 a.i, .int .i64 a.s], .agg #[.int .u64 b.i, .int .i64 b.s]] W fun e w' => e = .returned (.bool v) ∧ Below W.heap.size W w'))
    (HCK : Hid (∀ (W : World) (g : Nat), Lst W (some ⟨g, 0, none⟩) [a, b] → Calls Try.prog 14 #[.slice (some ⟨g, 0, none⟩) 2 2] W fun e w' => e = .returned (.int .i64 1) ∧ Below W.heap.size W w'))
    (HMA : Hid (∀ W : World, Calls Try.prog 11 #[.agg #[.int .u64 a.i, .int .i64 a.s]] W fun e w' => e = .returned (.bool true) ∧ Below W.heap.size W w'))
    (HMB : Hid (∀ W : World, Calls Try.prog 11 #[.agg #[.int .u64 b.i, .int .i64 b.s]] W fun e w' => e = .returned (.bool false) ∧ Below W.heap.size W w'))
    (HUP : Hid (∀ W : World, Calls Try.prog 15 #[.agg #[.int .u64 a.i, .int .i64 a.s]] W fun e w' => e = .returned (.bool u) ∧ Below W.heap.size W w')) :
    Calls Try.prog 3 #[.agg #[.int .u64 a.i, .int .i64 a.s], .agg #[.int .u64 b.i, .int .i64 b.s], .int .u64 own] w fun e w' => e = .returned (.bool true) ∧ Below w.heap.size w w' := by
  have HAW := Lib.hid (fun W => awake_any W)
  have H2 := Lib.hid (fun W => Lst.two W a b 24)
  go_enter Try.func3, Try.ntmps3
  go_upto_region 1 with (fail)
  have HB_0 : Hid (Below w.heap.size w ((w.alloc (.cells #[.int .u64 a.i, .int .i64 a.s] 24)).alloc (.cells #[.int .u64 b.i, .int .i64 b.s] 24))) := Lib.hid (((Below.refl _ _).alloc (Nat.le_refl _) _).alloc (by simp) _)
  have Ba_0 : Hid (Vr ((w.alloc (.cells #[.int .u64 a.i, .int .i64 a.s] 24)).alloc (.cells #[.int .u64 b.i, .int .i64 b.s] 24)) w.heap.size a) := Lib.hid ((Vr.new w a _).alloc _)
  have Bb_0 : Hid (Vr ((w.alloc (.cells #[.int .u64 a.i, .int .i64 a.s] 24)).alloc (.cells #[.int .u64 b.i, .int .i64 b.s] 24)) (w.heap.size + 1) b) := Lib.hid (Vr.at_ (by simp) b _)
  generalize (w.alloc (.cells #[.int .u64 a.i, .int .i64 a.s] 24)).alloc (.cells #[.int .u64 b.i, .int .i64 b.s] 24) = w0 at *
  obtain ⟨⟨a0, a1⟩, _⟩ := Ba_0.out
  go_wp2_with fail
  refine (HR.out _).mono ?_
  rintro e w1 ⟨rfl, hb1⟩
  clear a0 a1
  have HB_1 : Hid (Below w.heap.size w w1) := Lib.hid (HB_0.out.trans (hb1.mono HB_0.out.size))
  have Ba_1 := Lib.hid (Ba_0.out.on hb1)
  have Bb_1 := Lib.hid (Bb_0.out.on hb1)
  clear HB_0 Ba_0 Bb_0 hb1
  obtain ⟨⟨a0, a1⟩, _⟩ := Ba_1.out
  go_wp2_with fail
  refine (HRR.out _).mono ?_
  rintro e w2 ⟨rfl, hb2⟩
  clear a0 a1
  have HB_2 : Hid (Below w.heap.size w w2) := Lib.hid (HB_1.out.trans (hb2.mono HB_1.out.size))
  have Ba_2 := Lib.hid (Ba_1.out.on hb2)
  have Bb_2 := Lib.hid (Bb_1.out.on hb2)
  clear HB_1 Ba_1 Bb_1 hb2
  obtain ⟨⟨a0, a1⟩, _⟩ := Ba_2.out
  go_wp2_with fail
  refine (HMA.out _).mono ?_
  rintro e w3 ⟨rfl, hb3⟩
  clear a0 a1
  have HB_3 : Hid (Below w.heap.size w w3) := Lib.hid (HB_2.out.trans (hb3.mono HB_2.out.size))
  have Ba_3 := Lib.hid (Ba_2.out.on hb3)
  have Bb_3 := Lib.hid (Bb_2.out.on hb3)
  clear HB_2 Ba_2 Bb_2 hb3
  have hz3 : w.heap.size + 1 < w3.heap.size := Bb_3.out.lt
  obtain ⟨⟨a0, a1⟩, _⟩ := Ba_3.out
  obtain ⟨⟨b0, b1⟩, _⟩ := Bb_3.out
  go_upto_region 4 with (fail)
  refine z_enter [(0, true), (1, true), (3, true), (4, true), (2, false), (5, false), (6, true), (7, true), (8, true), (9, true), (13, true), (10, false), (11, false), (12, true), (14, false), (15, true), (16, true), (17, false), (18, true), (19, true), (20, true), (21, true), (22, true), (24, true), (23, false), (25, true), (26, true), (27, true), (28, true), (29, true), (30, true), (31, true), (32, true), (33, true), (34, true), (35, true), (36, true), (37, true), (38, false), (39, true), (40, true)] (fun w' => w'.cell? ⟨w.heap.size, 0, none⟩ = some (.int .u64 a.i) ∧ w'.cell? ⟨w.heap.size, 1, none⟩ = some (.int .i64 a.s) ∧ w'.cell? ⟨w.heap.size + 1, 0, none⟩ = some (.int .u64 b.i) ∧ w'.cell? ⟨w.heap.size + 1, 1, none⟩ = some (.int .i64 b.s)) (by kernel_rfl) (by kernel_rfl) (by kernel_rfl) (fun _ _ d _ _ h => by cases d <;> exact h) ⟨a0, a1, b0, b1⟩ ?_
  simp only [pickL, List.drop_succ_cons, List.drop_zero]
  have hdr : Below w3.heap.size w3 w3.drew := (Below.refl _ _).drew
  clear a0 a1 b0 b1
  have HB_4 : Hid (Below w.heap.size w w3.drew) := Lib.hid (HB_3.out.trans (hdr.mono HB_3.out.size))
  have Ba_4 := Lib.hid (Ba_3.out.on hdr)
  have Bb_4 := Lib.hid (Bb_3.out.on hdr)
  clear HB_3 Ba_3 Bb_3 hdr
  generalize w3.drew = wd at *
  iterate 4 (first | (refine' z_yes ?_ (by rfl) ?_ ?_; rotate_left; (intro w' hS; (try dsimp only at hS); go_simp; try (with_reducible rfl)); simp only [Act.put, List.setIfInBounds_toArray, List.set_cons_zero, List.set_cons_succ]) | (refine z_no (by rfl) ?_; simp only [Act.put, List.setIfInBounds_toArray, List.set_cons_zero, List.set_cons_succ]))
  refine z_mem ?_
  intro K hK
  go_simp
  refine (HBT.out _).mono ?_
  rintro e w4 ⟨rfl, hb4⟩
  have HB_5 : Hid (Below w.heap.size w w4) := Lib.hid (HB_4.out.trans (hb4.mono HB_4.out.size))
  have Ba_5 := Lib.hid (Ba_4.out.on hb4)
  have Bb_5 := Lib.hid (Bb_4.out.on hb4)
  clear HB_4 Ba_4 Bb_4 hb4
  obtain ⟨⟨a0, a1⟩, _⟩ := Ba_5.out
  obtain ⟨⟨b0, b1⟩, _⟩ := Bb_5.out
  refine hK.out _ _ ⟨a0, a1, b0, b1⟩ ?_
  clear hK
  clear a0 a1 b0 b1
  refine z_mem ?_
  intro K hK
  go_simp
  refine (HRB.out _).mono ?_
  rintro e w5 ⟨rfl, hb5⟩
  have HB_6 : Hid (Below w.heap.size w w5) := Lib.hid (HB_5.out.trans (hb5.mono HB_5.out.size))
  have Ba_6 := Lib.hid (Ba_5.out.on hb5)
  have Bb_6 := Lib.hid (Bb_5.out.on hb5)
  clear HB_5 Ba_5 Bb_5 hb5
  obtain ⟨⟨a0, a1⟩, _⟩ := Ba_6.out
  obtain ⟨⟨b0, b1⟩, _⟩ := Bb_6.out
  refine hK.out _ _ ⟨a0, a1, b0, b1⟩ ?_
  clear hK
  clear a0 a1 b0 b1
  iterate 5 (first | (refine' z_yes ?_ (by rfl) ?_ ?_; rotate_left; (intro w' hS; (try dsimp only at hS); go_simp; try (with_reducible rfl)); simp only [Act.put, List.setIfInBounds_toArray, List.set_cons_zero, List.set_cons_succ]) | (refine z_no (by rfl) ?_; simp only [Act.put, List.setIfInBounds_toArray, List.set_cons_zero, List.set_cons_succ]))
  refine z_mem ?_
  intro K hK
  go_simp
  have hL := H2.out w5
  have hbs : Below w5.heap.size w5 (w5.alloc (.cells #[.int .u64 a.i, .int .i64 a.s, .int .u64 b.i, .int .i64 b.s] 24)) := (Below.refl _ _).alloc (Nat.le_refl _) _
  have HB_7 : Hid (Below w.heap.size w (w5.alloc (.cells #[.int .u64 a.i, .int .i64 a.s, .int .u64 b.i, .int .i64 b.s] 24))) := Lib.hid (HB_6.out.trans (hbs.mono HB_6.out.size))
  have Ba_7 := Lib.hid (Ba_6.out.on hbs)
  have Bb_7 := Lib.hid (Bb_6.out.on hbs)
  clear HB_6 Ba_6 Bb_6 hbs
  generalize w5.alloc (.cells #[.int .u64 a.i, .int .i64 a.s, .int .u64 b.i, .int .i64 b.s] 24) = ws at *
  obtain ⟨⟨a0, a1⟩, _⟩ := Ba_7.out
  obtain ⟨⟨b0, b1⟩, _⟩ := Bb_7.out
  refine hK.out _ _ ⟨a0, a1, b0, b1⟩ ?_
  clear hK
  clear a0 a1 b0 b1
  refine z_mem ?_
  intro K hK
  go_simp
  refine (HCK.out _ _ hL).mono ?_
  rintro e w6 ⟨rfl, hb6⟩
  have HB_8 : Hid (Below w.heap.size w w6) := Lib.hid (HB_7.out.trans (hb6.mono HB_7.out.size))
  have Ba_8 := Lib.hid (Ba_7.out.on hb6)
  have Bb_8 := Lib.hid (Bb_7.out.on hb6)
  clear HB_7 Ba_7 Bb_7 hb6
  obtain ⟨⟨a0, a1⟩, _⟩ := Ba_8.out
  obtain ⟨⟨b0, b1⟩, _⟩ := Bb_8.out
  refine hK.out _ _ ⟨a0, a1, b0, b1⟩ ?_
  clear hK hL
  clear a0 a1 b0 b1
  iterate 1 (first | (refine' z_yes ?_ (by rfl) ?_ ?_; rotate_left; (intro w' hS; (try dsimp only at hS); go_simp; try (with_reducible rfl)); simp only [Act.put, List.setIfInBounds_toArray, List.set_cons_zero, List.set_cons_succ]) | (refine z_no (by rfl) ?_; simp only [Act.put, List.setIfInBounds_toArray, List.set_cons_zero, List.set_cons_succ]))
  refine z_mem ?_
  intro K hK
  go_simp
  refine (HMA.out _).mono ?_
  rintro e w7 ⟨rfl, hb7⟩
  have HB_9 : Hid (Below w.heap.size w w7) := Lib.hid (HB_8.out.trans (hb7.mono HB_8.out.size))
  have Ba_9 := Lib.hid (Ba_8.out.on hb7)
  have Bb_9 := Lib.hid (Bb_8.out.on hb7)
  clear HB_8 Ba_8 Bb_8 hb7
  obtain ⟨⟨a0, a1⟩, _⟩ := Ba_9.out
  obtain ⟨⟨b0, b1⟩, _⟩ := Bb_9.out
  refine hK.out _ _ ⟨a0, a1, b0, b1⟩ ?_
  clear hK
  clear a0 a1 b0 b1
  iterate 2 (first | (refine' z_yes ?_ (by rfl) ?_ ?_; rotate_left; (intro w' hS; (try dsimp only at hS); go_simp; try (with_reducible rfl)); simp only [Act.put, List.setIfInBounds_toArray, List.set_cons_zero, List.set_cons_succ]) | (refine z_no (by rfl) ?_; simp only [Act.put, List.setIfInBounds_toArray, List.set_cons_zero, List.set_cons_succ]))
  refine z_mem ?_
  intro K hK
  go_simp
  refine (HMB.out _).mono ?_
  rintro e w8 ⟨rfl, hb8⟩
  have HB_10 : Hid (Below w.heap.size w w8) := Lib.hid (HB_9.out.trans (hb8.mono HB_9.out.size))
  have Ba_10 := Lib.hid (Ba_9.out.on hb8)
  have Bb_10 := Lib.hid (Bb_9.out.on hb8)
  clear HB_9 Ba_9 Bb_9 hb8
  obtain ⟨⟨a0, a1⟩, _⟩ := Ba_10.out
  obtain ⟨⟨b0, b1⟩, _⟩ := Bb_10.out
  refine hK.out _ _ ⟨a0, a1, b0, b1⟩ ?_
  clear hK
  clear a0 a1 b0 b1
  iterate 6 (first | (refine' z_yes ?_ (by rfl) ?_ ?_; rotate_left; (intro w' hS; (try dsimp only at hS); go_simp; try (with_reducible rfl)); simp only [Act.put, List.setIfInBounds_toArray, List.set_cons_zero, List.set_cons_succ]) | (refine z_no (by rfl) ?_; simp only [Act.put, List.setIfInBounds_toArray, List.set_cons_zero, List.set_cons_succ]))
  refine z_mem ?_
  intro K hK
  go_simp
  refine (HUP.out _).mono ?_
  rintro e w9 ⟨rfl, hb9⟩
  have HB_11 : Hid (Below w.heap.size w w9) := Lib.hid (HB_10.out.trans (hb9.mono HB_10.out.size))
  have Ba_11 := Lib.hid (Ba_10.out.on hb9)
  have Bb_11 := Lib.hid (Bb_10.out.on hb9)
  clear HB_10 Ba_10 Bb_10 hb9
  obtain ⟨⟨a0, a1⟩, _⟩ := Ba_11.out
  obtain ⟨⟨b0, b1⟩, _⟩ := Bb_11.out
  refine hK.out _ _ ⟨a0, a1, b0, b1⟩ ?_
  clear hK
  clear a0 a1 b0 b1
  iterate 13 (first | (refine' z_yes ?_ (by rfl) ?_ ?_; rotate_left; (intro w' hS; (try dsimp only at hS); go_simp; try (with_reducible rfl)); simp only [Act.put, List.setIfInBounds_toArray, List.set_cons_zero, List.set_cons_succ]) | (refine z_no (by rfl) ?_; simp only [Act.put, List.setIfInBounds_toArray, List.set_cons_zero, List.set_cons_succ]))
  refine z_mem ?_
  intro K hK
  go_simp
  refine (HAW.out _).mono ?_
  rintro e w10 ⟨rfl, hb10⟩
  have HB_12 : Hid (Below w.heap.size w w10) := Lib.hid (HB_11.out.trans (hb10.mono HB_11.out.size))
  have Ba_12 := Lib.hid (Ba_11.out.on hb10)
  have Bb_12 := Lib.hid (Bb_11.out.on hb10)
  clear HB_11 Ba_11 Bb_11 hb10
  obtain ⟨⟨a0, a1⟩, _⟩ := Ba_12.out
  obtain ⟨⟨b0, b1⟩, _⟩ := Bb_12.out
  refine hK.out _ _ ⟨a0, a1, b0, b1⟩ ?_
  clear hK
  clear a0 a1 b0 b1
  iterate 2 (first | (refine' z_yes ?_ (by rfl) ?_ ?_; rotate_left; (intro w' hS; (try dsimp only at hS); go_simp; try (with_reducible rfl)); simp only [Act.put, List.setIfInBounds_toArray, List.set_cons_zero, List.set_cons_succ]) | (refine z_no (by rfl) ?_; simp only [Act.put, List.setIfInBounds_toArray, List.set_cons_zero, List.set_cons_succ]))
  refine z_nil ?_
  go_wp2_with fail
  go_ret
  exact ⟨rfl, HB_12.out⟩

set_option maxRecDepth 100000 in
set_option maxHeartbeats 4000000 in
theorem wayF (own n er : Int) (a b : Kn) (v : Bool) (w : World) 
    (HR : Hid (∀ W : World, Calls Try.prog 9 #[.int .u64 own, .agg #[.int .u64 a.i, .int .i64 a.s]] W fun e w' => e = .returned (.tuple #[.int .u64 n, .int .i64 er]) ∧ Below W.heap.size W w'))
    (HRR : Hid (∀ W : World, Calls Try.prog 10 #[.int .u64 own, .agg #[.int .u64 a.i, .int .i64 a.s]] W fun e w' => e = .returned (.tuple #[.int .u64 n, .int .i64 er]) ∧ Below W.heap.size W w'))
    (HBT : Hid (∀ W : World, Calls Try.prog 12 #[.agg #[.int .u64 a.i, .int .i64 a.s], .agg #[.int .u64 b.i, .int .i64 b.s]] W fun e w' => e = .returned (.bool v) ∧ Below W.heap.size W w'))
    (HRB : Hid (∀ W : World, Calls Try.prog 13 #[.agg #[.int .u64 a.i, .int .i64 a.s], .agg #[.int .u64 b.i, .int .i64 b.s]] W fun e w' => e = .returned (.bool v) ∧ Below W.heap.size W w'))
    (HCK : Hid (∀ (W : World) (g : Nat), Lst W (some ⟨g, 0, none⟩) [a, b] → Calls Try.prog 14 #[.slice (some ⟨g, 0, none⟩) 2 2] W fun e w' => e = .returned (.int .i64 1) ∧ Below W.heap.size W w'))
    (HMA : Hid (∀ W : World, Calls Try.prog 11 #[.agg #[.int .u64 a.i, .int .i64 a.s]] W fun e w' => e = .returned (.bool false) ∧ Below W.heap.size W w'))
    (HUP : Hid (∀ W : World, Calls Try.prog 15 #[.agg #[.int .u64 a.i, .int .i64 a.s]] W fun e w' => e = .returned (.bool false) ∧ Below W.heap.size W w')) :
    Calls Try.prog 3 #[.agg #[.int .u64 a.i, .int .i64 a.s], .agg #[.int .u64 b.i, .int .i64 b.s], .int .u64 own] w fun e w' => e = .returned (.bool true) ∧ Below w.heap.size w w' := by
  have HAW := Lib.hid (fun W => awake_any W)
  have H2 := Lib.hid (fun W => Lst.two W a b 24)
  go_enter Try.func3, Try.ntmps3
  go_upto_region 1 with (fail)
  have HB_0 : Hid (Below w.heap.size w ((w.alloc (.cells #[.int .u64 a.i, .int .i64 a.s] 24)).alloc (.cells #[.int .u64 b.i, .int .i64 b.s] 24))) := Lib.hid (((Below.refl _ _).alloc (Nat.le_refl _) _).alloc (by simp) _)
  have Ba_0 : Hid (Vr ((w.alloc (.cells #[.int .u64 a.i, .int .i64 a.s] 24)).alloc (.cells #[.int .u64 b.i, .int .i64 b.s] 24)) w.heap.size a) := Lib.hid ((Vr.new w a _).alloc _)
  have Bb_0 : Hid (Vr ((w.alloc (.cells #[.int .u64 a.i, .int .i64 a.s] 24)).alloc (.cells #[.int .u64 b.i, .int .i64 b.s] 24)) (w.heap.size + 1) b) := Lib.hid (Vr.at_ (by simp) b _)
  generalize (w.alloc (.cells #[.int .u64 a.i, .int .i64 a.s] 24)).alloc (.cells #[.int .u64 b.i, .int .i64 b.s] 24) = w0 at *
  obtain ⟨⟨a0, a1⟩, _⟩ := Ba_0.out
  go_wp2_with fail
  refine (HR.out _).mono ?_
  rintro e w1 ⟨rfl, hb1⟩
  clear a0 a1
  have HB_1 : Hid (Below w.heap.size w w1) := Lib.hid (HB_0.out.trans (hb1.mono HB_0.out.size))
  have Ba_1 := Lib.hid (Ba_0.out.on hb1)
  have Bb_1 := Lib.hid (Bb_0.out.on hb1)
  clear HB_0 Ba_0 Bb_0 hb1
  obtain ⟨⟨a0, a1⟩, _⟩ := Ba_1.out
  go_wp2_with fail
  refine (HRR.out _).mono ?_
  rintro e w2 ⟨rfl, hb2⟩
  clear a0 a1
  have HB_2 : Hid (Below w.heap.size w w2) := Lib.hid (HB_1.out.trans (hb2.mono HB_1.out.size))
  have Ba_2 := Lib.hid (Ba_1.out.on hb2)
  have Bb_2 := Lib.hid (Bb_1.out.on hb2)
  clear HB_1 Ba_1 Bb_1 hb2
  obtain ⟨⟨a0, a1⟩, _⟩ := Ba_2.out
  go_wp2_with fail
  refine (HMA.out _).mono ?_
  rintro e w3 ⟨rfl, hb3⟩
  clear a0 a1
  have HB_3 : Hid (Below w.heap.size w w3) := Lib.hid (HB_2.out.trans (hb3.mono HB_2.out.size))
  have Ba_3 := Lib.hid (Ba_2.out.on hb3)
  have Bb_3 := Lib.hid (Bb_2.out.on hb3)
  clear HB_2 Ba_2 Bb_2 hb3
  have hz3 : w.heap.size + 1 < w3.heap.size := Bb_3.out.lt
  obtain ⟨⟨a0, a1⟩, _⟩ := Ba_3.out
  obtain ⟨⟨b0, b1⟩, _⟩ := Bb_3.out
  go_upto_region 4 with (fail)
  refine z_enter [(0, true), (1, true), (3, true), (4, true), (2, false), (5, false), (6, true), (7, true), (8, true), (9, true), (13, true), (10, false), (11, false), (12, true), (14, false), (15, true), (16, true), (17, false), (18, true), (19, true), (20, true), (21, true), (22, true), (24, true), (23, false), (25, true), (26, true), (27, true), (28, true), (29, true), (30, true), (31, true), (32, true), (33, true), (34, true), (35, true), (36, true), (37, true), (38, false), (39, true), (40, true)] (fun w' => w'.cell? ⟨w.heap.size, 0, none⟩ = some (.int .u64 a.i) ∧ w'.cell? ⟨w.heap.size, 1, none⟩ = some (.int .i64 a.s) ∧ w'.cell? ⟨w.heap.size + 1, 0, none⟩ = some (.int .u64 b.i) ∧ w'.cell? ⟨w.heap.size + 1, 1, none⟩ = some (.int .i64 b.s)) (by kernel_rfl) (by kernel_rfl) (by kernel_rfl) (fun _ _ d _ _ h => by cases d <;> exact h) ⟨a0, a1, b0, b1⟩ ?_
  simp only [pickL, List.drop_succ_cons, List.drop_zero]
  have hdr : Below w3.heap.size w3 w3.drew := (Below.refl _ _).drew
  clear a0 a1 b0 b1
  have HB_4 : Hid (Below w.heap.size w w3.drew) := Lib.hid (HB_3.out.trans (hdr.mono HB_3.out.size))
  have Ba_4 := Lib.hid (Ba_3.out.on hdr)
  have Bb_4 := Lib.hid (Bb_3.out.on hdr)
  clear HB_3 Ba_3 Bb_3 hdr
  generalize w3.drew = wd at *
  iterate 4 (first | (refine' z_yes ?_ (by rfl) ?_ ?_; rotate_left; (intro w' hS; (try dsimp only at hS); go_simp; try (with_reducible rfl)); simp only [Act.put, List.setIfInBounds_toArray, List.set_cons_zero, List.set_cons_succ]) | (refine z_no (by rfl) ?_; simp only [Act.put, List.setIfInBounds_toArray, List.set_cons_zero, List.set_cons_succ]))
  refine z_mem ?_
  intro K hK
  go_simp
  refine (HBT.out _).mono ?_
  rintro e w4 ⟨rfl, hb4⟩
  have HB_5 : Hid (Below w.heap.size w w4) := Lib.hid (HB_4.out.trans (hb4.mono HB_4.out.size))
  have Ba_5 := Lib.hid (Ba_4.out.on hb4)
  have Bb_5 := Lib.hid (Bb_4.out.on hb4)
  clear HB_4 Ba_4 Bb_4 hb4
  obtain ⟨⟨a0, a1⟩, _⟩ := Ba_5.out
  obtain ⟨⟨b0, b1⟩, _⟩ := Bb_5.out
  refine hK.out _ _ ⟨a0, a1, b0, b1⟩ ?_
  clear hK
  clear a0 a1 b0 b1
  refine z_mem ?_
  intro K hK
  go_simp
  refine (HRB.out _).mono ?_
  rintro e w5 ⟨rfl, hb5⟩
  have HB_6 : Hid (Below w.heap.size w w5) := Lib.hid (HB_5.out.trans (hb5.mono HB_5.out.size))
  have Ba_6 := Lib.hid (Ba_5.out.on hb5)
  have Bb_6 := Lib.hid (Bb_5.out.on hb5)
  clear HB_5 Ba_5 Bb_5 hb5
  obtain ⟨⟨a0, a1⟩, _⟩ := Ba_6.out
  obtain ⟨⟨b0, b1⟩, _⟩ := Bb_6.out
  refine hK.out _ _ ⟨a0, a1, b0, b1⟩ ?_
  clear hK
  clear a0 a1 b0 b1
  iterate 5 (first | (refine' z_yes ?_ (by rfl) ?_ ?_; rotate_left; (intro w' hS; (try dsimp only at hS); go_simp; try (with_reducible rfl)); simp only [Act.put, List.setIfInBounds_toArray, List.set_cons_zero, List.set_cons_succ]) | (refine z_no (by rfl) ?_; simp only [Act.put, List.setIfInBounds_toArray, List.set_cons_zero, List.set_cons_succ]))
  refine z_mem ?_
  intro K hK
  go_simp
  have hL := H2.out w5
  have hbs : Below w5.heap.size w5 (w5.alloc (.cells #[.int .u64 a.i, .int .i64 a.s, .int .u64 b.i, .int .i64 b.s] 24)) := (Below.refl _ _).alloc (Nat.le_refl _) _
  have HB_7 : Hid (Below w.heap.size w (w5.alloc (.cells #[.int .u64 a.i, .int .i64 a.s, .int .u64 b.i, .int .i64 b.s] 24))) := Lib.hid (HB_6.out.trans (hbs.mono HB_6.out.size))
  have Ba_7 := Lib.hid (Ba_6.out.on hbs)
  have Bb_7 := Lib.hid (Bb_6.out.on hbs)
  clear HB_6 Ba_6 Bb_6 hbs
  generalize w5.alloc (.cells #[.int .u64 a.i, .int .i64 a.s, .int .u64 b.i, .int .i64 b.s] 24) = ws at *
  obtain ⟨⟨a0, a1⟩, _⟩ := Ba_7.out
  obtain ⟨⟨b0, b1⟩, _⟩ := Bb_7.out
  refine hK.out _ _ ⟨a0, a1, b0, b1⟩ ?_
  clear hK
  clear a0 a1 b0 b1
  refine z_mem ?_
  intro K hK
  go_simp
  refine (HCK.out _ _ hL).mono ?_
  rintro e w6 ⟨rfl, hb6⟩
  have HB_8 : Hid (Below w.heap.size w w6) := Lib.hid (HB_7.out.trans (hb6.mono HB_7.out.size))
  have Ba_8 := Lib.hid (Ba_7.out.on hb6)
  have Bb_8 := Lib.hid (Bb_7.out.on hb6)
  clear HB_7 Ba_7 Bb_7 hb6
  obtain ⟨⟨a0, a1⟩, _⟩ := Ba_8.out
  obtain ⟨⟨b0, b1⟩, _⟩ := Bb_8.out
  refine hK.out _ _ ⟨a0, a1, b0, b1⟩ ?_
  clear hK hL
  clear a0 a1 b0 b1
  iterate 1 (first | (refine' z_yes ?_ (by rfl) ?_ ?_; rotate_left; (intro w' hS; (try dsimp only at hS); go_simp; try (with_reducible rfl)); simp only [Act.put, List.setIfInBounds_toArray, List.set_cons_zero, List.set_cons_succ]) | (refine z_no (by rfl) ?_; simp only [Act.put, List.setIfInBounds_toArray, List.set_cons_zero, List.set_cons_succ]))
  refine z_mem ?_
  intro K hK
  go_simp
  refine (HMA.out _).mono ?_
  rintro e w7 ⟨rfl, hb7⟩
  have HB_9 : Hid (Below w.heap.size w w7) := Lib.hid (HB_8.out.trans (hb7.mono HB_8.out.size))
  have Ba_9 := Lib.hid (Ba_8.out.on hb7)
  have Bb_9 := Lib.hid (Bb_8.out.on hb7)
  clear HB_8 Ba_8 Bb_8 hb7
  obtain ⟨⟨a0, a1⟩, _⟩ := Ba_9.out
  obtain ⟨⟨b0, b1⟩, _⟩ := Bb_9.out
  refine hK.out _ _ ⟨a0, a1, b0, b1⟩ ?_
  clear hK
  clear a0 a1 b0 b1
  iterate 2 (first | (refine' z_yes ?_ (by rfl) ?_ ?_; rotate_left; (intro w' hS; (try dsimp only at hS); go_simp; try (with_reducible rfl)); simp only [Act.put, List.setIfInBounds_toArray, List.set_cons_zero, List.set_cons_succ]) | (refine z_no (by rfl) ?_; simp only [Act.put, List.setIfInBounds_toArray, List.set_cons_zero, List.set_cons_succ]))
  refine z_mem ?_
  intro K hK
  go_simp
  try simp only [Act.put, List.setIfInBounds_toArray, List.set_cons_zero, List.set_cons_succ]
  clear hK
  iterate 6 (first | (refine' z_yes ?_ (by rfl) ?_ ?_; rotate_left; (intro w' hS; (try dsimp only at hS); go_simp; try (with_reducible rfl)); simp only [Act.put, List.setIfInBounds_toArray, List.set_cons_zero, List.set_cons_succ]) | (refine z_no (by rfl) ?_; simp only [Act.put, List.setIfInBounds_toArray, List.set_cons_zero, List.set_cons_succ]))
  refine z_mem ?_
  intro K hK
  go_simp
  refine (HUP.out _).mono ?_
  rintro e w8 ⟨rfl, hb8⟩
  have HB_10 : Hid (Below w.heap.size w w8) := Lib.hid (HB_9.out.trans (hb8.mono HB_9.out.size))
  have Ba_10 := Lib.hid (Ba_9.out.on hb8)
  have Bb_10 := Lib.hid (Bb_9.out.on hb8)
  clear HB_9 Ba_9 Bb_9 hb8
  obtain ⟨⟨a0, a1⟩, _⟩ := Ba_10.out
  obtain ⟨⟨b0, b1⟩, _⟩ := Bb_10.out
  refine hK.out _ _ ⟨a0, a1, b0, b1⟩ ?_
  clear hK
  clear a0 a1 b0 b1
  iterate 13 (first | (refine' z_yes ?_ (by rfl) ?_ ?_; rotate_left; (intro w' hS; (try dsimp only at hS); go_simp; try (with_reducible rfl)); simp only [Act.put, List.setIfInBounds_toArray, List.set_cons_zero, List.set_cons_succ]) | (refine z_no (by rfl) ?_; simp only [Act.put, List.setIfInBounds_toArray, List.set_cons_zero, List.set_cons_succ]))
  refine z_mem ?_
  intro K hK
  go_simp
  refine (HAW.out _).mono ?_
  rintro e w9 ⟨rfl, hb9⟩
  have HB_11 : Hid (Below w.heap.size w w9) := Lib.hid (HB_10.out.trans (hb9.mono HB_10.out.size))
  have Ba_11 := Lib.hid (Ba_10.out.on hb9)
  have Bb_11 := Lib.hid (Bb_10.out.on hb9)
  clear HB_10 Ba_10 Bb_10 hb9
  obtain ⟨⟨a0, a1⟩, _⟩ := Ba_11.out
  obtain ⟨⟨b0, b1⟩, _⟩ := Bb_11.out
  refine hK.out _ _ ⟨a0, a1, b0, b1⟩ ?_
  clear hK
  clear a0 a1 b0 b1
  iterate 2 (first | (refine' z_yes ?_ (by rfl) ?_ ?_; rotate_left; (intro w' hS; (try dsimp only at hS); go_simp; try (with_reducible rfl)); simp only [Act.put, List.setIfInBounds_toArray, List.set_cons_zero, List.set_cons_succ]) | (refine z_no (by rfl) ?_; simp only [Act.put, List.setIfInBounds_toArray, List.set_cons_zero, List.set_cons_succ]))
  refine z_nil ?_
  go_wp2_with fail
  go_ret
  exact ⟨rfl, HB_11.out⟩

theorem walk (own : Int) (a b : Kn) (w : World) (fa : Fit a) :
    Calls Try.prog 3 #[.agg #[.int .u64 a.i, .int .i64 a.s], .agg #[.int .u64 b.i, .int .i64 b.s], .int .u64 own] w fun e w' => e = .returned (.bool true) ∧ Below w.heap.size w w' := by
  have HR := Lib.hid (fun W => refute_any own a W fa)
  have HRR := Lib.hid (fun W => rrefute_any own a W fa)
  have HBT := Lib.hid (fun W => beats_any a b W)
  have HRB := Lib.hid (fun W => rbeats_any a b W)
  have HMA := fun W => rmay_any a W
  have HMB := fun W => rmay_any b W
  have HUP := fun W => up_any a W
  have HCK := fun (W : World) (g : Nat) (h : Lst W (some ⟨g, 0, none⟩) [a, b]) => check_any (some ⟨g, 0, none⟩) 2 [a, b] W (Nat.le_of_ble_eq_true rfl) h _ rfl
  have hL : mayL [a, b] = (mayK a && mayK b) := by simp [mayL]
  rw [hL] at HCK
  rcases hA : mayK a with _ | _
  · have hu : (a.s == 0 || a.s == 1) = false := by
      have := (mayK_false a).1 hA
      rw [Bool.eq_false_iff]
      intro h
      simp only [Bool.or_eq_true, beq_iff_eq] at h
      omega
    rw [hA] at HMA HCK
    rw [hu] at HUP
    exact wayF own _ _ a b _ w HR HRR HBT HRB (Lib.hid HCK) (Lib.hid HMA) (Lib.hid HUP)
  · have hu : decide (a.s < 2) = (a.s == 0 || a.s == 1) := by
      have := (mayK_iff a).1 hA
      rw [Bool.eq_iff_iff]
      simp only [Bool.or_eq_true, beq_iff_eq, decide_eq_true_iff]
      omega
    rw [hA] at HMA HCK
    rcases hB : mayK b with _ | _
    · rw [hB] at HMB HCK
      exact wayTF own _ _ a b _ _ w hu HR HRR HBT HRB (Lib.hid HCK) (Lib.hid HMA) (Lib.hid HMB) (Lib.hid HUP)
    · rw [hB] at HMB HCK
      exact wayTT own _ _ a b _ _ w hu HR HRR HBT HRB (Lib.hid HCK) (Lib.hid HMA) (Lib.hid HMB) (Lib.hid HUP)

/-! ### the statement -/
theorem parOk : ∀ t ∈ (#[24, 24, 22] : Array TypeId).toList, Try.prog.readableRec t = true ∧ t < Try.prog.types.size := by
  have hall : ([24, 24, 22].all fun t => Try.prog.readableRec t && decide (t < Try.prog.types.size)) = true := by kernel_rfl
  intro t ht
  simpa using List.all_eq_true.1 hall t ht

/-- What the walk gives, for every argument. -/
theorem contract (H : Type) (enc : TypeId × Value → H) (W : World) (base : Nat) (args : Array Value) (ds gs : List (DataW H)) (before : List MemPlace)
    (hval : ∀ (j : Nat) t v, Try.f3.params[j]? = some t → args[j]? = some v → Value.okWide Try.prog W .any base t v)
    (hW : DataW.Whole enc Try.prog Try.f3.params.toList Rows.knowTellsSpec.vars false W args.toList ds gs before) :
    Calls Try.prog 3 args W fun e W' => ∃ v, e = .returned v ∧ Rows.knowTellsSpec.post enc Try.prog Try.f3 false true false false W args v W' := by
  have hW' := hW
  obtain ⟨p, q, hA0, hV, rfl, hfz, hnd⟩ := hW
  have hA : DataW.TrodAll enc Try.prog W 0 (fun _ => true) true Try.f3.params.toList args.toList ds p := hA0
  rw [Try.params3] at hA hval
  obtain ⟨v0, vs0, d0, ds0, p0, q0, hargs, rfl, rfl, h0, r0⟩ := trodAll_cons hA
  obtain ⟨v1, vs1, d1, ds1, p1, q1, rfl, rfl, rfl, h1, r1⟩ := trodAll_cons r0
  obtain ⟨v2, vs2, d2, ds2, p2, q2, rfl, rfl, rfl, h2, r2⟩ := trodAll_cons r1
  obtain ⟨rfl, rfl, rfl⟩ := trodAll_nil r2
  obtain rfl : args = #[v0, v1, v2] := by cases args; simp_all
  obtain ⟨rfl, rfl⟩ := trodVars_none hV
  obtain ⟨a, rfl, fa⟩ := open_kn (hval 0 24 v0 rfl rfl) h0
  obtain ⟨b, rfl, fb⟩ := open_kn (hval 1 24 v1 rfl rfl) h1
  obtain ⟨own, rfl, rfl, rfl, wown⟩ := open_int Try.underlying22 (hval 2 22 v2 rfl rfl) h2
  clear hA0
  refine (walk own a b W fa).mono fun e W' ⟨he, hb⟩ => ?_
  subst he
  exact ⟨_, rfl, law_post rfl (by rw [Try.params3]; exact parOk) rfl hW' rfl rfl rfl hb⟩

set_option maxRecDepth 100000 in
theorem lifted (os : Os) (started : os.Started) (H : Type) (enc : TypeId × Value → H) :
    ReturnsInHanded {} Try.checked os 3 .any (Rows.knowTellsSpec.pre6 enc Try.prog Try.f3 Rows.knowTellsRow.domain false) (Rows.knowTellsSpec.post enc Try.prog Try.f3 false true false false) := by
  refine returnsInHanded_of_change (C := Try.checked) own started (by kernel_rfl) Try.func3
    (ChangeSpec.witness6 (enc := enc) (C := Try.checked) false ⟨#[], #[.agg #[.int .u64 0, .int .i64 0], .agg #[.int .u64 0, .int .i64 0], .int .u64 0], []⟩ 8 (by kernel_rfl) (by kernel_rfl) (by kernel_rfl) (by kernel_rfl)) ?_
  intro W base args ds gs before hval hW _ _
  exact contract H enc W base args ds gs before hval hW

/-- THE STATEMENT. -/
theorem said : Rows.KnowTellsSaid :=
  OpenClaim.holds_of_wide 3 Try.f3 rfl rfl rfl rfl rfl rfl rfl ⟨rfl, rfl, rfl, rfl, rfl⟩ rfl rfl rfl rfl rfl (by kernel_rfl) Try.func3 (by kernel_rfl)
    (of_decide_eq_true (by kernel_rfl)) (by unfold Func.isWrapper; first | (rw [if_pos (by decide +kernel)]; kernel_rfl) | (rw [if_neg (by decide +kernel)]; exact ⟨rfl, rfl⟩))
    (fun os started H enc _ => lifted os started H enc)
end Go.Proofs.Ytcichjphfdepmaa.lawTells
