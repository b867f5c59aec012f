/-
  The walks of Below, of the program and of the document.
-/
import Derived.Test.YtincniaekhiceaaShuffle
namespace Go.Proofs.Ytincniaekhiceaa
open Go.RowKit Go.Proofs.Ytincniaekhiceaa.Pure

/-- Below draws: the number, the dice, and no error. -/
def belowV (s : ByteArray) (a m : Nat) (k : IntKind) : Value := .tuple #[.int .i64 (drawn s.data.toList a m : Nat), .agg #[.string s, .int .i64 (next s.data.toList a : Nat)], .int k 0]

set_option maxRecDepth 100000 in
set_option maxHeartbeats 1000000 in
theorem below_yes (s : ByteArray) (a m : Nat) (w : World) (hs : s.size ≤ 1000) (ha : a ≤ s.size) (h1 : 1 ≤ m) (hm : m ≤ 256) :
    Calls Try.prog 11 #[.agg #[.string s, .int .i64 a], .int .i64 m] w fun e w' =>
      e = .returned (.tuple #[.int .i64 (drawn s.data.toList a m : Nat), .agg #[.string s, .int .i64 (next s.data.toList a : Nat)], .int .i64 0]) ∧ Below w.heap.size w w' := by
  have HK := Lib.hid (fun W => check_yes s a W ha)
  have HS := Lib.hid (fun g W => roll_any s a m g W hs ha h1 hm)
  have d1 : decide ((m : Int) < 1) = false := by simp; omega
  have d2 : decide ((256 : Int) < m) = false := by simp; omega
  generalize drawn s.data.toList a m = d at *
  generalize next s.data.toList a = p at *
  go_enter Try.func11, Try.ntmps11
  go_wp2_with fail
  refine (HK.out _).mono ?_
  rintro e w1 ⟨rfl, hb1⟩
  obtain ⟨hc1, hf1⟩ := old hb1
  have e0 := (hc1 (w.heap.size + 1) 0 (by simp)).trans (show _ = some (.string ⟨#[]⟩) by go_simp)
  have e1 := (hc1 (w.heap.size + 1) 1 (by simp)).trans (show _ = some (.int .i64 0) by go_simp)
  have f0 := (hf1 (w.heap.size + 1) 0 (by simp)).trans (show _ = false by go_simp)
  have f1 := (hf1 (w.heap.size + 1) 1 (by simp)).trans (show _ = false by go_simp)
  have E := Lib.hid (And.intro (And.intro e0 e1) (And.intro f0 f1))
  clear e0 e1 f0 f1
  have hz1 : w.heap.size + 2 ≤ w1.heap.size := by have := hb1.size; simp at this; omega
  have HB1 : Hid (Below w.heap.size w w1) := Lib.hid ((((Below.refl _ _).alloc (Nat.le_refl _) _).alloc (by simp) _).trans (hb1.mono (by simp; omega)))
  clear hb1
  go_wp2_with fail
  refine (HS.out w1.heap.size _ ?_).mono ?_
  · exact ⟨by go_simp, by go_simp, by go_simp⟩
  rintro e w2 ⟨rfl, hroll, hg⟩
  have hk := (hg.block (w.heap.size + 1) (by simp; omega) (by simp; omega)).trans (Below.heap_alloc w1 _ _ (by omega))
  have r0 := (World.cell?_of_block (a := ⟨w.heap.size + 1, 0, none⟩) hk).trans E.out.1.1
  have r1 := (World.cell?_of_block (a := ⟨w.heap.size + 1, 1, none⟩) hk).trans E.out.1.2
  have q0 := (World.frozen?_of_block (a := ⟨w.heap.size + 1, 0, none⟩) hk).trans E.out.2.1
  have q1 := (World.frozen?_of_block (a := ⟨w.heap.size + 1, 1, none⟩) hk).trans E.out.2.2
  obtain ⟨g0, g1, g2⟩ := hroll
  have HB2 : Hid (Below w.heap.size w w2) := Lib.hid ((HB1.out.alloc HB1.out.size _).grown hg (by simp; omega) (by intro k hk; injection hk; omega))
  clear hk hg hc1 hf1 HB1 HS HK
  go_wp2_with fail
  go_region
  go_wp2
  refine bodyPost_ret (v := .tuple #[.int .i64 d, .agg #[.string s, .int .i64 p], .int .i64 0]) (by simp [results, Try.results11, go_sem, r0, r1]) rfl ⟨rfl, ?_⟩
  exact ((HB2.out.setCell (by simp) _).setCell (by simp) _).drew

set_option maxRecDepth 100000 in
set_option maxHeartbeats 1000000 in
theorem below_bad (s : ByteArray) (a m : Int) (w : World) (ha : a < 0 ∨ (s.size : Int) < a) :
    Calls Try.prog 11 #[.agg #[.string s, .int .i64 a], .int .i64 m] w fun e w' => e = .returned (.tuple #[.int .i64 0, .agg #[.string s, .int .i64 a], .int .i64 1]) ∧ Below w.heap.size w w' := by
  have HK := Lib.hid (fun W => check_no s a W ha)
  clear ha
  go_enter Try.func11, Try.ntmps11
  go_wp2_with fail
  refine (HK.out _).mono ?_
  rintro e w1 ⟨rfl, hb1⟩
  obtain ⟨hc1, hf1⟩ := old hb1
  have hz1 : w.heap.size + 2 ≤ w1.heap.size := by have := hb1.size; simp at this; omega
  have HB1 : Hid (Below w.heap.size w w1) := Lib.hid ((((Below.refl _ _).alloc (Nat.le_refl _) _).alloc (by simp) _).trans (hb1.mono (by simp; omega)))
  clear hb1
  go_wp2_with fail
  go_region
  go_wp2
  refine bodyPost_ret (v := .tuple #[.int .i64 0, .agg #[.string s, .int .i64 a], .int .i64 1]) (by simp [results, Try.results11, go_sem, hc1]) rfl ⟨rfl, ?_⟩
  exact ((HB1.out.setCell (by simp) _).setCell (by simp) _).drew

set_option maxRecDepth 100000 in
set_option maxHeartbeats 1000000 in
theorem below_out (s : ByteArray) (a : Nat) (m : Int) (w : World) (ha : a ≤ s.size) (hm : m < 1 ∨ 256 < m) :
    Calls Try.prog 11 #[.agg #[.string s, .int .i64 a], .int .i64 m] w fun e w' => e = .returned (.tuple #[.int .i64 0, .agg #[.string s, .int .i64 a], .int .i64 1]) ∧ Below w.heap.size w w' := by
  have HK := Lib.hid (fun W => check_yes s a W ha)
  rcases (show (m < 1) ∨ (1 ≤ m ∧ 256 < m) by omega) with h | ⟨h', h⟩
  all_goals
    clear hm
    go_enter Try.func11, Try.ntmps11
    go_wp2_with fail
    refine (HK.out _).mono ?_
    rintro e w1 ⟨rfl, hb1⟩
    obtain ⟨hc1, hf1⟩ := old hb1
    have hz1 : w.heap.size + 2 ≤ w1.heap.size := by have := hb1.size; simp at this; omega
    have HB1 : Hid (Below w.heap.size w w1) := Lib.hid ((((Below.refl _ _).alloc (Nat.le_refl _) _).alloc (by simp) _).trans (hb1.mono (by simp; omega)))
    clear hb1
    go_wp2_with fail
    go_region
    go_wp2
    refine bodyPost_ret (v := .tuple #[.int .i64 0, .agg #[.string s, .int .i64 a], .int .i64 1]) (by simp [results, Try.results11, go_sem, hc1]) rfl ⟨rfl, ?_⟩
    exact ((HB1.out.setCell (by simp) _).setCell (by simp) _).drew

/-! ### The document's -/
set_option maxRecDepth 100000 in
set_option maxHeartbeats 1000000 in
theorem rbelow_yes (s : ByteArray) (a m : Nat) (w : World) (hs : s.size ≤ 1000) (ha : a ≤ s.size) (h1 : 1 ≤ m) (hm : m ≤ 256) :
    Calls Try.prog 12 #[.agg #[.string s, .int .i64 a], .int .i64 m] w fun e w' =>
      e = .returned (.tuple #[.int .i64 (drawn s.data.toList a m : Nat), .agg #[.string s, .int .i64 (next s.data.toList a : Nat)], .int .i64 0]) ∧ Below w.heap.size w w' := by
  have HK := Lib.hid (fun W => may_yes s a W ha)
  have HS := Lib.hid (fun W => rdraw_any s a m W hs ha h1 hm)
  have d1 : decide ((m : Int) < 1) = false := by simp; omega
  have d2 : decide ((256 : Int) < m) = false := by simp; omega
  generalize drawn s.data.toList a m = d at *
  generalize next s.data.toList a = p at *
  go_enter Try.func12, Try.ntmps12
  go_wp2_with fail
  refine (HK.out _).mono ?_
  rintro e w1 ⟨rfl, hb1⟩
  obtain ⟨hc1, hf1⟩ := old hb1
  have e0 := (hc1 (w.heap.size + 1) 0 (by simp)).trans (show _ = some (.string ⟨#[]⟩) by go_simp)
  have e1 := (hc1 (w.heap.size + 1) 1 (by simp)).trans (show _ = some (.int .i64 0) by go_simp)
  have f0 := (hf1 (w.heap.size + 1) 0 (by simp)).trans (show _ = false by go_simp)
  have f1 := (hf1 (w.heap.size + 1) 1 (by simp)).trans (show _ = false by go_simp)
  have E := Lib.hid (And.intro (And.intro e0 e1) (And.intro f0 f1))
  clear e0 e1 f0 f1
  have hz1 : w.heap.size + 2 ≤ w1.heap.size := by have := hb1.size; simp at this; omega
  have HB1 : Hid (Below w.heap.size w w1) := Lib.hid ((((Below.refl _ _).alloc (Nat.le_refl _) _).alloc (by simp) _).trans (hb1.mono (by simp; omega)))
  clear hb1
  go_wp2_with fail
  refine (HS.out _).mono ?_
  rintro e w2 ⟨rfl, hb2⟩
  have hk := hb2.block (w.heap.size + 1) (by omega)
  have r0 := (World.cell?_of_block (a := ⟨w.heap.size + 1, 0, none⟩) hk).trans E.out.1.1
  have r1 := (World.cell?_of_block (a := ⟨w.heap.size + 1, 1, none⟩) hk).trans E.out.1.2
  have q0 := (World.frozen?_of_block (a := ⟨w.heap.size + 1, 0, none⟩) hk).trans E.out.2.1
  have q1 := (World.frozen?_of_block (a := ⟨w.heap.size + 1, 1, none⟩) hk).trans E.out.2.2
  have hz2 := hb2.size
  have hz3 : w.heap.size + 1 < w2.heap.size := by omega
  have HB2 : Hid (Below w.heap.size w w2) := Lib.hid (HB1.out.trans (hb2.mono (by omega)))
  clear hk hb2 hc1 hf1 HB1 HS HK
  go_wp2_with fail
  go_region
  go_wp2
  refine bodyPost_ret (v := .tuple #[.int .i64 d, .agg #[.string s, .int .i64 p], .int .i64 0]) (by simp [results, Try.results12, go_sem, r0, r1, hz3]) rfl ⟨rfl, ?_⟩
  exact (((HB2.out.setCell (by simp) _).setCell (by simp) _).alloc (by simp [World.setCell]; omega) _).drew

set_option maxRecDepth 100000 in
set_option maxHeartbeats 1000000 in
theorem rbelow_bad (s : ByteArray) (a m : Int) (w : World) (ha : a < 0 ∨ (s.size : Int) < a) :
    Calls Try.prog 12 #[.agg #[.string s, .int .i64 a], .int .i64 m] w fun e w' => e = .returned (.tuple #[.int .i64 0, .agg #[.string s, .int .i64 a], .int .i64 1]) ∧ Below w.heap.size w w' := by
  have HK := Lib.hid (fun W => may_no s a W ha)
  clear ha
  go_enter Try.func12, Try.ntmps12
  go_wp2_with fail
  refine (HK.out _).mono ?_
  rintro e w1 ⟨rfl, hb1⟩
  obtain ⟨hc1, hf1⟩ := old hb1
  have hz1 : w.heap.size + 2 ≤ w1.heap.size := by have := hb1.size; simp at this; omega
  have HB1 : Hid (Below w.heap.size w w1) := Lib.hid ((((Below.refl _ _).alloc (Nat.le_refl _) _).alloc (by simp) _).trans (hb1.mono (by simp; omega)))
  clear hb1
  go_wp2_with fail
  go_region
  go_wp2
  refine bodyPost_ret (v := .tuple #[.int .i64 0, .agg #[.string s, .int .i64 a], .int .i64 1]) (by simp [results, Try.results12, go_sem, hc1]) rfl ⟨rfl, ?_⟩
  exact ((HB1.out.setCell (by simp) _).setCell (by simp) _).drew

set_option maxRecDepth 100000 in
set_option maxHeartbeats 1000000 in
theorem rbelow_out (s : ByteArray) (a : Nat) (m : Int) (w : World) (ha : a ≤ s.size) (hm : m < 1 ∨ 256 < m) :
    Calls Try.prog 12 #[.agg #[.string s, .int .i64 a], .int .i64 m] w fun e w' => e = .returned (.tuple #[.int .i64 0, .agg #[.string s, .int .i64 a], .int .i64 1]) ∧ Below w.heap.size w w' := by
  have HK := Lib.hid (fun W => may_yes s a W ha)
  rcases (show (m < 1) ∨ (1 ≤ m ∧ 256 < m) by omega) with h | ⟨h', h⟩
  all_goals
    clear hm
    go_enter Try.func12, Try.ntmps12
    go_wp2_with fail
    refine (HK.out _).mono ?_
    rintro e w1 ⟨rfl, hb1⟩
    obtain ⟨hc1, hf1⟩ := old hb1
    have hz1 : w.heap.size + 2 ≤ w1.heap.size := by have := hb1.size; simp at this; omega
    have HB1 : Hid (Below w.heap.size w w1) := Lib.hid ((((Below.refl _ _).alloc (Nat.le_refl _) _).alloc (by simp) _).trans (hb1.mono (by simp; omega)))
    clear hb1
    go_wp2_with fail
    go_region
    go_wp2
    refine bodyPost_ret (v := .tuple #[.int .i64 0, .agg #[.string s, .int .i64 a], .int .i64 1]) (by simp [results, Try.results12, go_sem, hc1]) rfl ⟨rfl, ?_⟩
    exact ((HB1.out.setCell (by simp) _).setCell (by simp) _).drew
end Go.Proofs.Ytincniaekhiceaa
