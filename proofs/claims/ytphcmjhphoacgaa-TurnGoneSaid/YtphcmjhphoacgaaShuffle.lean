/-
  The walk of Shuffle.
-/
import Derived.Test.YtphcmjhphoacgaaShuf
namespace Go.Proofs.Ytphcmjhphoacgaa
open Go.RowKit Go.Proofs.Ytphcmjhphoacgaa.Pure

/-- What was there is as it was. -/
theorem old {W w1 : World} (hb : Below W.heap.size W w1) : (∀ b o, b < W.heap.size → w1.cell? ⟨b, o, none⟩ = W.cell? ⟨b, o, none⟩) ∧ (∀ b o, b < W.heap.size → w1.frozen? ⟨b, o, none⟩ = W.frozen? ⟨b, o, none⟩) :=
  ⟨fun b _ h => World.cell?_of_block (hb.block b h), fun b _ h => World.frozen?_of_block (hb.block b h)⟩

theorem shuffled_any (s : ByteArray) (a g c lo hi : Nat) (A : Option Addr) (xs : List Int) (w : World) (hs : s.size ≤ 1000) (ha : a ≤ s.size) (hn : xs.length ≤ 256)
    (hr : Roll w g s a) (hc : Has w lo hi A xs) (hh : hi ≤ w.heap.size) :
    Calls Try.prog 32 #[.slice A xs.length c, .func (.func 33) #[.pointer (some ⟨g, 0, none⟩)] #[]] w fun e w' =>
      ∃ A' c', e = .returned (.slice A' xs.length c') ∧ xs.length ≤ c' ∧ Has w' w.heap.size w'.heap.size A' (shufAll s.data.toList a xs).1 ∧ Roll w' g s (shufAll s.data.toList a xs).2 ∧ w.grownBy w' (some g) := by
  rcases Nat.lt_or_ge xs.length 2 with h | h
  · refine (shuffled_few g c lo hi A xs w h hc hh).mono ?_
    rintro e w' ⟨A', c', rfl, hcap, hhas, hb⟩
    rw [shufAll_few _ _ _ h]
    exact ⟨A', c', rfl, hcap, hhas, hr.on hb, grown_below (World.grownBy.refl _ _) hb⟩
  · refine (shuffled_many s a g c lo hi A xs w hs ha h hn hr hc hh).mono ?_
    rintro e w' ⟨b, c', rfl, hcap, hb0, hb1, hrow, hroll, hg⟩
    exact ⟨_, c', rfl, hcap, hrow.has hb0 hb1, hroll, hg⟩

set_option maxRecDepth 100000 in
set_option maxHeartbeats 1000000 in
theorem shuffle_yes (s : ByteArray) (a c lo hi : Nat) (A : Option Addr) (xs : List Int) (w : World) (hs : s.size ≤ 1000) (ha : a ≤ s.size) (hn : xs.length ≤ 256) (hc : Has w lo hi A xs) (hh : hi ≤ w.heap.size) :
    Calls Try.prog 23 #[.agg #[.string s, .int .i64 a], .slice A xs.length c] w fun e w' =>
      ∃ A' c', e = .returned (.tuple #[.slice A' xs.length c', .agg #[.string s, .int .i64 ((shufAll s.data.toList a xs).2 : Nat)], .int .i64 0]) ∧ xs.length ≤ c' ∧ Has w' w.heap.size w'.heap.size A' (shufAll s.data.toList a xs).1 ∧ Below w.heap.size w w' := by
  have HK := Lib.hid (fun W => check_yes s a W ha)
  have HS := Lib.hid (fun g W => shuffled_any s a g c lo hi A xs W hs ha hn)
  have HH := Lib.hid hc
  generalize shufAll s.data.toList a xs = r at *
  obtain ⟨ys, p⟩ := r
  clear hc
  go_enter Try.func23, Try.ntmps23
  go_wp2_with fail
  refine (HK.out _).mono ?_
  rintro e w1 ⟨rfl, hb1⟩
  obtain ⟨hc1, hf1⟩ := old hb1
  have e0 := (hc1 (w.heap.size + 1) 0 (by simp)).trans (show _ = some (.string ⟨#[]⟩) by go_simp)
  have e1 := (hc1 (w.heap.size + 1) 1 (by simp)).trans (show _ = some (.int .i64 0) by go_simp)
  have f0 := (hf1 (w.heap.size + 1) 0 (by simp)).trans (show _ = false by go_simp)
  have f1 := (hf1 (w.heap.size + 1) 1 (by simp)).trans (show _ = false by go_simp)
  have E := Lib.hid (And.intro (And.intro e0 e1) (And.intro f0 f1))
  clear e0 e1 f0 f1
  have hz1 : w.heap.size + 2 ≤ w1.heap.size := by have := hb1.size; simp at this; omega
  have HB1 : Hid (Below w.heap.size w w1) := Lib.hid ((((Below.refl _ _).alloc (Nat.le_refl _) _).alloc (by simp) _).trans (hb1.mono (by simp; omega)))
  clear hb1
  go_wp2_with fail
  refine (HS.out w1.heap.size _ ?_ ?_ ?_).mono ?_
  · exact ⟨by go_simp, by go_simp, by go_simp⟩
  · exact (HH.out.on HB1.out hh).alloc _ (by omega)
  · simp; omega
  rintro e w2 ⟨A', c', rfl, hcap, hhas, hroll, hg⟩
  have hk := (hg.block (w.heap.size + 1) (by simp; omega) (by simp; omega)).trans (Below.heap_alloc w1 _ _ (by omega))
  have r0 := (World.cell?_of_block (a := ⟨w.heap.size + 1, 0, none⟩) hk).trans E.out.1.1
  have r1 := (World.cell?_of_block (a := ⟨w.heap.size + 1, 1, none⟩) hk).trans E.out.1.2
  have q0 := (World.frozen?_of_block (a := ⟨w.heap.size + 1, 0, none⟩) hk).trans E.out.2.1
  have q1 := (World.frozen?_of_block (a := ⟨w.heap.size + 1, 1, none⟩) hk).trans E.out.2.2
  obtain ⟨g0, g1, g2⟩ := hroll
  have hsz := hg.size
  simp at hsz
  have HB2 : Hid (Below w.heap.size w w2) := Lib.hid ((HB1.out.alloc HB1.out.size _).grown hg (by simp; omega) (by intro k hk; injection hk; omega))
  have HA : Hid (Has w2 (w1.heap.size + 1) w2.heap.size A' ys) := Lib.hid (by simpa using hhas)
  clear hk hg hhas hc1 hf1 HB1 HS HK HH
  go_wp2_with fail
  go_region
  go_wp2
  refine bodyPost_ret (v := .tuple #[.slice A' xs.length c', .agg #[.string s, .int .i64 p], .int .i64 0]) (by simp [results, Try.results23, go_sem, r0, r1]) rfl ⟨A', c', rfl, hcap, ?_, ?_⟩
  · exact ((((HA.out.set (p := ⟨w.heap.size + 1, 0, none⟩) (.inl (by simp; omega)) _).set (p := ⟨w.heap.size + 1, 1, none⟩) (.inl (by simp; omega)) _).drew).wide (by omega) (by simp [World.setCell, World.drew]))
  · exact ((HB2.out.setCell (by simp) _).setCell (by simp) _).drew

set_option maxRecDepth 100000 in
set_option maxHeartbeats 1000000 in
theorem shuffle_bad (s : ByteArray) (a : Int) (l : Value) (w : World) (ha : a < 0 ∨ (s.size : Int) < a) :
    Calls Try.prog 23 #[.agg #[.string s, .int .i64 a], l] w fun e w' => e = .returned (.tuple #[.slice none 0 0, .agg #[.string s, .int .i64 a], .int .i64 1]) ∧ Below w.heap.size w w' := by
  have HK := Lib.hid (fun W => check_no s a W ha)
  clear ha
  go_enter Try.func23, Try.ntmps23
  go_wp2_with fail
  refine (HK.out _).mono ?_
  rintro e w1 ⟨rfl, hb1⟩
  obtain ⟨hc1, hf1⟩ := old hb1
  have hz1 : w.heap.size + 2 ≤ w1.heap.size := by have := hb1.size; simp at this; omega
  have HB1 : Hid (Below w.heap.size w w1) := Lib.hid ((((Below.refl _ _).alloc (Nat.le_refl _) _).alloc (by simp) _).trans (hb1.mono (by simp; omega)))
  clear hb1
  go_wp2_with fail
  go_region
  go_wp2
  refine bodyPost_ret (v := .tuple #[.slice none 0 0, .agg #[.string s, .int .i64 a], .int .i64 1]) (by simp [results, Try.results23, go_sem, hc1]) rfl ⟨rfl, ?_⟩
  exact ((HB1.out.setCell (by simp) _).setCell (by simp) _).drew

set_option maxRecDepth 100000 in
set_option maxHeartbeats 1000000 in
theorem shuffle_full (s : ByteArray) (a : Nat) (A : Option Addr) (n c : Nat) (w : World) (ha : a ≤ s.size) (hn : 256 < n) :
    Calls Try.prog 23 #[.agg #[.string s, .int .i64 a], .slice A n c] w fun e w' => e = .returned (.tuple #[.slice none 0 0, .agg #[.string s, .int .i64 a], .int .i64 1]) ∧ Below w.heap.size w w' := by
  have HK := Lib.hid (fun W => check_yes s a W ha)
  go_enter Try.func23, Try.ntmps23
  go_wp2_with fail
  refine (HK.out _).mono ?_
  rintro e w1 ⟨rfl, hb1⟩
  obtain ⟨hc1, hf1⟩ := old hb1
  have hz1 : w.heap.size + 2 ≤ w1.heap.size := by have := hb1.size; simp at this; omega
  have HB1 : Hid (Below w.heap.size w w1) := Lib.hid ((((Below.refl _ _).alloc (Nat.le_refl _) _).alloc (by simp) _).trans (hb1.mono (by simp; omega)))
  clear hb1
  go_wp2_with fail
  go_region
  go_wp2
  refine bodyPost_ret (v := .tuple #[.slice none 0 0, .agg #[.string s, .int .i64 a], .int .i64 1]) (by simp [results, Try.results23, go_sem, hc1]) rfl ⟨rfl, ?_⟩
  exact ((HB1.out.setCell (by simp) _).setCell (by simp) _).drew
end Go.Proofs.Ytphcmjhphoacgaa
