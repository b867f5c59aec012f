/-
  The walk of Pick.
-/
import Derived.Test.YtincniaekhiceaaRshuf
namespace Go.Proofs.Ytincniaekhiceaa
open Go.RowKit Go.Proofs.Ytincniaekhiceaa.Pure

set_option maxRecDepth 100000 in
set_option maxHeartbeats 1000000 in
theorem pick_in (s : ByteArray) (a c lo hi k : Nat) (A : Option Addr) (xs : List Int) (w : World) (hs : s.size ≤ 1000) (ha : a ≤ s.size) (hn : xs.length ≤ 256) (hk : k ≤ 9223372036854775807) (hkn : k ≤ xs.length) (hc : Has w lo hi A xs) (hh : hi ≤ w.heap.size) :
    Calls Try.prog 18 #[.agg #[.string s, .int .i64 a], .slice A xs.length c, .int .i64 k] w fun e w' =>
      ∃ A' c', e = .returned (.tuple #[.slice A' k c', .agg #[.string s, .int .i64 ((shufAll s.data.toList a xs).2 : Nat)], .int .i64 0]) ∧ k ≤ c' ∧ Has w' w.heap.size w'.heap.size A' ((shufAll s.data.toList a xs).1.take k) ∧ Below w.heap.size w w' := by
  have HS := Lib.hid (fun W => shuffle_yes s a c lo hi A xs W hs ha hn)
  have HC := Lib.hid hc
  have d1 : decide ((k : Int) < 0) = false := by simp
  generalize shufAll s.data.toList a xs = r at *
  obtain ⟨ys, p⟩ := r
  clear hc
  go_enter Try.func18, Try.ntmps18
  go_wp2_with fail
  refine (HS.out _ ?_ ?_).mono ?_
  · exact (HC.out.alloc _ hh).alloc _ (by simp; omega)
  · simp; omega
  rintro e w1 ⟨A', c', rfl, hcap, hhas, hb1⟩
  have HX : Hid (Box w1 w.heap.size s a) := Lib.hid (((Box.new w s a _).alloc _).on hb1)
  have HY : Hid (Box w1 (w.heap.size + 1) ⟨#[]⟩ 0) := Lib.hid ((show Box _ (w.heap.size + 1) _ _ by simpa using (Box.new (w.alloc _) ⟨#[]⟩ 0 _)).on hb1)
  obtain ⟨x0, x1, xf0, xf1⟩ := HX.out
  obtain ⟨y0, y1, yf0, yf1⟩ := HY.out
  have hz1 : w.heap.size + 2 ≤ w1.heap.size := by have := hb1.size; simp at this; omega
  have hz2 : w.heap.size + 1 < w1.heap.size := by omega
  have HB1 : Hid (Below w.heap.size w w1) := Lib.hid ((((Below.refl _ _).alloc (Nat.le_refl _) _).alloc (by simp) _).trans (hb1.mono (by simp; omega)))
  have HH : Hid (Has w1 (w.heap.size + 2) w1.heap.size A' ys) := Lib.hid (by simpa using hhas)
  clear hhas hb1 HS HC
  have m1 : decide ((xs.length : Int) < (k : Int)) = false := by simp; omega
  have k0 : (0 : Int) ≤ (k : Int) := by omega
  have k1 : (k : Int) ≤ (c' : Int) := by omega
  have k2 : (k : Int) ≤ (xs.length : Int) := by omega
  have k3 : k ≤ c' := by omega
  go_wp2_with fail
  go_region
  go_wp2
  refine bodyPost_ret (v := .tuple #[.slice A' k c', .agg #[.string s, .int .i64 p], .int .i64 0]) (by simp [results, Try.results18, go_sem, y0, y1, hz2]) rfl ⟨A', c', rfl, k3, ?_, ?_⟩
  · exact ((((HH.out.take k).set (p := ⟨w.heap.size + 1, 0, none⟩) (.inl (by simp)) _).set (p := ⟨w.heap.size + 1, 1, none⟩) (.inl (by simp)) _).alloc _ (by simp [World.setCell])).drew.wide (by omega) (by simp [World.setCell, World.drew])
  · exact (((HB1.out.setCell (by simp) _).setCell (by simp) _).alloc (by simp [World.setCell]; omega) _).drew

set_option maxRecDepth 100000 in
set_option maxHeartbeats 1000000 in
theorem pick_over (s : ByteArray) (a c lo hi k : Nat) (A : Option Addr) (xs : List Int) (w : World) (hs : s.size ≤ 1000) (ha : a ≤ s.size) (hn : xs.length ≤ 256) (_hk : k ≤ 9223372036854775807) (hkn : xs.length < k) (hc : Has w lo hi A xs) (hh : hi ≤ w.heap.size) :
    Calls Try.prog 18 #[.agg #[.string s, .int .i64 a], .slice A xs.length c, .int .i64 k] w fun e w' =>
      ∃ A' c', e = .returned (.tuple #[.slice A' xs.length c', .agg #[.string s, .int .i64 ((shufAll s.data.toList a xs).2 : Nat)], .int .i64 0]) ∧ xs.length ≤ c' ∧ Has w' w.heap.size w'.heap.size A' (shufAll s.data.toList a xs).1 ∧ Below w.heap.size w w' := by
  have HS := Lib.hid (fun W => shuffle_yes s a c lo hi A xs W hs ha hn)
  have HC := Lib.hid hc
  have d1 : decide ((k : Int) < 0) = false := by simp
  generalize shufAll s.data.toList a xs = r at *
  obtain ⟨ys, p⟩ := r
  clear hc
  go_enter Try.func18, Try.ntmps18
  go_wp2_with fail
  refine (HS.out _ ?_ ?_).mono ?_
  · exact (HC.out.alloc _ hh).alloc _ (by simp; omega)
  · simp; omega
  rintro e w1 ⟨A', c', rfl, hcap, hhas, hb1⟩
  have HX : Hid (Box w1 w.heap.size s a) := Lib.hid (((Box.new w s a _).alloc _).on hb1)
  have HY : Hid (Box w1 (w.heap.size + 1) ⟨#[]⟩ 0) := Lib.hid ((show Box _ (w.heap.size + 1) _ _ by simpa using (Box.new (w.alloc _) ⟨#[]⟩ 0 _)).on hb1)
  obtain ⟨x0, x1, xf0, xf1⟩ := HX.out
  obtain ⟨y0, y1, yf0, yf1⟩ := HY.out
  have hz1 : w.heap.size + 2 ≤ w1.heap.size := by have := hb1.size; simp at this; omega
  have hz2 : w.heap.size + 1 < w1.heap.size := by omega
  have HB1 : Hid (Below w.heap.size w w1) := Lib.hid ((((Below.refl _ _).alloc (Nat.le_refl _) _).alloc (by simp) _).trans (hb1.mono (by simp; omega)))
  have HH : Hid (Has w1 (w.heap.size + 2) w1.heap.size A' ys) := Lib.hid (by simpa using hhas)
  clear hhas hb1 HS HC
  have m1 : decide ((xs.length : Int) < (k : Int)) = true := by simp; omega
  have k1 : (xs.length : Int) ≤ (c' : Int) := by omega
  go_wp2_with fail
  go_region
  go_wp2
  refine bodyPost_ret (v := .tuple #[.slice A' xs.length c', .agg #[.string s, .int .i64 p], .int .i64 0]) (by simp [results, Try.results18, go_sem, y0, y1, hz2]) rfl ⟨A', c', rfl, hcap, ?_, ?_⟩
  · exact (((HH.out.set (p := ⟨w.heap.size + 1, 0, none⟩) (.inl (by simp)) _).set (p := ⟨w.heap.size + 1, 1, none⟩) (.inl (by simp)) _).alloc _ (by simp [World.setCell])).drew.wide (by omega) (by simp [World.setCell, World.drew])
  · exact (((HB1.out.setCell (by simp) _).setCell (by simp) _).alloc (by simp [World.setCell]; omega) _).drew


theorem pick_yes (s : ByteArray) (a c lo hi k : Nat) (A : Option Addr) (xs : List Int) (w : World) (hs : s.size ≤ 1000) (ha : a ≤ s.size) (hn : xs.length ≤ 256) (hk : k ≤ 9223372036854775807) (hc : Has w lo hi A xs) (hh : hi ≤ w.heap.size) :
    Calls Try.prog 18 #[.agg #[.string s, .int .i64 a], .slice A xs.length c, .int .i64 k] w fun e w' =>
      ∃ A' c', e = .returned (.tuple #[.slice A' ((shufAll s.data.toList a xs).1.take k).length c', .agg #[.string s, .int .i64 ((shufAll s.data.toList a xs).2 : Nat)], .int .i64 0]) ∧ ((shufAll s.data.toList a xs).1.take k).length ≤ c' ∧ Has w' w.heap.size w'.heap.size A' ((shufAll s.data.toList a xs).1.take k) ∧ Below w.heap.size w w' := by
  have hl := shufAll_len s.data.toList a xs
  rcases Nat.lt_or_ge xs.length k with h | h
  · rw [List.take_of_length_le (by omega), hl]
    exact pick_over s a c lo hi k A xs w hs ha hn hk h hc hh
  · rw [List.length_take, hl, Nat.min_eq_left h]
    exact pick_in s a c lo hi k A xs w hs ha hn hk h hc hh

set_option maxRecDepth 100000 in
set_option maxHeartbeats 1000000 in
theorem pick_neg (s : ByteArray) (a k : Int) (l : Value) (w : World) (hk : k < 0) :
    Calls Try.prog 18 #[.agg #[.string s, .int .i64 a], l, .int .i64 k] w fun e w' => e = .returned (.tuple #[.slice none 0 0, .agg #[.string s, .int .i64 a], .int .i64 1]) ∧ Below w.heap.size w w' := by
  go_enter Try.func18, Try.ntmps18
  go_wp2_with fail
  go_region
  go_wp2
  refine bodyPost_ret (v := .tuple #[.slice none 0 0, .agg #[.string s, .int .i64 a], .int .i64 1]) (by simp [results, Try.results18, go_sem]) rfl ⟨rfl, ?_⟩
  exact (((Below.refl _ _).alloc (Nat.le_refl _) _).alloc (by simp) _).drew

/-- Where Shuffle refuses, so does Pick. -/
theorem pick_no (s : ByteArray) (a k : Int) (A : Option Addr) (n c : Nat) (w : World) (hk : 0 ≤ k)
    (hS : ∀ W : World, Calls Try.prog 15 #[.agg #[.string s, .int .i64 a], .slice A n c] W fun e w' => e = .returned (.tuple #[.slice none 0 0, .agg #[.string s, .int .i64 a], .int .i64 1]) ∧ Below W.heap.size W w') :
    Calls Try.prog 18 #[.agg #[.string s, .int .i64 a], .slice A n c, .int .i64 k] w fun e w' => e = .returned (.tuple #[.slice none 0 0, .agg #[.string s, .int .i64 a], .int .i64 1]) ∧ Below w.heap.size w w' := by
  have HS := Lib.hid hS
  clear hS
  go_enter Try.func18, Try.ntmps18
  go_wp2_with fail
  refine (HS.out _).mono ?_
  rintro e w1 ⟨rfl, hb1⟩
  have HX : Hid (Box w1 w.heap.size s a) := Lib.hid (((Box.new w s a _).alloc _).on hb1)
  have HY : Hid (Box w1 (w.heap.size + 1) ⟨#[]⟩ 0) := Lib.hid ((show Box _ (w.heap.size + 1) _ _ by simpa using (Box.new (w.alloc _) ⟨#[]⟩ 0 _)).on hb1)
  obtain ⟨x0, x1, xf0, xf1⟩ := HX.out
  obtain ⟨y0, y1, yf0, yf1⟩ := HY.out
  have hz1 : w.heap.size + 2 ≤ w1.heap.size := by have := hb1.size; simp at this; omega
  have hz2 : w.heap.size + 1 < w1.heap.size := by omega
  have hz3 : w.heap.size < w1.heap.size := by omega
  have HB1 : Hid (Below w.heap.size w w1) := Lib.hid ((((Below.refl _ _).alloc (Nat.le_refl _) _).alloc (by simp) _).trans (hb1.mono (by simp; omega)))
  clear hb1 HS
  go_wp2_with fail
  go_region
  go_wp2
  refine bodyPost_ret (v := .tuple #[.slice none 0 0, .agg #[.string s, .int .i64 a], .int .i64 1]) (by simp [results, Try.results18, go_sem, y0, y1, hz2]) rfl ⟨rfl, ?_⟩
  exact (((HB1.out.setCell (by simp) _).setCell (by simp) _).alloc (by simp [World.setCell]; omega) _).drew
end Go.Proofs.Ytincniaekhiceaa
