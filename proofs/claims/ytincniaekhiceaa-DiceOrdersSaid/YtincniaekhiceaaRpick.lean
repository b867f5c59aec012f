/-
  The walk of the document's Pick.
-/
import Derived.Test.YtincniaekhiceaaPick
namespace Go.Proofs.Ytincniaekhiceaa
open Go.RowKit Go.Proofs.Ytincniaekhiceaa.Pure

theorem Own.alloc {w : World} {B : Nat} {v : Value} {xs : List Int} (h : Own w B v xs) (o : Obj) : Own (w.alloc o) B v xs := World.ownsRow.alloc (w := w) h o
theorem Own.ge {w : World} {B : Nat} {v : Value} {xs : List Int} (h : Own w B v xs) : ∀ k, v.ownBlock = some k → B ≤ k ∧ k < w.heap.size := World.ownsRow.lt (w := w) h
/-- A slice of one number, made anew. -/
theorem has_one (w : World) (y : Int) (t : TypeId) : Has (w.alloc (.cells #[.int .i64 y] t)) 0 (w.heap.size + 1) (some ⟨w.heap.size, 0, none⟩) [y] := fun j hj => by
  obtain rfl : j = 0 := by simpa using hj
  exact ⟨_, rfl, Nat.zero_le _, by simp, by simp [Addr.add, go_sem]⟩

set_option maxRecDepth 100000 in
set_option maxHeartbeats 2000000 in
theorem rpick_yes (s : ByteArray) (a c lo hi k : Nat) (A : Option Addr) (xs : List Int) (w : World) (hs : s.size ≤ 1000) (ha : a ≤ s.size) (hn : xs.length ≤ 256) (hk : k ≤ 9223372036854775807) (hc : Has w lo hi A xs) (hh : hi ≤ w.heap.size) :
    Calls Try.prog 19 #[.agg #[.string s, .int .i64 a], .slice A xs.length c, .int .i64 k] w fun e w' =>
      ∃ A' c', e = .returned (.tuple #[.slice A' ((shufAll s.data.toList a xs).1.take k).length c', .agg #[.string s, .int .i64 ((shufAll s.data.toList a xs).2 : Nat)], .int .i64 0]) ∧ ((shufAll s.data.toList a xs).1.take k).length ≤ c' ∧ Has w' w.heap.size w'.heap.size A' ((shufAll s.data.toList a xs).1.take k) ∧ Below w.heap.size w w' := by
  have HK := Lib.hid (fun W => may_yes s a W ha)
  have HS := Lib.hid (fun W => rshuffle_yes s a c lo hi A xs W hs ha hn)
  have HL := Lib.hid (shufAll_len s.data.toList a xs)
  have HC := Lib.hid hc
  have d1 : decide ((k : Int) < 0) = false := by simp
  have d2 : decide ((256 : Int) < (xs.length : Int)) = false := by simp; omega
  generalize shufAll s.data.toList a xs = r at *
  obtain ⟨ys, p⟩ := r
  simp only at HL
  clear hc
  go_enter Try.func19, Try.ntmps19
  go_wp2_with fail
  refine (HK.out _).mono ?_
  rintro e w1 ⟨rfl, hb1⟩
  have HX : Hid (Box w1 w.heap.size s a) := Lib.hid (((Box.new w s a _).alloc _).on hb1)
  have HY : Hid (Box w1 (w.heap.size + 1) ⟨#[]⟩ 0) := Lib.hid ((show Box _ (w.heap.size + 1) _ _ by simpa using (Box.new (w.alloc _) ⟨#[]⟩ 0 _)).on hb1)
  have hz1 : w.heap.size + 2 ≤ w1.heap.size := by have := hb1.size; simp at this; omega
  have HB1 : Hid (Below w.heap.size w w1) := Lib.hid ((((Below.refl _ _).alloc (Nat.le_refl _) _).alloc (by simp) _).trans (hb1.mono (by simp; omega)))
  clear hb1 HK
  obtain ⟨x0, x1, xf0, xf1⟩ := HX.out
  go_wp2_with fail
  refine (HS.out _ (HC.out.on HB1.out hh) (by omega)).mono ?_
  rintro e w2 ⟨A', c', rfl, hcap, hhas, hb2⟩
  have HY2 := Lib.hid ((HY.out.on hb2).alloc (.cells #[.string s, .int .i64 p] 23))
  have HX2 := Lib.hid (Box.new w2 s p 23)
  have hz2 := hb2.size
  have HB2 := Lib.hid ((HB1.out.trans (hb2.mono (by omega))).alloc (by omega) (.cells #[.string s, .int .i64 p] 23))
  have HH := Lib.hid (hhas.alloc (.cells #[.string s, .int .i64 p] 23) (Nat.le_refl _))
  clear hb2 hhas HX HY HB1 HS HC x0 x1 xf0 xf1
  go_upto_region 4 with (fail)
  have hz3 : w2.heap.size < (w2.alloc (.cells #[.string s, .int .i64 p] 23)).heap.size := by simp
  generalize w2.alloc (.cells #[.string s, .int .i64 p] 23) = w3 at *
  go_wp2_with fail
  go_loopw [12, 13] (fun v i wr => ∃ j : Nat, j ≤ k ∧ j ≤ xs.length ∧ i = .int .i64 j ∧ Hid (Own wr w3.heap.size v (ys.take j)) ∧ Hid (Below w3.heap.size w3 wr)) (fun _ i _ => xs.length - (intOf i).toNat)
  case atStart => exact ⟨0, Nat.zero_le _, Nat.zero_le _, rfl, Lib.hid (World.ownsRow_nil _ _ _ _), Lib.hid (Below.refl _ _)⟩
  case round =>
    obtain ⟨j, hjk, hjn, rfl, hown, hb⟩ := hrel
    have hzb := hb.out.size
    by_cases h : j < xs.length ∧ j < k
    · obtain ⟨h1, h2⟩ := h
      have j0 : (0 : Int) ≤ (j : Int) := by omega
      have j1 : (j : Int) < (xs.length : Int) := by omega
      have HA := Lib.hid (HH.out.on hb.out (by omega))
      obtain ⟨ad, rfl, _, _, hcell⟩ := HA.out j (by rw [HL.out]; exact h1)
      have HT : Hid (ys.take j ++ [ys.getD j 0] = ys.take (j + 1)) := Lib.hid (by rw [List.take_succ_eq_append_getElem (by rw [HL.out]; exact h1)]; simp [List.getD, HL.out, h1])
      generalize ys.getD j 0 = y at *
      go_wp2_with (at_builtin; refine wpList_append_has rfl _ _ rfl w3.heap.size _ (ys.take j) rfl ?c1 (some ⟨wr.heap.size, 0, none⟩) 1 0 (wr.heap.size + 1) [y] rfl ?c2 ?c3 ?c4 ?_)
      case c1 => exact hown.out.alloc _
      case c2 => exact has_one wr y _
      case c3 => simp; omega
      case c4 => simp; omega
      intro v' w4 hown' hgrow
      have HO := Lib.hid hown'
      have HBn : Hid (Below w3.heap.size w3 w4) := Lib.hid ((hb.out.alloc hzb _).grown hgrow (by simp; omega) (fun k hk => (hown.out.ge k hk).1))
      rw [HT.out] at HO
      clear hown' hgrow hown hb
      go_wp2_with fail
      go_roundw
      case rel => exact ⟨j + 1, by omega, by omega, by go_num, HO, HBn⟩
      case measure => simp [intOf]; omega
    · have hjm : j = xs.length ∨ (j < xs.length ∧ j = k) := by omega
      have HE : Hid (ys.take j = ys.take k) := Lib.hid (by
        rcases hjm with e | e
        · rw [List.take_of_length_le (by rw [HL.out]; omega), List.take_of_length_le (by rw [HL.out]; omega)]
        · rw [e.2])
      have HO := hown.out
      rw [HE.out] at HO
      obtain ⟨A2, c2, rfl, hcap2, hhas2⟩ := HO.has
      have H2 := Lib.hid hhas2
      obtain ⟨x0, x1, xf0, xf1⟩ := HX2.out.on hb.out
      obtain ⟨y0, y1, yf0, yf1⟩ := HY2.out.on hb.out
      have HBn := Lib.hid (HB2.out.trans (hb.out.mono HB2.out.size))
      have hz5 : w.heap.size + 1 < wr.heap.size := by omega
      clear h hhas2 HO hown hb
      rcases hjm with rfl | ⟨h1, rfl⟩
      all_goals
        go_wp2_with fail
        go_region
        go_wp2
        refine bodyPost_ret (v := .tuple #[.slice A2 (ys.take _).length c2, .agg #[.string s, .int .i64 p], .int .i64 0]) (by simp [results, Try.results19, go_sem, y0, y1]) rfl ⟨A2, c2, rfl, hcap2, ?_, ?_⟩
        · exact (((H2.out.set (p := ⟨w.heap.size + 1, 0, none⟩) (.inl (by simp; omega)) _).set (p := ⟨w.heap.size + 1, 1, none⟩) (.inl (by simp; omega)) _)).drew.wide (by omega) (by simp [World.setCell, World.drew])
        · exact ((HBn.out.setCell (by simp) _).setCell (by simp) _).drew

set_option maxRecDepth 100000 in
set_option maxHeartbeats 1000000 in
theorem rpick_bad (s : ByteArray) (a k : Int) (A : Option Addr) (n c : Nat) (w : World) (ha : a < 0 ∨ (s.size : Int) < a) :
    Calls Try.prog 19 #[.agg #[.string s, .int .i64 a], .slice A n c, .int .i64 k] w fun e w' => e = .returned (.tuple #[.slice none 0 0, .agg #[.string s, .int .i64 a], .int .i64 1]) ∧ Below w.heap.size w w' := by
  have HK := Lib.hid (fun W => may_no s a W ha)
  clear ha
  go_enter Try.func19, Try.ntmps19
  go_wp2_with fail
  refine (HK.out _).mono ?_
  rintro e w1 ⟨rfl, hb1⟩
  obtain ⟨hc1, hf1⟩ := old hb1
  have hz1 : w.heap.size + 2 ≤ w1.heap.size := by have := hb1.size; simp at this; omega
  have HB1 : Hid (Below w.heap.size w w1) := Lib.hid ((((Below.refl _ _).alloc (Nat.le_refl _) _).alloc (by simp) _).trans (hb1.mono (by simp; omega)))
  clear hb1
  go_wp2_with fail
  go_region
  go_wp2
  refine bodyPost_ret (v := .tuple #[.slice none 0 0, .agg #[.string s, .int .i64 a], .int .i64 1]) (by simp [results, Try.results19, go_sem, hc1]) rfl ⟨rfl, ?_⟩
  exact ((HB1.out.setCell (by simp) _).setCell (by simp) _).drew

set_option maxRecDepth 100000 in
set_option maxHeartbeats 1000000 in
theorem rpick_full (s : ByteArray) (a : Nat) (k : Int) (A : Option Addr) (n c : Nat) (w : World) (ha : a ≤ s.size) (hn : 256 < n) :
    Calls Try.prog 19 #[.agg #[.string s, .int .i64 a], .slice A n c, .int .i64 k] w fun e w' => e = .returned (.tuple #[.slice none 0 0, .agg #[.string s, .int .i64 a], .int .i64 1]) ∧ Below w.heap.size w w' := by
  have HK := Lib.hid (fun W => may_yes s a W ha)
  go_enter Try.func19, Try.ntmps19
  go_wp2_with fail
  refine (HK.out _).mono ?_
  rintro e w1 ⟨rfl, hb1⟩
  obtain ⟨hc1, hf1⟩ := old hb1
  have hz1 : w.heap.size + 2 ≤ w1.heap.size := by have := hb1.size; simp at this; omega
  have HB1 : Hid (Below w.heap.size w w1) := Lib.hid ((((Below.refl _ _).alloc (Nat.le_refl _) _).alloc (by simp) _).trans (hb1.mono (by simp; omega)))
  clear hb1
  go_wp2_with fail
  go_region
  go_wp2
  refine bodyPost_ret (v := .tuple #[.slice none 0 0, .agg #[.string s, .int .i64 a], .int .i64 1]) (by simp [results, Try.results19, go_sem, hc1]) rfl ⟨rfl, ?_⟩
  exact ((HB1.out.setCell (by simp) _).setCell (by simp) _).drew

set_option maxRecDepth 100000 in
set_option maxHeartbeats 1000000 in
theorem rpick_neg (s : ByteArray) (a : Nat) (k : Int) (A : Option Addr) (n c : Nat) (w : World) (ha : a ≤ s.size) (hn : n ≤ 256) (hk : k < 0) :
    Calls Try.prog 19 #[.agg #[.string s, .int .i64 a], .slice A n c, .int .i64 k] w fun e w' => e = .returned (.tuple #[.slice none 0 0, .agg #[.string s, .int .i64 a], .int .i64 1]) ∧ Below w.heap.size w w' := by
  have HK := Lib.hid (fun W => may_yes s a W ha)
  have d2 : decide ((256 : Int) < (n : Int)) = false := by simp; omega
  go_enter Try.func19, Try.ntmps19
  go_wp2_with fail
  refine (HK.out _).mono ?_
  rintro e w1 ⟨rfl, hb1⟩
  obtain ⟨hc1, hf1⟩ := old hb1
  have hz1 : w.heap.size + 2 ≤ w1.heap.size := by have := hb1.size; simp at this; omega
  have HB1 : Hid (Below w.heap.size w w1) := Lib.hid ((((Below.refl _ _).alloc (Nat.le_refl _) _).alloc (by simp) _).trans (hb1.mono (by simp; omega)))
  clear hb1
  go_wp2_with fail
  go_region
  go_wp2
  refine bodyPost_ret (v := .tuple #[.slice none 0 0, .agg #[.string s, .int .i64 a], .int .i64 1]) (by simp [results, Try.results19, go_sem, hc1]) rfl ⟨rfl, ?_⟩
  exact ((HB1.out.setCell (by simp) _).setCell (by simp) _).drew
end Go.Proofs.Ytincniaekhiceaa
