/-
  The walk of the document's Shuffle.
-/
import Derived.Test.YtphcmjhphoacgaaBox
import Derived.Deep.DeepCutAuto
namespace Go.Proofs.Ytphcmjhphoacgaa
open Go.RowKit Go.Proofs.Ytphcmjhphoacgaa.Pure

set_option maxRecDepth 100000 in
set_option maxHeartbeats 2000000 in
theorem rshuffle_yes (s : ByteArray) (a c lo hi : Nat) (A : Option Addr) (xs : List Int) (w : World) (hs : s.size ≤ 1000) (ha : a ≤ s.size) (hn : xs.length ≤ 256) (hc : Has w lo hi A xs) (hh : hi ≤ w.heap.size) :
    Calls Try.prog 28 #[.agg #[.string s, .int .i64 a], .slice A xs.length c] w fun e w' =>
      ∃ A' c', e = .returned (.tuple #[.slice A' xs.length c', .agg #[.string s, .int .i64 ((shufAll s.data.toList a xs).2 : Nat)], .int .i64 0]) ∧ xs.length ≤ c' ∧ Has w' w.heap.size w'.heap.size A' (shufAll s.data.toList a xs).1 ∧ Below w.heap.size w w' := by
  obtain ⟨i0, hi0, hz0, hz1, hz2⟩ := info_parts Try.infoInt
  have HK := Lib.hid (fun W => may_yes s a W ha)
  have HN : Hid (s.data.toList.length = s.size) := Lib.hid (by simp)
  have HC := Lib.hid hc
  have d2 : decide ((256 : Int) < (xs.length : Int)) = false := by simp; omega
  clear hc
  generalize hr : shufAll s.data.toList a xs = r
  have HR := Lib.hid hr
  clear hr
  obtain ⟨zs, z⟩ := r
  go_enter Try.func28, Try.ntmps28
  go_wp2_with fail
  refine (HK.out _).mono ?_
  rintro e w1 ⟨rfl, hb1⟩
  have HX : Hid (Box w1 w.heap.size s a) := Lib.hid (((Box.new w s a _).alloc _).on hb1)
  have HY : Hid (Box w1 (w.heap.size + 1) ⟨#[]⟩ 0) := Lib.hid ((show Box _ (w.heap.size + 1) _ _ by simpa using (Box.new (w.alloc _) ⟨#[]⟩ 0 _)).on hb1)
  have hz1 : w.heap.size + 2 ≤ w1.heap.size := by have := hb1.size; simp at this; omega
  have HB1 : Hid (Below w.heap.size w w1) := Lib.hid ((((Below.refl _ _).alloc (Nat.le_refl _) _).alloc (by simp) _).trans (hb1.mono (by simp; omega)))
  have HC1 : Hid (Has w1 lo hi A xs) := Lib.hid (HC.out.on HB1.out hh)
  clear hb1
  go_wp2_with (at_builtin; refine wpList_append_has rfl _ _ rfl w1.heap.size _ [] rfl (World.ownsRow_made _ #[] 0 ?c1 (Nat.zero_le _) rfl) A c lo hi xs rfl (HC1.out.alloc _ ?c2) ?c3 ?c4 ?_)
  case c1 => exact Nat.le_refl _
  case c2 => omega
  case c3 => simp; omega
  case c4 => simp
  intro v w2 hown hgrow
  have HB2 : Hid (Below w.heap.size w w2) := Lib.hid ((HB1.out.alloc (by omega) _).grown hgrow (by simp; omega) (by intro k hk; simp [Value.ownBlock] at hk; omega))
  have HX2 : Hid (Box w2 w.heap.size s a) := Lib.hid ((HX.out.alloc _).keep (hgrow.block _ (by simp; omega) (by simp [Value.ownBlock]; omega)))
  have HY2 : Hid (Box w2 (w.heap.size + 1) ⟨#[]⟩ 0) := Lib.hid ((HY.out.alloc _).keep (hgrow.block _ (by simp; omega) (by simp [Value.ownBlock]; omega)))
  have hz2 : w1.heap.size + 1 ≤ w2.heap.size := by have := hgrow.size; simpa using this
  rcases Nat.lt_or_ge xs.length 2 with h2 | h2
  · have HE : Hid (zs = xs ∧ z = a) := Lib.hid (by have := HR.out.symm.trans (shufAll_few _ _ _ h2); simpa using this)
    obtain ⟨A', c', rfl, hcap, hhas⟩ := hown.has
    have HH := Lib.hid hhas
    obtain ⟨x0, x1, xf0, xf1⟩ := HX2.out
    obtain ⟨y0, y1, yf0, yf1⟩ := HY2.out
    clear hown hgrow hhas HK HC HX HY HB1 HC1
    go_wp2_with fail
    go_loop [8] (fun i => ∃ k : Int, k < 1 ∧ i = .int .i64 k) (fun _ => 0)
    case atStart => exact ⟨_, by omega, rfl⟩
    case round =>
      obtain ⟨k, hk, rfl⟩ := hrel
      go_wp2
      go_region
      go_wp2
      refine bodyPost_ret (v := .tuple #[.slice A' xs.length c', .agg #[.string s, .int .i64 a], .int .i64 0]) (by simp [results, Try.results28, go_sem, y0, y1]) rfl ⟨A', c', by rw [HE.out.2], hcap, ?_, ?_⟩
      · rw [HE.out.1]
        exact (((HH.out.set (p := ⟨w.heap.size + 1, 0, none⟩) (.inl (by simp; omega)) _).set (p := ⟨w.heap.size + 1, 1, none⟩) (.inl (by simp; omega)) _).drew).wide (by omega) (by simp [World.setCell, World.drew])
      · exact ((HB2.out.setCell (by simp) _).setCell (by simp) _).drew
  · rcases hown.2 with ⟨rfl, h0⟩ | ⟨b, cap, cur, rfl, hgb, _, hcap, _, _, _⟩
    · omega
    have HO := Lib.hid hown
    have hblt : b < w2.heap.size := (World.ownsRow.lt (w := w2) (v := .slice (some ⟨b, 0, none⟩) xs.length cap) hown b rfl).2
    have HD := Lib.hid (fun p m W => rdraw_any s p m W hs)
    clear hown hgrow HK HC HX HY HB1 HC1
    go_wp2_with fail
    go_loopw [8] (fun i wr => ∃ (k : Nat) (ys : List Int) (p : Nat), i = .int .i64 k ∧ k + 1 ≤ xs.length ∧ p ≤ s.size ∧ Hid (ys.length = xs.length) ∧ Hid (shuf s.data.toList k (ys, p) = (zs, z)) ∧ Hid (Row wr b ys) ∧ Hid (Box wr w.heap.size s p) ∧
      Hid (Box wr (w.heap.size + 1) ⟨#[]⟩ 0) ∧ Hid (Below w.heap.size w wr) ∧ b < wr.heap.size) (fun i _ => (intOf i).toNat)
    case atStart => exact ⟨xs.length - 1, xs, a, by go_num, by omega, ha, Lib.hid rfl, HR, Lib.hid HO.out.row, HX2, HY2, HB2, hblt⟩
    case round =>
      obtain ⟨k, ys, p, rfl, hk, hp, hyl, hsh, hrow, hx, hy, hb, hbw⟩ := hrel
      clear HO HB2 HX2 HY2
      by_cases h1 : 1 ≤ k
      · have HCall := Lib.hid (fun W => HD.out p (k + 1) W hp (by omega) (by omega))
        rw [show ((k + 1 : Nat) : Int) = (k : Int) + 1 by simp] at HCall
        have hd : drawn s.data.toList p (k + 1) < k + 1 := drawn_lt _ _ _ (by omega)
        have HSW : Hid (shuf s.data.toList (k - 1) (Pure.swap ys k (drawn s.data.toList p (k + 1)), next s.data.toList p) = (zs, z)) := by
          have := hsh.out
          obtain ⟨k', rfl⟩ : ∃ k', k = k' + 1 := ⟨k - 1, by omega⟩
          rw [shuf] at this
          exact Lib.hid this
        have HNX := Lib.hid (next_le s.data.toList p (by rw [HN.out]; exact hp))
        rw [HN.out] at HNX
        generalize drawn s.data.toList p (k + 1) = d at *
        generalize next s.data.toList p = q at *
        obtain ⟨x0, x1, xf0, xf1⟩ := hx.out
        go_wp2_with fail
        refine (HCall.out _).mono ?_
        rintro e w3 ⟨rfl, hb3⟩
        clear x0 x1 xf0 xf1
        obtain ⟨x0, x1, xf0, xf1⟩ := hx.out.on hb3
        have hz3 := hb3.size
        have hz4 : w.heap.size < w3.heap.size := by omega
        go_upto_region 9 with (fail)
        have HX4 := Lib.hid (((hx.out.on hb3).put s q).alloc (.cells #[.string s, .int .i64 q] 26))
        have HY4 := Lib.hid (((((hy.out.on hb3).far (p := ⟨w.heap.size, 0, none⟩) (by simp) (.string s)).far (p := ⟨w.heap.size, 1, none⟩) (by simp) (.int .i64 q))).alloc (.cells #[.string s, .int .i64 q] 26))
        have HR4 := Lib.hid ((((hrow.out.keep (hb3.block b hbw)).far (p := ⟨w.heap.size, 0, none⟩) (by simp; omega) (.string s)).far (p := ⟨w.heap.size, 1, none⟩) (by simp; omega) (.int .i64 q)).alloc (by simp [World.setCell]; omega) (.cells #[.string s, .int .i64 q] 26))
        have HB4 := Lib.hid ((((hb.out.trans (hb3.mono hb.out.size)).setCell (p := ⟨w.heap.size, 0, none⟩) (by simp) (.string s)).setCell (p := ⟨w.heap.size, 1, none⟩) (by simp) (.int .i64 q)).alloc (by simp [World.setCell]; omega) (.cells #[.string s, .int .i64 q] 26))
        have hb4 : b < (((w3.setCell ⟨w.heap.size, 0, none⟩ (.string s)).setCell ⟨w.heap.size, 1, none⟩ (.int .i64 q)).alloc (.cells #[.string s, .int .i64 q] 26)).heap.size := by simp [World.setCell]; omega
        generalize hW : ((w3.setCell ⟨w.heap.size, 0, none⟩ (.string s)).setCell ⟨w.heap.size, 1, none⟩ (.int .i64 q)).alloc (.cells #[.string s, .int .i64 q] 26) = w4 at *
        clear hW x0 x1 xf0 xf1 hb3 hb hy hx hrow
        obtain ⟨ck, fk⟩ := HR4.out k (by rw [hyl.out]; omega)
        obtain ⟨cd, fd⟩ := HR4.out d (by rw [hyl.out]; omega)
        have i0 : (0 : Int) ≤ (k : Int) := by omega
        have i1 : (k : Int) < (xs.length : Int) := by omega
        have j0 : (0 : Int) ≤ (d : Int) := by omega
        have j1 : (d : Int) < (xs.length : Int) := by omega
        generalize hyk : ys.getD k 0 = yk at *
        generalize hyd : ys.getD d 0 = yd at *
        have HYK := Lib.hid hyk
        have HYD := Lib.hid hyd
        clear hyk hyd
        obtain ⟨u, hu⟩ := cell?_setCell_some (w := w4) (p := ⟨b, k, none⟩) (x := .int .i64 yd) (q := ⟨b, d, none⟩) (v := .int .i64 yd) (by go_simp)
        go_wp2_with fail
        go_roundw
        case rel =>
          have HS := HR4.out.swap k d (by rw [hyl.out]; omega) (by rw [hyl.out]; omega)
          rw [HYK.out, HYD.out] at HS
          exact ⟨k - 1, _, _, by go_num, by omega, HNX.out.2.1, Lib.hid ((swap_len _ _ _).trans hyl.out), HSW, Lib.hid HS, Lib.hid ((HX4.out.far (by simp; omega) _).far (by simp; omega) _),
            Lib.hid ((HY4.out.far (by simp; omega) _).far (by simp; omega) _), Lib.hid ((HB4.out.setCell (by simp; omega) _).setCell (by simp; omega) _), by simp [World.setCell]; exact hb4⟩
        case measure => simp [intOf]; omega
      · obtain rfl : k = 0 := by omega
        have hfin := Lib.hid hsh.out
        obtain ⟨x0, x1, xf0, xf1⟩ := hx.out
        obtain ⟨y0, y1, yf0, yf1⟩ := hy.out
        have hzb := hb.out.size
        go_wp2
        go_region
        go_wp2
        have hfin' := hfin.out
        rw [shuf] at hfin'
        injection hfin' with e1 e2
        refine bodyPost_ret (v := .tuple #[.slice (some ⟨b, 0, none⟩) xs.length cap, .agg #[.string s, .int .i64 p], .int .i64 0]) (by simp [results, Try.results28, go_sem, y0, y1]) rfl ⟨_, cap, by rw [e2], hcap, ?_, ?_⟩
        · rw [← e1]
          exact (((hrow.out.has (lo := w.heap.size + 2) (by omega) hbw).set (p := ⟨w.heap.size + 1, 0, none⟩) (.inl (by simp)) _).set (p := ⟨w.heap.size + 1, 1, none⟩) (.inl (by simp)) _).drew.wide (by omega) (by simp [World.setCell, World.drew])
        · exact ((hb.out.setCell (by simp) _).setCell (by simp) _).drew

set_option maxRecDepth 100000 in
set_option maxHeartbeats 1000000 in
theorem rshuffle_bad (s : ByteArray) (a : Int) (A : Option Addr) (n c : Nat) (w : World) (ha : a < 0 ∨ (s.size : Int) < a) :
    Calls Try.prog 28 #[.agg #[.string s, .int .i64 a], .slice A n c] w fun e w' => e = .returned (.tuple #[.slice none 0 0, .agg #[.string s, .int .i64 a], .int .i64 1]) ∧ Below w.heap.size w w' := by
  have HK := Lib.hid (fun W => may_no s a W ha)
  clear ha
  go_enter Try.func28, Try.ntmps28
  go_wp2_with fail
  refine (HK.out _).mono ?_
  rintro e w1 ⟨rfl, hb1⟩
  obtain ⟨hc1, hf1⟩ := old hb1
  have hz1 : w.heap.size + 2 ≤ w1.heap.size := by have := hb1.size; simp at this; omega
  have HB1 : Hid (Below w.heap.size w w1) := Lib.hid ((((Below.refl _ _).alloc (Nat.le_refl _) _).alloc (by simp) _).trans (hb1.mono (by simp; omega)))
  clear hb1
  go_wp2_with fail
  go_region
  go_wp2
  refine bodyPost_ret (v := .tuple #[.slice none 0 0, .agg #[.string s, .int .i64 a], .int .i64 1]) (by simp [results, Try.results28, go_sem, hc1]) rfl ⟨rfl, ?_⟩
  exact ((HB1.out.setCell (by simp) _).setCell (by simp) _).drew

set_option maxRecDepth 100000 in
set_option maxHeartbeats 1000000 in
theorem rshuffle_full (s : ByteArray) (a : Nat) (A : Option Addr) (n c : Nat) (w : World) (ha : a ≤ s.size) (hn : 256 < n) :
    Calls Try.prog 28 #[.agg #[.string s, .int .i64 a], .slice A n c] w fun e w' => e = .returned (.tuple #[.slice none 0 0, .agg #[.string s, .int .i64 a], .int .i64 1]) ∧ Below w.heap.size w w' := by
  have HK := Lib.hid (fun W => may_yes s a W ha)
  go_enter Try.func28, Try.ntmps28
  go_wp2_with fail
  refine (HK.out _).mono ?_
  rintro e w1 ⟨rfl, hb1⟩
  obtain ⟨hc1, hf1⟩ := old hb1
  have hz1 : w.heap.size + 2 ≤ w1.heap.size := by have := hb1.size; simp at this; omega
  have HB1 : Hid (Below w.heap.size w w1) := Lib.hid ((((Below.refl _ _).alloc (Nat.le_refl _) _).alloc (by simp) _).trans (hb1.mono (by simp; omega)))
  clear hb1
  go_wp2_with fail
  go_region
  go_wp2
  refine bodyPost_ret (v := .tuple #[.slice none 0 0, .agg #[.string s, .int .i64 a], .int .i64 1]) (by simp [results, Try.results28, go_sem, hc1]) rfl ⟨rfl, ?_⟩
  exact ((HB1.out.setCell (by simp) _).setCell (by simp) _).drew
end Go.Proofs.Ytphcmjhphoacgaa
