/-
  The walks of Far and Near.
-/
import Derived.Test.YtmbapcdchaamfaaFar
namespace Go.Proofs.Ytmbapcdchaamfaa
open Go.Sort Go.RowKit Go.Proofs.Ytmbapcdchaamfaa.Pure

/-- Clocks are near of k beats, and of no more. -/
def IsFar (n : Nat) (l : List Bt) (d r : Int) (k : Nat) : Prop := k ≤ l.length ∧ nearB n l d r k = true ∧ (k = l.length ∨ nearB n l d r (k + 1) = false)
theorem IsFar.near {n : Nat} {l : List Bt} {d r : Int} {k : Nat} (h : IsFar n l d r k) : nearB n l d r l.length = true ↔ k = l.length := by
  obtain ⟨h1, h2, h3⟩ := h
  constructor
  · intro hn
    rcases h3 with h3 | h3
    · exact h3
    · rcases Nat.lt_or_ge k l.length with hl | hl
      · rw [nearB_less (show k + 1 ≤ l.length by omega) hn] at h3; cases h3
      · omega
  · rintro rfl
    exact h2

set_option maxRecDepth 100000 in
set_option maxHeartbeats 1000000 in
theorem far_may (A : Option Addr) (c : Nat) (n d r : Int) (l : List Bt) (w : World) (hn : l.length ≤ 1000) (h : Lst w A l) (hm : mayB n l = false) :
    Calls Try.prog 12 #[.int .i64 n, .slice A l.length c, .int .i64 d, .int .i64 r] w fun e w' => e = .returned (.tuple #[.int .i64 0, .int .i64 1]) ∧ Below w.heap.size w w' := by
  have HC := Lib.hid (check_any A c n l w hn h false hm)
  have hz : okE false = 1 := rfl
  rw [hz] at HC
  clear h hm hz
  go_enter Try.func12, Try.ntmps12
  go_wp2_with fail
  refine HC.out.mono ?_
  rintro e w1 ⟨rfl, hb1⟩
  have HB1 := Lib.hid hb1
  clear hb1 HC
  go_wp2_with fail
  go_ret2
  exact ⟨rfl, HB1.out⟩

set_option maxRecDepth 100000 in
set_option maxHeartbeats 1000000 in
theorem far_bound (A : Option Addr) (c : Nat) (n d r : Int) (l : List Bt) (w : World) (hn : l.length ≤ 1000) (h : Lst w A l) (hm : mayB n l = true) (hb : bound d r = false) :
    Calls Try.prog 12 #[.int .i64 n, .slice A l.length c, .int .i64 d, .int .i64 r] w fun e w' => e = .returned (.tuple #[.int .i64 0, .int .i64 1]) ∧ Below w.heap.size w w' := by
  have HC := Lib.hid (check_any A c n l w hn h true hm)
  have hz : okE true = 0 := rfl
  rw [hz] at HC
  have HD := Lib.hid (fun W => differ_any d r W)
  rw [hb] at HD
  clear h hm hz hb
  go_enter Try.func12, Try.ntmps12
  go_wp2_with fail
  refine HC.out.mono ?_
  rintro e w1 ⟨rfl, hb1⟩
  have HB1 := Lib.hid hb1
  clear hb1 HC
  go_wp2_with fail
  refine (HD.out _).mono ?_
  rintro e w2 ⟨rfl, rfl⟩
  go_wp2_with fail
  go_ret2
  exact ⟨rfl, HB1.out⟩

set_option maxRecDepth 100000 in
set_option maxHeartbeats 2000000 in
theorem far_yes (A : Option Addr) (c n : Nat) (d r : Int) (l : List Bt) (w : World) (h : Lst w A l) (hm : mayB n l = true) (hb : bound d r = true) :
    Calls Try.prog 12 #[.int .i64 n, .slice A l.length c, .int .i64 d, .int .i64 r] w fun e w' => ∃ k : Nat, e = .returned (.tuple #[.int .i64 k, .int .i64 0]) ∧ IsFar n l d r k ∧ Below w.heap.size w w' := by
  obtain ⟨hn1, hn2, hl, hk⟩ := (mayB_iff n l).1 hm
  have HC := Lib.hid (check_any A c n l w (by omega) h true hm)
  have hz : okE true = 0 := rfl
  rw [hz] at HC
  have HD := Lib.hid (fun W => differ_any d r W)
  rw [hb] at HD
  have hbd : 0 ≤ d ∧ d ≤ 1099511627776 ∧ 1 ≤ r ∧ r ≤ 1099511627776 := by unfold bound at hb; simpa using hb
  have HCO := Lib.hid (fun (W : World) (hW : Below w.heap.size w W) => counted_any A c n l W hl (by omega) (by omega) hk (h.on hW))
  have HST := Lib.hid (fun (B g cap q : Nat) (W : World) (hq : q ≤ l.length) (hg : Grid W B n l (q + 1) g cap) => strays_any B g cap n q l d r W (by omega) (by omega) (fun j hj => hk j (by omega)) hg ⟨hbd.1, hbd.2.1⟩ ⟨hbd.2.2.1, hbd.2.2.2⟩ _ rfl)
  have HZ0 : Hid (allFT n l d r 0 = true) := Lib.hid ((near_allFT n l d r 0).1 (near_zero n l d r hbd.1) 0 (Nat.le_refl _))
  have HNA := Lib.hid (fun k => near_allFT n l d r k)
  clear h hm hz hk hb hbd
  go_enter Try.func12, Try.ntmps12
  go_wp2_with fail
  refine HC.out.mono ?_
  rintro e w1 ⟨rfl, hb1⟩
  have HB1 := Lib.hid hb1
  clear hb1 HC
  go_wp2_with fail
  refine (HD.out _).mono ?_
  rintro e w2 ⟨rfl, rfl⟩
  have HC1 := Lib.hid (HCO.out w1 HB1.out)
  clear HCO HD
  go_wp2_with fail
  refine HC1.out.mono ?_
  rintro e w3 ⟨g, cap, rfl, hg, hb3⟩
  have HG := Lib.hid hg
  have HB3 : Hid (Below w.heap.size w w3) := Lib.hid (HB1.out.trans (hb3.mono HB1.out.size))
  have hcap := hg.cap.1
  have hcm : cap ≤ 9223372036854775807 := by have := hg.cap.2; unfold maxLen at this; omega
  clear hg hb3 HC1
  go_wp2_with fail
  go_loopw [28] (fun i wr => ∃ q : Nat, i = .int .i64 q ∧ q ≤ l.length + 1 ∧ Hid (∀ x, x < q → allFT n l d r x = true) ∧ Hid (Below w3.heap.size w3 wr)) (fun i _ => l.length + 1 - (intOf i).toNat)
  case atStart => exact ⟨0, by go_num, Nat.zero_le _, Lib.hid (fun x hx => absurd hx (Nat.not_lt_zero x)), Lib.hid (Below.refl _ _)⟩
  case round =>
    obtain ⟨q, rfl, hq, hok, hb⟩ := hrel
    by_cases hlt : q ≤ l.length
    · have HS := Lib.hid (HST.out w1.heap.size g cap q wr hlt ((HG.out.on hb.out).less (by omega)))
      have hlt' : decide ((q : Int) < (l.length : Int) + 1) = true := by simp; omega
      rcases hall : allFT n l d r q with _ | _
      · rw [hall] at HS
        have hq1 : 1 ≤ q := by
          rcases Nat.eq_zero_or_pos q with h | h
          · subst h; rw [HZ0.out] at hall; cases hall
          · exact h
        obtain ⟨q', rfl⟩ : ∃ q', q = q' + 1 := ⟨q - 1, by omega⟩
        have HF : Hid (IsFar n l d r q') := Lib.hid ⟨by omega, (HNA.out q').2 fun x hx => hok.out x (by omega), .inr (by
          rcases hh : nearB n l d r (q' + 1) with _ | _
          · rfl
          · rw [(HNA.out (q' + 1)).1 hh (q' + 1) (Nat.le_refl _)] at hall; cases hall)⟩
        clear hall
        go_wp2_with fail
        refine HS.out.mono ?_
        rintro e w4 ⟨rfl, hb4⟩
        have HB4 : Hid (Below w.heap.size w w4) := Lib.hid (HB3.out.trans ((hb.out.trans (hb4.mono hb.out.size)).mono HB3.out.size))
        clear hb4
        go_wp2_with fail
        go_ret2
        exact ⟨q', by go_num, HF.out, HB4.out⟩
      · rw [hall] at HS
        have HOK' : Hid (∀ x, x < q + 1 → allFT n l d r x = true) := Lib.hid (fun x hx => by
          rcases Nat.lt_or_ge x q with h | h
          · exact hok.out x h
          · obtain rfl : x = q := by omega
            exact hall)
        clear hall
        go_wp2_with fail
        refine HS.out.mono ?_
        rintro e w4 ⟨rfl, hb4⟩
        have HB4 : Hid (Below w3.heap.size w3 w4) := Lib.hid (hb.out.trans (hb4.mono hb.out.size))
        clear hb4
        go_wp2_with fail
        go_roundw
        case rel => exact ⟨q + 1, by go_num, by omega, HOK', HB4⟩
        case measure => simp [intOf]; omega
    · have hlt' : decide ((q : Int) < (l.length : Int) + 1) = false := by simp; omega
      have HF : Hid (IsFar n l d r l.length) := Lib.hid ⟨Nat.le_refl _, (HNA.out _).2 fun x hx => hok.out x (by omega), .inl rfl⟩
      go_wp2_with fail
      go_ret2
      exact ⟨l.length, rfl, HF.out, HB3.out.trans (hb.out.mono HB3.out.size)⟩

set_option maxRecDepth 100000 in
set_option maxHeartbeats 1000000 in
theorem near_bad (A : Option Addr) (c : Nat) (n d r : Int) (l : List Bt) (w : World) (hn : l.length ≤ 1000) (h : Lst w A l) (hm : mayB n l = false ∨ bound d r = false) :
    Calls Try.prog 11 #[.int .i64 n, .slice A l.length c, .int .i64 d, .int .i64 r] w fun e w' => e = .returned (.tuple #[.bool false, .int .i64 1]) ∧ Below w.heap.size w w' := by
  have HC : Hid (Calls Try.prog 12 #[.int .i64 n, .slice A l.length c, .int .i64 d, .int .i64 r] w fun e w' => e = .returned (.tuple #[.int .i64 0, .int .i64 1]) ∧ Below w.heap.size w w') := Lib.hid (by
    rcases hmm : mayB n l with _ | _
    · exact far_may A c n d r l w hn h hmm
    · rcases hm with hm | hm
      · rw [hmm] at hm; cases hm
      · exact far_bound A c n d r l w hn h hmm hm)
  clear h hm
  go_enter Try.func11, Try.ntmps11
  go_wp2_with fail
  refine HC.out.mono ?_
  rintro e w1 ⟨rfl, hb1⟩
  have HB1 := Lib.hid hb1
  clear hb1 HC
  go_wp2_with fail
  go_ret2
  exact ⟨rfl, HB1.out⟩

set_option maxRecDepth 100000 in
set_option maxHeartbeats 1000000 in
theorem near_yes (A : Option Addr) (c n : Nat) (d r : Int) (l : List Bt) (w : World) (h : Lst w A l) (hm : mayB n l = true) (hb : bound d r = true) (L : Bool) (hL : nearB n l d r l.length = L) :
    Calls Try.prog 11 #[.int .i64 n, .slice A l.length c, .int .i64 d, .int .i64 r] w fun e w' => e = .returned (.tuple #[.bool L, .int .i64 0]) ∧ Below w.heap.size w w' := by
  have HC := Lib.hid (far_yes A c n d r l w h hm hb)
  have hl : l.length ≤ 400 := ((mayB_iff n l).1 hm).2.2.1
  have HL := Lib.hid hL
  clear h hm hb hL
  go_enter Try.func11, Try.ntmps11
  go_wp2_with fail
  refine HC.out.mono ?_
  rintro e w1 ⟨k, rfl, hf, hb1⟩
  have HB1 := Lib.hid hb1
  have HK : Hid (((k : Int) == (l.length : Int)) = L) := Lib.hid (by
    rw [Bool.eq_iff_iff, ← HL.out, hf.near, beq_iff_eq]
    exact ⟨fun h => by omega, fun h => by omega⟩)
  have hkl := hf.1
  clear hb1 HC hf HL
  go_wp2_with fail
  go_ret2
  exact ⟨by rw [← HK.out]; rfl, HB1.out⟩
end Go.Proofs.Ytmbapcdchaamfaa
