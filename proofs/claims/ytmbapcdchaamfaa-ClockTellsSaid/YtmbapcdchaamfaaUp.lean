/-
  The walks of the document's Up and Ticks.
-/
import Derived.Test.YtmbapcdchaamfaaLeaf
namespace Go.Proofs.Ytmbapcdchaamfaa
open Go.Sort Go.RowKit Go.Proofs.Ytmbapcdchaamfaa.Pure

set_option maxRecDepth 100000 in
set_option maxHeartbeats 1000000 in
theorem up_any (A : Option Addr) (c : Nat) (l : List Bt) (v : Int) (p : Nat) (w : World) (hn : l.length ≤ 1000) (h : Lst w A l) (hp : p ≤ l.length) :
    Calls Try.prog 27 #[.slice A l.length c, .int .i64 v, .int .i64 p] w fun e w' => e = .returned (.bool (upAt l v p)) ∧ w = w' := by
  have H := Lib.hid h
  clear h
  go_enter Try.func27, Try.ntmps27
  go_wp2_with fail
  go_loopw [7, 8] (fun u i wr => ∃ k : Nat, u = .bool (upAt l v k) ∧ i = .int .i64 k ∧ k ≤ p ∧ w = wr) (fun _ i _ => p - (intOf i).toNat)
  case atStart => exact ⟨0, rfl, by go_num, Nat.zero_le _, rfl⟩
  case round =>
    obtain ⟨k, rfl, rfl, hk, rfl⟩ := hrel
    by_cases hlt : k < p
    · obtain ⟨ad, rfl, hlo, h1⟩ := H.out k (by omega)
      obtain ⟨a0, a1⟩ := h1.flat
      have HU : Hid (upAt l v (k + 1) = if (bt l k).n = v ∧ (bt l k).k ≠ 0 then (bt l k).k == 2 else upAt l v k) := Lib.hid rfl
      generalize upAt l v k = u0 at *
      generalize bt l k = x at *
      obtain ⟨xn, xk⟩ := x
      simp only at a0 a1
      have k0 : (0 : Int) ≤ (k : Int) := by omega
      have k1 : (k : Int) < (l.length : Int) := by omega
      have hlt' : decide ((k : Int) < (p : Int)) = true := by simp; omega
      clear h1
      by_cases h0 : xn = v
      · subst h0
        by_cases h2 : xk = 0
        · subst h2
          go_wp2_with fail
          go_roundw
          case rel => exact ⟨k + 1, by rw [HU.out]; simp, by go_num, by omega, by trivial⟩
          case measure => simp [intOf]; omega
        · have e2 : (xk == 0) = false := by simpa using h2
          go_wp2_with fail
          go_roundw
          case rel => exact ⟨k + 1, by rw [HU.out]; simp [h2], by go_num, by omega, by trivial⟩
          case measure => simp [intOf]; omega
      · have e0 : (xn == v) = false := by simpa using h0
        go_wp2_with fail
        go_roundw
        case rel => exact ⟨k + 1, by rw [HU.out]; simp [h0], by go_num, by omega, by trivial⟩
        case measure => simp [intOf]; omega
    · obtain rfl : k = p := by omega
      go_wp2_with fail
      go_ret
      exact ⟨rfl, rfl⟩

set_option maxRecDepth 100000 in
set_option maxHeartbeats 1000000 in
theorem rticks_any (A : Option Addr) (c : Nat) (l : List Bt) (v : Int) (p q : Nat) (w : World) (hn : l.length ≤ 1000) (h : Lst w A l) (hp : p ≤ q) (hq : q ≤ l.length) (B : Bool) (n : Int) (hB : (upAt l v p && quiet l v p q) = B) (hN : B = true → n = (num l v p q : Int)) :
    Calls Try.prog 16 #[.slice A l.length c, .int .i64 v, .int .i64 p, .int .i64 q] w fun e w' => e = .returned (.tuple #[.int .i64 (if B then n else 0), .bool B]) ∧ w = w' := by
  have H := Lib.hid h
  have HB := Lib.hid hB
  have HN := Lib.hid hN
  have HC := Lib.hid (up_any A c l v p w hn h (by omega))
  clear h hB hN
  generalize hu : upAt l v p = u0 at *
  clear hu
  go_enter Try.func16, Try.ntmps16
  go_wp2_with fail
  refine HC.out.mono ?_
  rintro e w1 ⟨rfl, rfl⟩
  rcases u0 with _ | _
  · have hb : B = false := by rw [← HB.out]; rfl
    subst hb
    go_wp2_with fail
    go_ret2
    exact ⟨rfl, rfl⟩
  · have HQ : Hid (quiet l v p q = B) := Lib.hid (by rw [← HB.out]; rfl)
    go_wp2_with fail
    go_loopw [10, 11] (fun s i wr => ∃ k : Nat, s = .int .i64 (num l v p k : Int) ∧ i = .int .i64 k ∧ p ≤ k ∧ k ≤ q ∧ Hid (quiet l v p k = true) ∧ w = wr) (fun _ i _ => q - (intOf i).toNat)
    case atStart => exact ⟨p, by rw [num_before l v p p (Nat.le_refl _)]; rfl, rfl, Nat.le_refl _, hp, Lib.hid (quiet_before l v p p (Nat.le_refl _)), rfl⟩
    case round =>
      obtain ⟨k, rfl, rfl, hpk, hk, hqk, rfl⟩ := hrel
      by_cases hlt : k < q
      · obtain ⟨ad, rfl, hlo, h1⟩ := H.out k (by omega)
        obtain ⟨a0, a1⟩ := h1.flat
        have HU : Hid (num l v p (k + 1) = num l v p k + if p ≤ k ∧ (bt l k).n = v then 1 else 0) := Lib.hid rfl
        have HV : Hid (quiet l v p (k + 1) = (quiet l v p k && !(decide (p ≤ k) && decide ((bt l k).n = v) && decide ((bt l k).k ≠ 0)))) := Lib.hid rfl
        have hnl := num_le l v p k
        generalize num l v p k = m at *
        generalize bt l k = x at *
        obtain ⟨xn, xk⟩ := x
        simp only at a0 a1
        have k0 : (0 : Int) ≤ (k : Int) := by omega
        have k1 : (k : Int) < (l.length : Int) := by omega
        have hlt' : decide ((k : Int) < (q : Int)) = true := by simp; omega
        clear h1
        by_cases h0 : xn = v
        · subst h0
          by_cases h2 : xk = 0
          · subst h2
            go_wp2_with fail
            go_roundw
            case rel => exact ⟨k + 1, by rw [HU.out]; simp [hpk], by go_num, by omega, by omega, Lib.hid (by rw [HV.out, hqk.out]; simp), by trivial⟩
            case measure => simp [intOf]; omega
          · have e2 : (xk == 0) = false := by simpa using h2
            have hb : B = false := by
              rcases hb : B with _ | _
              · rfl
              · have hh : ∀ j, quiet l xn p (k + 1 + j) = false := by
                  intro j
                  induction j with
                  | zero => rw [Nat.add_zero, HV.out]; simp [hpk, h2]
                  | succ j ih => show (quiet l xn p (k + 1 + j) && _) = false; rw [ih]; rfl
                have := hh (q - (k + 1))
                rw [show k + 1 + (q - (k + 1)) = q by omega, HQ.out, hb] at this
                cases this
            subst hb
            go_wp2_with fail
            go_ret2
            exact ⟨rfl, rfl⟩
        · have e0 : (xn == v) = false := by simpa using h0
          go_wp2_with fail
          go_roundw
          case rel => exact ⟨k + 1, by rw [HU.out]; simp [h0], by go_num, by omega, by omega, Lib.hid (by rw [HV.out, hqk.out]; simp [h0]), by trivial⟩
          case measure => simp [intOf]; omega
      · obtain rfl : k = q := by omega
        have hb : B = true := by rw [← HQ.out]; exact hqk.out
        subst hb
        have hn' := HN.out rfl
        subst hn'
        go_wp2_with fail
        go_ret2
        exact ⟨rfl, rfl⟩
end Go.Proofs.Ytmbapcdchaamfaa
