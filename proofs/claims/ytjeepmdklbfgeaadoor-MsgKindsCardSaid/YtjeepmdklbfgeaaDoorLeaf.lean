/-
  The walks of know.Check, and of the document's May.
-/
import Derived.Test.YtjeepmdklbfgeaaDoorLast
namespace Go.Proofs.YtjeepmdklbfgeaaDoor
open Go.Sort Go.RowKit Go.Proofs.YtjeepmdklbfgeaaDoor.Pure

set_option maxRecDepth 100000 in
set_option maxHeartbeats 1000000 in
theorem rmay_any (x : Kn) (w : World) : Calls Tryd.prog 30 #[.agg #[.int .u64 x.i, .int .i64 x.s]] w fun e w' => e = .returned (.bool (mayK x)) ∧ Below w.heap.size w w' := by
  have HB : Hid (Below w.heap.size w (w.alloc (.cells #[.int .u64 x.i, .int .i64 x.s] 24))) := Lib.hid ((Below.refl _ _).alloc (Nat.le_refl _) _)
  have hm : mayK x = (decide (0 ≤ x.s) && decide (x.s ≤ 3)) := rfl
  rw [hm]
  generalize x.s = s at *
  generalize x.i = i at *
  clear hm
  go_enter Tryd.func30, Tryd.ntmps30
  by_cases h0 : 0 ≤ s
  · have e0 : decide (0 ≤ s) = true := by simpa using h0
    go_wp2
    go_ret
    exact ⟨by simp [h0], HB.out⟩
  · have e0 : decide (0 ≤ s) = false := by simpa using h0
    go_wp2
    go_ret
    exact ⟨by simp, HB.out⟩

set_option maxRecDepth 100000 in
set_option maxHeartbeats 1000000 in
theorem check_any (A : Option Addr) (c : Nat) (l : List Kn) (w : World) (hn : l.length ≤ 1000) (h : Lst w A l) (L : Bool) (hL : mayL l = L) :
    Calls Tryd.prog 62 #[.slice A l.length c] w fun e w' => e = .returned (.int .i64 (okE L)) ∧ Below w.heap.size w w' := by
  have H := Lib.hid h
  have HL : Hid (L = true ↔ ∀ j, j < l.length → mayK (kn l j) = true) := Lib.hid (by rw [← hL]; exact mayL_iff l)
  clear h hL
  have ho : okE true = 0 := rfl
  have hz : okE false = 1 := rfl
  go_enter Tryd.func62, Tryd.ntmps62
  go_wp2_with fail
  go_loopw [7] (fun i wr => ∃ k : Nat, i = .int .i64 k ∧ k ≤ l.length ∧ Hid (∀ j, j < k → mayK (kn l j) = true) ∧ Hid (Below w.heap.size w wr)) (fun i _ => l.length - (intOf i).toNat)
  case atStart => exact ⟨0, rfl, Nat.zero_le _, Lib.hid (fun j hj => absurd hj (Nat.not_lt_zero j)), Lib.hid (Below.refl _ _)⟩
  case round =>
    obtain ⟨k, rfl, hk, hok, hb⟩ := hrel
    by_cases hlt : k < l.length
    · obtain ⟨ad, rfl, hlo, h1⟩ := (H.out.on hb.out) k hlt
      obtain ⟨a0, a1⟩ := h1.flat
      have HM := Lib.hid (mayK_iff (kn l k))
      have HS : Hid (mayK (kn l k) = true → ∀ j, j < k + 1 → mayK (kn l j) = true) := Lib.hid (fun h j hj => by
        rcases Nat.lt_or_ge j k with hjk | hjk
        · exact hok.out j hjk
        · obtain rfl : j = k := by omega
          exact h)
      have HF : Hid (mayK (kn l k) = false → L = false) := Lib.hid (fun h => by
        rcases L with _ | _
        · rfl
        · have := HL.out.1 rfl k hlt
          rw [h] at this; cases this)
      have k0 : (0 : Int) ≤ (k : Int) := by omega
      have k1 : (k : Int) < (l.length : Int) := by omega
      have e0 : decide ((k : Int) < (l.length : Int)) = true := by simpa using k1
      have hsz := hb.out.size
      have HB1 : Hid (Below w.heap.size w (wr.alloc (.cells #[.int .u64 (kn l k).i, .int .i64 (kn l k).s] 24))) := Lib.hid (hb.out.alloc hsz _)
      generalize hM : mayK (kn l k) = M at *
      generalize (kn l k).s = s at *
      generalize (kn l k).i = i at *
      clear h1 hM
      by_cases b1 : s < 0
      · have d1 : decide (s < 0) = true := by simpa using b1
        have hM : M = false := by
          rcases M with _ | _
          · rfl
          · have := HM.out.1 rfl; omega
        obtain rfl := HF.out hM
        clear b1 hM
        go_wp2_with fail
        go_ret
        exact ⟨rfl, HB1.out⟩
      have d1 : decide (s < 0) = false := by simpa using b1
      by_cases b2 : 3 < s
      · have d2 : decide (3 < s) = true := by simpa using b2
        have hM : M = false := by
          rcases M with _ | _
          · rfl
          · have := HM.out.1 rfl; omega
        obtain rfl := HF.out hM
        clear b1 b2 hM
        go_wp2_with fail
        go_ret
        exact ⟨rfl, HB1.out⟩
      have d2 : decide (3 < s) = false := by simpa using b2
      have HS' := Lib.hid (HS.out (HM.out.2 ⟨by omega, by omega⟩))
      clear b1 b2 HS HF HM
      go_wp2_with fail
      go_roundw
      case rel => exact ⟨k + 1, by go_num, by omega, HS', HB1⟩
      case measure => simp [intOf]; omega
    · have hk' : k = l.length := by omega
      have hLt : L = true := HL.out.2 fun i hi => hok.out i (by omega)
      subst hLt
      have e0 : decide ((k : Int) < (l.length : Int)) = false := by simp; omega
      clear hk'
      go_wp2_with fail
      go_ret
      exact ⟨rfl, hb.out⟩

end Go.Proofs.YtjeepmdklbfgeaaDoor
