/-
  The walks of the document's May, Apply, Merge, Up, Others and Behind.
-/
import Derived.Test.YtjeepmdklbfgeaaDoorBase
namespace Go.Proofs.YtjeepmdklbfgeaaDoor
open Go.Sort Go.RowKit Go.Proofs.YtjeepmdklbfgeaaDoor.Pure

set_option maxRecDepth 100000 in
set_option maxHeartbeats 2000000 in
theorem rmayT_any (A : Option Addr) (c : Nat) (l : List Kn) (w : World) (hn : l.length ≤ 1000) (h : Lst w A l) (L : Bool) (hL : mayT l = L) :
    Calls Tryd.prog 31 #[.slice A l.length c] w fun e w' => e = .returned (.bool L) ∧ Below w.heap.size w w' := by
  have H := Lib.hid h
  have HL : Hid (L = true ↔ 1 ≤ l.length ∧ l.length ≤ 64 ∧ ∀ j, j < l.length → mayK (kn l j) = true) := Lib.hid (by rw [← hL, mayT_iff, mayL_iff])
  clear h hL
  go_enter Tryd.func31, Tryd.ntmps31
  go_wp2_with fail
  go_loopw [3] (fun i wr => ∃ k : Nat, i = .int .i64 k ∧ k ≤ l.length ∧ Hid (∀ j, j < k → mayK (kn l j) = true) ∧ Hid (Below w.heap.size w wr)) (fun i _ => l.length - (intOf i).toNat)
  case atStart => exact ⟨0, rfl, Nat.zero_le _, Lib.hid (fun j hj => absurd hj (Nat.not_lt_zero j)), Lib.hid (Below.refl _ _)⟩
  case round =>
    obtain ⟨k, rfl, hk, hok, hb⟩ := hrel
    by_cases hlt : k < l.length
    · obtain ⟨ad, rfl, hlo, h1⟩ := (H.out.on hb.out) k hlt
      obtain ⟨a0, a1⟩ := h1.flat
      have k0 : (0 : Int) ≤ (k : Int) := by omega
      have k1 : (k : Int) < (l.length : Int) := by omega
      have HM := Lib.hid (fun W => rmay_any (kn l k) W)
      have hsz := Lib.hid hb.out.size
      have HS : Hid (mayK (kn l k) = true → ∀ j, j < k + 1 → mayK (kn l j) = true) := Lib.hid (fun h j hj => by
        rcases Nat.lt_or_ge j k with hjk | hjk
        · exact hok.out j hjk
        · obtain rfl : j = k := by omega
          exact h)
      have HF : Hid (mayK (kn l k) = false → L = false) := Lib.hid (fun h => by
        rcases L with _ | _
        · rfl
        · have := (HL.out.1 rfl).2.2 k hlt
          rw [h] at this; cases this)
      generalize mayK (kn l k) = M at *
      generalize kn l k = x at *
      clear h1 hok
      go_wp2_with fail
      refine (HM.out _).mono ?_
      rintro e w1 ⟨rfl, hb1⟩
      have HB1 : Hid (Below w.heap.size w w1) := Lib.hid (hb.out.trans (hb1.mono hsz.out))
      clear hb1 a0 a1
      rcases M with _ | _
      · obtain rfl := HF.out rfl
        go_wp2_with fail
        go_ret
        exact ⟨rfl, HB1.out⟩
      · have HS' := Lib.hid (HS.out rfl)
        clear HS HF
        go_wp2_with fail
        go_roundw
        case rel => exact ⟨k + 1, by go_num, by omega, HS', HB1⟩
        case measure => simp [intOf]; omega
    · have hk' : k = l.length := by omega
      have e0 : decide ((k : Int) < (l.length : Int)) = false := by simp; omega
      have HE : Hid (L = (decide ((1 : Int) ≤ (l.length : Int)) && decide ((l.length : Int) ≤ 64))) := Lib.hid (by
        rw [Bool.eq_iff_iff, HL.out]
        simp only [Bool.and_eq_true, decide_eq_true_eq]
        constructor
        · intro h; omega
        · intro h; exact ⟨by omega, by omega, fun j hj => hok.out j (by omega)⟩)
      clear hok HL
      rcases e1 : decide ((1 : Int) ≤ (l.length : Int)) with _ | _
      · rw [e1] at HE
        obtain rfl := HE.out
        clear HE
        go_wp2_with fail
        go_ret
        exact ⟨rfl, hb.out⟩
      · rw [e1] at HE
        go_wp2_with fail
        go_ret
        exact ⟨ret_bool (by rw [HE.out]; rfl), hb.out⟩

end Go.Proofs.YtjeepmdklbfgeaaDoor
