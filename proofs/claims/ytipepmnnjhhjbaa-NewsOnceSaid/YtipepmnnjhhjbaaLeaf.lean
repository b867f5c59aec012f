/-
  The walks of Check and Beats of what is known, of the document's May and Beats.
-/
import Derived.Test.YtipepmnnjhhjbaaCmp
import Derived.Test.YtipepmnnjhhjbaaLast
namespace Go.Proofs.Ytipepmnnjhhjbaa
open Go.Sort Go.RowKit Go.Proofs.Ytipepmnnjhhjbaa.Pure

set_option maxRecDepth 100000 in
set_option maxHeartbeats 1000000 in
theorem rmay_any (x : Kn) (w : World) : Calls Try.prog 37 #[.agg #[.int .u64 x.i, .int .i64 x.s]] w fun e w' => e = .returned (.bool (mayK x)) ∧ Below w.heap.size w w' := by
  have HB : Hid (Below w.heap.size w (w.alloc (.cells #[.int .u64 x.i, .int .i64 x.s] 25))) := Lib.hid ((Below.refl _ _).alloc (Nat.le_refl _) _)
  have hm : mayK x = (decide (0 ≤ x.s) && decide (x.s ≤ 3)) := rfl
  rw [hm]
  generalize x.s = s at *
  generalize x.i = i at *
  clear hm
  go_enter Try.func37, Try.ntmps37
  by_cases h0 : 0 ≤ s
  · have e0 : decide (0 ≤ s) = true := by simpa using h0
    go_wp2
    go_ret
    exact ⟨by simp [h0], HB.out⟩
  · have e0 : decide (0 ≤ s) = false := by simpa using h0
    go_wp2
    go_ret
    exact ⟨by simp, HB.out⟩

set_option maxRecDepth 100000 in
set_option maxHeartbeats 1000000 in
theorem check_any (A : Option Addr) (c : Nat) (l : List Kn) (w : World) (hn : l.length ≤ 1000) (h : Lst w A l) (L : Bool) (hL : mayL l = L) :
    Calls Try.prog 40 #[.slice A l.length c] w fun e w' => e = .returned (.int .i64 (okE L)) ∧ Below w.heap.size w w' := by
  have H := Lib.hid h
  have HL : Hid (L = true ↔ ∀ j, j < l.length → mayK (kn l j) = true) := Lib.hid (by rw [← hL]; exact mayL_iff l)
  clear h hL
  have ho : okE true = 0 := rfl
  have hz : okE false = 1 := rfl
  go_enter Try.func40, Try.ntmps40
  go_wp2_with fail
  go_loopw [7] (fun i wr => ∃ k : Nat, i = .int .i64 k ∧ k ≤ l.length ∧ Hid (∀ j, j < k → mayK (kn l j) = true) ∧ Hid (Below w.heap.size w wr)) (fun i _ => l.length - (intOf i).toNat)
  case atStart => exact ⟨0, rfl, Nat.zero_le _, Lib.hid (fun j hj => absurd hj (Nat.not_lt_zero j)), Lib.hid (Below.refl _ _)⟩
  case round =>
    obtain ⟨k, rfl, hk, hok, hb⟩ := hrel
    by_cases hlt : k < l.length
    · obtain ⟨ad, rfl, hlo, h1⟩ := (H.out.on hb.out) k hlt
      obtain ⟨a0, a1⟩ := h1.flat
      have HM := Lib.hid (mayK_iff (kn l k))
      have HS : Hid (mayK (kn l k) = true → ∀ j, j < k + 1 → mayK (kn l j) = true) := Lib.hid (fun h j hj => by
        rcases Nat.lt_or_ge j k with hjk | hjk
        · exact hok.out j hjk
        · obtain rfl : j = k := by omega
          exact h)
      have HF : Hid (mayK (kn l k) = false → L = false) := Lib.hid (fun h => by
        rcases L with _ | _
        · rfl
        · have := HL.out.1 rfl k hlt
          rw [h] at this; cases this)
      have k0 : (0 : Int) ≤ (k : Int) := by omega
      have k1 : (k : Int) < (l.length : Int) := by omega
      have e0 : decide ((k : Int) < (l.length : Int)) = true := by simpa using k1
      have hsz := hb.out.size
      have HB1 : Hid (Below w.heap.size w (wr.alloc (.cells #[.int .u64 (kn l k).i, .int .i64 (kn l k).s] 25))) := Lib.hid (hb.out.alloc hsz _)
      generalize hM : mayK (kn l k) = M at *
      generalize (kn l k).s = s at *
      generalize (kn l k).i = i at *
      clear h1 hM
      by_cases b1 : s < 0
      · have d1 : decide (s < 0) = true := by simpa using b1
        have hM : M = false := by
          rcases M with _ | _
          · rfl
          · have := HM.out.1 rfl; omega
        obtain rfl := HF.out hM
        clear b1 hM
        go_wp2_with fail
        go_ret
        exact ⟨rfl, HB1.out⟩
      have d1 : decide (s < 0) = false := by simpa using b1
      by_cases b2 : 3 < s
      · have d2 : decide (3 < s) = true := by simpa using b2
        have hM : M = false := by
          rcases M with _ | _
          · rfl
          · have := HM.out.1 rfl; omega
        obtain rfl := HF.out hM
        clear b1 b2 hM
        go_wp2_with fail
        go_ret
        exact ⟨rfl, HB1.out⟩
      have d2 : decide (3 < s) = false := by simpa using b2
      have HS' := Lib.hid (HS.out (HM.out.2 ⟨by omega, by omega⟩))
      clear b1 b2 HS HF HM
      go_wp2_with fail
      go_roundw
      case rel => exact ⟨k + 1, by go_num, by omega, HS', HB1⟩
      case measure => simp [intOf]; omega
    · have hk' : k = l.length := by omega
      have hLt : L = true := HL.out.2 fun i hi => hok.out i (by omega)
      subst hLt
      have e0 : decide ((k : Int) < (l.length : Int)) = false := by simp; omega
      clear hk'
      go_wp2_with fail
      go_ret
      exact ⟨rfl, hb.out⟩

set_option maxRecDepth 100000 in
set_option maxHeartbeats 1000000 in
theorem beats_any (x y : Kn) (w : World) : Calls Try.prog 31 #[.agg #[.int .u64 x.i, .int .i64 x.s], .agg #[.int .u64 y.i, .int .i64 y.s]] w fun e w' => e = .returned (.bool (beatsB x y)) ∧ Below w.heap.size w w' := by
  have HL : Hid (mayL [x, y] = (mayK x && mayK y)) := Lib.hid (by simp [mayL])
  have HM := Lib.hid (over_math x y)
  have HBT : Hid (beatsB x y = (mayL [x, y] && over x y)) := Lib.hid (by rw [HL.out]; rfl)
  have HCK : Hid (∀ (W : World) (g : Nat), Lst W (some ⟨g, 0, none⟩) [x, y] → Calls Try.prog 40 #[.slice (some ⟨g, 0, none⟩) 2 2] W fun e w' => e = .returned (.int .i64 (okE (mayL [x, y]))) ∧ Below W.heap.size W w') :=
    Lib.hid fun W g h => check_any (some ⟨g, 0, none⟩) 2 [x, y] W (Nat.le_of_ble_eq_true rfl) h _ rfl
  have H2 := Lib.hid (fun W => Lst.two W x y 25)
  have HO : Hid (∀ (c0 c1 : Int) (W : World), Calls Try.prog 44 #[.slice (some ⟨W.heap.size, 0, none⟩) 2 2] (W.alloc (.cells #[.int .i64 c0, .int .i64 c1] 3)).drew
      fun e w' => e = .returned (.int .i64 (firstN [c0, c1])) ∧ (W.alloc (.cells #[.int .i64 c0, .int .i64 c1] 3)).drew = w') := Lib.hid fun c0 c1 W =>
    or_any ⟨W.heap.size, 0, none⟩ [c0, c1] 2 _ (Nat.le_of_ble_eq_true rfl) (two_new W c0 c1 _)
  have H0 := Lib.hid (fun W => cmpU x.i y.i W)
  have H1 := Lib.hid (fun W => cmpInt x.s y.s W)
  have ho : okE true = 0 := rfl
  have hz : okE false = 1 := rfl
  rw [HBT.out]
  clear HBT HL
  generalize over x y = V at *
  generalize mayL [x, y] = L at *
  generalize cmpI x.i y.i = c0 at *
  generalize cmpI x.s y.s = c1 at *
  go_enter Try.func31, Try.ntmps31
  go_upto_region 1 with (fail)
  have HB : Hid (Below w.heap.size w ((w.alloc (.cells #[.int .u64 x.i, .int .i64 x.s] 25)).alloc (.cells #[.int .u64 y.i, .int .i64 y.s] 25))) := Lib.hid (((Below.refl _ _).alloc (Nat.le_refl _) _).alloc (by simp) _)
  have BX : Hid (Bx ((w.alloc (.cells #[.int .u64 x.i, .int .i64 x.s] 25)).alloc (.cells #[.int .u64 y.i, .int .i64 y.s] 25)) w.heap.size x) := Lib.hid ((Bx.new w x _).on ((Below.refl _ _).alloc (Nat.le_refl _) _))
  have BY : Hid (Bx ((w.alloc (.cells #[.int .u64 x.i, .int .i64 x.s] 25)).alloc (.cells #[.int .u64 y.i, .int .i64 y.s] 25)) (w.heap.size + 1) y) := Lib.hid (by have := Bx.new (w.alloc (.cells #[.int .u64 x.i, .int .i64 x.s] 25)) y 25; simpa using this)
  generalize (w.alloc (.cells #[.int .u64 x.i, .int .i64 x.s] 25)).alloc (.cells #[.int .u64 y.i, .int .i64 y.s] 25) = w2 at *
  have hz2 : w.heap.size + 1 < w2.heap.size := BY.out.lt
  obtain ⟨u0, u1⟩ := BX.out
  obtain ⟨v0, v1⟩ := BY.out
  go_wp2_with fail
  refine (HCK.out _ _ (H2.out _)).mono ?_
  rintro e w3 ⟨rfl, hb3⟩
  have HB3' : Hid (Below w2.heap.size w2 w3) := Lib.hid (((Below.refl _ _).alloc (Nat.le_refl _) _).trans (hb3.mono (by simp)))
  have HB3 : Hid (Below w.heap.size w w3) := Lib.hid (HB.out.trans (HB3'.out.mono (by omega)))
  have BX3 := Lib.hid (BX.out.on HB3'.out)
  have BY3 := Lib.hid (BY.out.on HB3'.out)
  clear u0 u1 v0 v1 hb3 BX BY HCK H2
  obtain ⟨u0, u1⟩ := BX3.out
  obtain ⟨v0, v1⟩ := BY3.out
  have hz3 : w.heap.size + 1 < w3.heap.size := BY3.out.lt
  rcases L with _ | _
  · rw [hz]
    go_wp2_with fail
    go_ret
    exact ⟨rfl, HB3.out⟩
  · rw [ho]
    go_upto_region 3 with (fail)
    go_region_held3 (fun w' => w'.cell? ⟨w.heap.size, 0, none⟩ = some (.int .u64 x.i) ∧ w'.cell? ⟨w.heap.size, 1, none⟩ = some (.int .i64 x.s) ∧ w'.cell? ⟨w.heap.size + 1, 0, none⟩ = some (.int .u64 y.i) ∧ w'.cell? ⟨w.heap.size + 1, 1, none⟩ = some (.int .i64 y.s)) (go_keep)
      (first | (go_at_call 45; refine (H0.out _).mono ?_; rintro e w' ⟨rfl, rfl⟩) | (go_at_call 41; refine (H1.out _).mono ?_; rintro e w' ⟨rfl, rfl⟩) | (go_at_call 44; refine (HO.out _ _ _).mono ?_; rintro e w' ⟨rfl, rfl⟩))
    generalize hF : firstN _ = F at *
    go_wp2
    go_ret
    exact ⟨ret_bool (by subst hF; exact HM.out), ((HB3.out.alloc (by omega) _).drew)⟩
end Go.Proofs.Ytipepmnnjhhjbaa
