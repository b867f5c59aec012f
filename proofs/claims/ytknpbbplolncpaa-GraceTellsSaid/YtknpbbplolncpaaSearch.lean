/-
  The walk of the library's BinarySearchFunc over doubts, by whom.
-/
import Derived.Test.YtknpbbplolncpaaCheck
namespace Go.Proofs.Ytknpbbplolncpaa
open Go.Sort Go.RowKit Go.Proofs.Ytknpbbplolncpaa.Pure

set_option maxRecDepth 100000 in
set_option maxHeartbeats 1000000 in
theorem who_any (x : Db) (who : Int) (w : World) : Calls Try.prog 34 #[.agg #[.int .i64 x.w, .int .u64 x.i, .int .i64 x.t, .slice x.A x.b.length x.c], .int .i64 who] w fun e w' => e = .returned (.int .i64 (cmpI x.w who)) ∧ Below w.heap.size w w' := by
  have HC := Lib.hid (fun W => cmpInt x.w who W)
  have HB : Hid (Below w.heap.size w (w.alloc (.cells #[.int .i64 x.w, .int .u64 x.i, .int .i64 x.t, .slice x.A x.b.length x.c] 55))) := Lib.hid ((Below.refl _ w).alloc (Nat.le_refl _) _)
  generalize cmpI x.w who = r at *
  go_enter Try.func34, Try.ntmps34
  go_wp2_with (go_at_call 35; refine (HC.out _).mono ?_; rintro e w' ⟨rfl, rfl⟩)
  go_ret
  exact ⟨rfl, HB.out⟩

set_option maxRecDepth 100000 in
set_option maxHeartbeats 2000000 in
theorem search_any (A : Option Addr) (c hi : Nat) (q : List Db) (n : Int) (w : World) (hn : q.length ≤ 1000) (hr : riseB (whos (q.map Db.ct)) = true) (h : Ds w hi A q) (hh : hi ≤ w.heap.size) :
    Calls Try.prog 33 #[.slice A q.length c, .int .i64 n, .func (.func 34) #[] #[]] w fun e w' => e = .returned (.tuple #[.int .i64 ((posN (whos (q.map Db.ct)) n : Nat) : Int), .bool (hitN (whos (q.map Db.ct)) n)]) ∧ Below w.heap.size w w' := by
  have H := Lib.hid h
  have HH := Lib.hid hh
  have HN := Lib.hid hn
  have hwl : (whos (q.map Db.ct)).length = q.length := by rw [whos_len, List.length_map]
  have hat : ∀ j, j < q.length → (whos (q.map Db.ct)).getD j 0 = (db q j).w := fun j hj => by rw [whos_at _ (by rw [List.length_map]; exact hj), ct_at]; rfl
  have HP : Hid (posN (whos (q.map Db.ct)) n ≤ q.length ∧ (∀ j, j < posN (whos (q.map Db.ct)) n → (db q j).w < n) ∧ ∀ j, posN (whos (q.map Db.ct)) n ≤ j → j < q.length → n ≤ (db q j).w) := Lib.hid ⟨by have := posN_le (whos (q.map Db.ct)) n; omega, fun j hj => by
      have h1 := posN_le (whos (q.map Db.ct)) n
      rw [← hat j (by omega)]
      exact posN_lt _ _ j hj, fun j hj hl => by
      rw [← hat j hl]
      exact posN_ge ((riseB_iff _).1 hr) n j hj (by omega)⟩
  have HT : Hid (hitN (whos (q.map Db.ct)) n = (decide (posN (whos (q.map Db.ct)) n < q.length) && decide ((db q (posN (whos (q.map Db.ct)) n)).w = n))) := Lib.hid (by
    unfold hitN
    rw [hwl]
    by_cases hp : posN (whos (q.map Db.ct)) n < q.length
    · rw [hat _ hp]
    · have : decide (posN (whos (q.map Db.ct)) n < q.length) = false := by simpa using hp
      rw [this, Bool.false_and, Bool.false_and])
  generalize hitN (whos (q.map Db.ct)) n = T at *
  generalize posN (whos (q.map Db.ct)) n = p at *
  clear h hr hwl hat hh
  go_enter Try.func33, Try.ntmps33
  go_wp2_with fail
  go_loopw [9, 10] (fun i j wr => ∃ a b : Nat, i = .int .i64 a ∧ j = .int .i64 b ∧ Hid (a ≤ p ∧ p ≤ b ∧ b ≤ q.length) ∧ Hid (Below w.heap.size w wr)) (fun i j _ => (intOf j).toNat - (intOf i).toNat)
  case atStart => exact ⟨0, q.length, rfl, rfl, Lib.hid ⟨Nat.zero_le _, HP.out.1, Nat.le_refl _⟩, Lib.hid (Below.refl _ _)⟩
  case round =>
    obtain ⟨wq, ewq⟩ : ∃ wq, wq = wr := ⟨_, rfl⟩
    subst ewq
    obtain ⟨a, b, rfl, rfl, hab, HBr⟩ := hrel
    have hab' := hab.out
    have hn' := HN.out
    by_cases hlt : a < b
    · have e0 : decide ((a : Int) < (b : Int)) = true := by simpa using hlt
      have e0' : decide (a < b) = true := by simpa using hlt
      obtain ⟨m, hm⟩ : ∃ m : Nat, m = (a + b) / 2 := ⟨_, rfl⟩
      have hm1 : a ≤ m ∧ m < b := by omega
      have hm2 : ((a : Int) + (b : Int)) / 2 = (m : Int) := by omega
      have r1 : IntKind.i64.wrap ((a : Int) + (b : Int)) = (a : Int) + (b : Int) := by rw [IntWalk.i64_in _ (by omega)]
      obtain ⟨ad, rfl, hlo, h1, _⟩ := (H.out.on HBr.out HH.out) m (by omega)
      obtain ⟨a0, a1, a2, a3⟩ := h1.flat
      have HC := Lib.hid (who_any (db q m) n wq)
      have HL := Lib.hid (cmp_cases (db q m).w n)
      have HS1 : Hid ((db q m).w < n → m + 1 ≤ p) := Lib.hid (fun hlt => by
        rcases Nat.lt_or_ge m p with h | h
        · omega
        · have := HP.out.2.2 m h (by omega); omega)
      have HS2 : Hid (¬(db q m).w < n → p ≤ m) := Lib.hid (fun hlt => by
        rcases Nat.lt_or_ge m p with h | h
        · exact absurd (HP.out.2.1 m h) hlt
        · exact h)
      generalize db q m = y at *
      generalize cmpI y.w n = cf at *
      have m0 : (0 : Int) ≤ (m : Int) := by omega
      have m1 : (m : Int) < (q.length : Int) := by omega
      have hmq : m < q.length := by omega
      have HM := Lib.hid hm1
      have HM2 : Hid (wrap64 (IntKind.u64.wrap ((a : Int) + (b : Int)) / 2) = (m : Int)) := Lib.hid (by
        have r2 : IntKind.u64.wrap ((a : Int) + (b : Int)) = (a : Int) + (b : Int) := by simp [IntKind.wrap, IntKind.bits, IntKind.signed]; omega
        rw [r2, hm2]
        unfold wrap64
        omega)
      clear h1 hm hm1 hab' hn' hlt hm2
      go_upto_region 5 with (fail)
      rw [HM2.out]
      by_cases hc : y.w < n
      · have e1' : cf < 0 := by have := HL.out; omega
        have e1 : decide (cf < 0) = true := by simpa using e1'
        have HG : Hid (m + 1 ≤ p ∧ p ≤ b ∧ b ≤ q.length) := Lib.hid ⟨HS1.out hc, hab.out.2.1, hab.out.2.2⟩
        clear hc HL HS1 HS2
        go_wp2_with fail
        refine HC.out.mono ?_
        rintro e w3 ⟨rfl, hb3⟩
        have HB3 : Hid (Below w.heap.size w w3) := Lib.hid (HBr.out.trans (hb3.mono HBr.out.size))
        clear hb3 a0 a1 a2 a3 HC HBr
        go_wp2_with fail
        go_roundw
        case rel => exact ⟨m + 1, b, by go_num, rfl, HG, HB3⟩
        case measure => have := HM.out; simp [intOf]; omega
      · have e1' : ¬cf < 0 := by have := HL.out; omega
        have e1 : decide (cf < 0) = false := by simpa using e1'
        have HG : Hid (a ≤ p ∧ p ≤ m ∧ m ≤ q.length) := Lib.hid ⟨hab.out.1, HS2.out hc, by omega⟩
        clear hc HL HS1 HS2
        go_wp2_with fail
        refine HC.out.mono ?_
        rintro e w3 ⟨rfl, hb3⟩
        have HB3 : Hid (Below w.heap.size w w3) := Lib.hid (HBr.out.trans (hb3.mono HBr.out.size))
        clear hb3 a0 a1 a2 a3 HC HBr
        go_wp2_with fail
        go_roundw
        case rel => exact ⟨a, m, rfl, rfl, HG, HB3⟩
        case measure => have := HM.out; simp [intOf]; omega
    · obtain rfl : a = p := by omega
      have e0 : decide ((a : Int) < (b : Int)) = false := by simp; omega
      have e0' : decide (a < b) = false := by simp; omega
      clear hab' hn' hlt hab
      by_cases hp : a < q.length
      · have e2 : decide ((a : Int) < (q.length : Int)) = true := by simpa using hp
        have e2' : decide (a < q.length) = true := by simpa using hp
        have m0 : (0 : Int) ≤ (a : Int) := by omega
        have m1 : (a : Int) < (q.length : Int) := by omega
        obtain ⟨ad, rfl, hlo, h1, _⟩ := (H.out.on HBr.out HH.out) a hp
        obtain ⟨a0, a1, a2, a3⟩ := h1.flat
        have HC := Lib.hid (who_any (db q a) n wq)
        have HTT : Hid (T = (cmpI (db q a).w n == 0)) := Lib.hid (by
          have := cmp_cases (db q a).w n
          rw [HT.out, e2', Bool.true_and, Bool.eq_iff_iff, decide_eq_true_iff, beq_iff_eq]
          omega)
        generalize db q a = y at *
        generalize cmpI y.w n = cf at *
        clear h1 HT HP
        go_wp2_with fail
        refine HC.out.mono ?_
        rintro e w3 ⟨rfl, hb3⟩
        have HB3 : Hid (Below w.heap.size w w3) := Lib.hid (HBr.out.trans (hb3.mono HBr.out.size))
        clear hb3 a0 a1 a2 a3 HC HBr
        go_wp2_with fail
        refine bodyPost_ret (v := .tuple #[.int .i64 ((a : Nat) : Int), .bool (cf == 0)]) (by simp [results, Try.results33, go_sem]) rfl ⟨?_, HB3.out⟩
        rw [HTT.out]
      · have e2 : decide ((a : Int) < (q.length : Int)) = false := by simp; omega
        have e2' : decide (a < q.length) = false := by simp; omega
        have en : ¬a < q.length := hp
        have HTT : Hid (T = false) := Lib.hid (by rw [HT.out, e2']; rfl)
        clear HT HP hp
        go_wp2_with fail
        refine bodyPost_ret (v := .tuple #[.int .i64 ((a : Nat) : Int), .bool false]) (by simp [results, Try.results33, go_sem]) rfl ⟨?_, HBr.out⟩
        rw [HTT.out]
end Go.Proofs.Ytknpbbplolncpaa
