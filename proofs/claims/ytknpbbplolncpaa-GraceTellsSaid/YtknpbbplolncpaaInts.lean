/-
  The walks over numbers in a slice: do they rise; where one is put; a copy; one put in.
-/
import Derived.Test.YtknpbbplolncpaaApp
namespace Go.Proofs.Ytknpbbplolncpaa
open Go.Sort Go.RowKit Go.Proofs.Ytknpbbplolncpaa.Pure

set_option maxRecDepth 100000 in
set_option maxHeartbeats 2000000 in
theorem rising_any (A : Option Addr) (c lo hi : Nat) (xs : List Int) (w : World) (hn : xs.length ≤ 100000) (h : Has w lo hi A xs) (L : Bool) (hL : riseB xs = L) :
    Calls Try.prog 29 #[.slice A xs.length c] w fun e w' => e = .returned (.bool L) ∧ w = w' := by
  have H := Lib.hid h
  have HL : Hid (Rise xs xs.length ↔ L = true) := Lib.hid (by rw [← riseB_iff, hL])
  have HND := Lib.hid (fun x => node_any x w)
  clear h hL
  go_enter Try.func29, Try.ntmps29
  go_wp2_with fail
  go_loop [7] (fun i => ∃ k : Nat, k ≤ xs.length ∧ i = .int .i64 k ∧ Hid (Rise xs k)) (fun i => xs.length - (intOf i).toNat)
  case atStart => exact ⟨0, Nat.zero_le _, rfl, Lib.hid (fun j hj => absurd hj (Nat.not_lt_zero j))⟩
  case round =>
    obtain ⟨k, hk, rfl, hok⟩ := hrel
    by_cases hlt : k < xs.length
    · obtain ⟨ad, rfl, hlo, hhi, hc⟩ := H.out k hlt
      have HF : Hid (¬(0 ≤ xs.getD k 0 ∧ xs.getD k 0 < 64 ∧ (0 < k → xs.getD (k - 1) 0 < xs.getD k 0)) → L = false) := Lib.hid (fun hne => by
        rcases L with _ | _
        · rfl
        · exact absurd (HL.out.2 rfl k hlt) hne)
      have HT : Hid ((0 ≤ xs.getD k 0 ∧ xs.getD k 0 < 64 ∧ (0 < k → xs.getD (k - 1) 0 < xs.getD k 0)) → Rise xs (k + 1)) := Lib.hid (fun he j hj => by
        rcases Nat.lt_or_ge j k with hjk | hjk
        · exact hok.out j hjk
        · obtain rfl : j = k := by omega
          exact he)
      have k0 : (0 : Int) ≤ (k : Int) := by omega
      have k1 : (k : Int) < (xs.length : Int) := by omega
      have HNy := Lib.hid (HND.out (xs.getD k 0))
      have HNB := Lib.hid (nodeB_iff (xs.getD k 0))
      rcases hM : nodeB (xs.getD k 0) with _ | _
      · rw [hM] at HNy HNB
        obtain rfl := HF.out (fun h => absurd (HNB.out.2 ⟨h.1, h.2.1⟩) (by simp))
        generalize xs.getD k 0 = y at *
        clear hok HF HT hM HNB
        go_wp2_with (go_at_call 32; refine HNy.out.mono ?_; rintro e w' ⟨rfl, rfl⟩)
        go_ret
        exact ⟨rfl, rfl⟩
      · rw [hM] at HNy HNB
        have hnb := HNB.out.1 rfl
        rcases Nat.eq_zero_or_pos k with hk0 | hk0
        · have HT' := Lib.hid (HT.out ⟨hnb.1, hnb.2, fun h => absurd h (by omega)⟩)
          have q0 : decide ((0 : Int) < (k : Int)) = false := by simp; omega
          have q0' : ¬0 < k := by omega
          generalize xs.getD k 0 = y at *
          clear hok HF HT hM HNB hnb hk0
          go_wp2_with (go_at_call 32; refine HNy.out.mono ?_; rintro e w' ⟨rfl, rfl⟩)
          go_round
          case rel => exact ⟨k + 1, by omega, by go_num, HT'⟩
          case measure => simp [intOf]; omega
        · obtain ⟨m, rfl⟩ : ∃ m, k = m + 1 := ⟨k - 1, by omega⟩
          clear hk0
          obtain ⟨ad', e, _, _, hc'⟩ := H.out m (by omega)
          obtain rfl := Option.some.inj e
          simp only [Nat.add_sub_cancel] at HF HT
          obtain ⟨q, hq⟩ : ∃ q, q = m + 1 := ⟨_, rfl⟩
          rw [← hq] at hc k0 k1 HF HT HNy HNB hnb hM ⊢
          have m0 : (0 : Int) ≤ (m : Int) := by omega
          have m1 : (m : Int) < (xs.length : Int) := by omega
          have q0 : decide ((0 : Int) < (q : Int)) = true := by simp; omega
          have q0' : 0 < q := by omega
          have i4 : IntKind.i64.wrap ((q : Int) - 1) = (m : Int) := by rw [show (q : Int) - 1 = (m : Int) by omega]; exact IntWalk.i64_in _ (by omega)
          have hql : q ≤ xs.length := by omega
          have HQ := Lib.hid hq
          generalize xs.getD q 0 = y at *
          generalize xs.getD m 0 = x at *
          by_cases hxy : y ≤ x
          · have e1 : decide (y ≤ x) = true := by simpa using hxy
            obtain rfl := HF.out (fun h => by have := h.2.2 (by omega); omega)
            clear hok HF HT hM HNB hnb hq hlt
            go_wp2_with (go_at_call 32; refine HNy.out.mono ?_; rintro e w' ⟨rfl, rfl⟩)
            go_ret
            exact ⟨rfl, rfl⟩
          · have e1 : decide (y ≤ x) = false := by simpa using hxy
            have HT' := Lib.hid (HT.out ⟨hnb.1, hnb.2, fun _ => by omega⟩)
            clear hok HF HT hM HNB hnb hq
            go_wp2_with (go_at_call 32; refine HNy.out.mono ?_; rintro e w' ⟨rfl, rfl⟩)
            go_round
            case rel => exact ⟨q + 1, by omega, by go_num, HT'⟩
            case measure => simp [intOf]; omega
    · obtain rfl : k = xs.length := by omega
      obtain rfl : L = true := HL.out.1 hok.out
      go_wp2
      go_ret
      exact ⟨rfl, rfl⟩

set_option maxRecDepth 100000 in
set_option maxHeartbeats 2000000 in
theorem bsearch_any (A : Option Addr) (c lo hi : Nat) (xs : List Int) (n : Int) (w : World) (hn : xs.length ≤ 1000) (hr : Rise xs xs.length) (h : Has w lo hi A xs) :
    Calls Try.prog 50 #[.slice A xs.length c, .int .i64 n] w fun e w' => e = .returned (.tuple #[.int .i64 ((posN xs n : Nat) : Int), .bool (hitN xs n)]) ∧ w = w' := by
  have H := Lib.hid h
  have HN := Lib.hid hn
  have HP : Hid (posN xs n ≤ xs.length ∧ (∀ j, j < posN xs n → xs.getD j 0 < n) ∧ ∀ j, posN xs n ≤ j → j < xs.length → n ≤ xs.getD j 0) := Lib.hid ⟨posN_le _ _, posN_lt _ _, posN_ge hr _⟩
  have HT : Hid (hitN xs n = (decide (posN xs n < xs.length) && decide (xs.getD (posN xs n) 0 = n))) := Lib.hid rfl
  generalize hitN xs n = T at *
  generalize posN xs n = p at *
  clear h hr
  have HLE := Lib.hid (fun y => less_any y n w)
  have HNA := Lib.hid (fun y => nanS y w)
  go_enter Try.func50, Try.ntmps50
  go_wp2_with fail
  go_loop [7, 8] (fun i j => ∃ a b : Nat, i = .int .i64 a ∧ j = .int .i64 b ∧ Hid (a ≤ p ∧ p ≤ b ∧ b ≤ xs.length)) (fun i j => (intOf j).toNat - (intOf i).toNat)
  case atStart => exact ⟨0, xs.length, rfl, rfl, Lib.hid ⟨Nat.zero_le _, HP.out.1, Nat.le_refl _⟩⟩
  case round =>
    obtain ⟨a, b, rfl, rfl, hab⟩ := hrel
    have hab' := hab.out
    have hn' := HN.out
    by_cases hlt : a < b
    · have e0 : decide ((a : Int) < (b : Int)) = true := by simpa using hlt
      have e0' : decide (a < b) = true := by simpa using hlt
      obtain ⟨m, hm⟩ : ∃ m : Nat, m = (a + b) / 2 := ⟨_, rfl⟩
      have hm1 : a ≤ m ∧ m < b := by omega
      have hm2 : ((a : Int) + (b : Int)) / 2 = (m : Int) := by omega
      have r1 : IntKind.i64.wrap ((a : Int) + (b : Int)) = (a : Int) + (b : Int) := by rw [IntWalk.i64_in _ (by omega)]
      obtain ⟨ad, rfl, _, _, h1⟩ := H.out m (by omega)
      have HL := Lib.hid (HLE.out (xs.getD m 0))
      have HS1 : Hid (xs.getD m 0 < n → m + 1 ≤ p) := Lib.hid (fun hlt => by
        rcases Nat.lt_or_ge m p with h | h
        · omega
        · have := HP.out.2.2 m h (by omega); omega)
      have HS2 : Hid (¬xs.getD m 0 < n → p ≤ m) := Lib.hid (fun hlt => by
        rcases Nat.lt_or_ge m p with h | h
        · exact absurd (HP.out.2.1 m h) hlt
        · exact h)
      generalize xs.getD m 0 = y at *
      have m0 : (0 : Int) ≤ (m : Int) := by omega
      have m1 : (m : Int) < (xs.length : Int) := by omega
      have HM := Lib.hid hm1
      have HM2 : Hid (wrap64 (IntKind.u64.wrap ((a : Int) + (b : Int)) / 2) = (m : Int)) := Lib.hid (by
        have r2 : IntKind.u64.wrap ((a : Int) + (b : Int)) = (a : Int) + (b : Int) := by simp [IntKind.wrap, IntKind.bits, IntKind.signed]; omega
        rw [r2, hm2]
        unfold wrap64
        omega)
      clear hm hm1 hab' hn' hlt hm2
      go_upto_region 5 with (fail)
      rw [HM2.out]
      by_cases hc : y < n
      · have e1 : decide (y < n) = true := by simpa using hc
        have HG : Hid (m + 1 ≤ p ∧ p ≤ b ∧ b ≤ xs.length) := Lib.hid ⟨HS1.out hc, hab.out.2.1, hab.out.2.2⟩
        rw [e1] at HL
        clear hc HS1 HS2
        go_wp2_with (go_at_call 53; refine HL.out.mono ?_; rintro e w' ⟨rfl, rfl⟩)
        go_round
        case rel => exact ⟨m + 1, b, by go_num, rfl, HG⟩
        case measure => have := HM.out; simp [intOf]; omega
      · have e1 : decide (y < n) = false := by simpa using hc
        have HG : Hid (a ≤ p ∧ p ≤ m ∧ m ≤ xs.length) := Lib.hid ⟨hab.out.1, HS2.out hc, by omega⟩
        rw [e1] at HL
        clear hc HS1 HS2
        go_wp2_with (go_at_call 53; refine HL.out.mono ?_; rintro e w' ⟨rfl, rfl⟩)
        go_round
        case rel => exact ⟨a, m, rfl, rfl, HG⟩
        case measure => have := HM.out; simp [intOf]; omega
    · obtain rfl : a = p := by omega
      have e0 : decide ((a : Int) < (b : Int)) = false := by simp; omega
      have e0' : decide (a < b) = false := by simp; omega
      clear hab' hn' hlt hab
      by_cases hp : a < xs.length
      · have e2 : decide ((a : Int) < (xs.length : Int)) = true := by simpa using hp
        have e2' : decide (a < xs.length) = true := by simpa using hp
        have m0 : (0 : Int) ≤ (a : Int) := by omega
        have m1 : (a : Int) < (xs.length : Int) := by omega
        obtain ⟨ad, rfl, _, _, h1⟩ := H.out a hp
        have HNy := Lib.hid (HNA.out (xs.getD a 0))
        have HNn := Lib.hid (HNA.out n)
        have HTT : Hid (T = (xs.getD a 0 == n)) := Lib.hid (by rw [HT.out, e2', Bool.true_and, Bool.eq_iff_iff, decide_eq_true_iff, beq_iff_eq])
        generalize xs.getD a 0 = y at *
        clear HT HP
        rcases hyn : (y == n) with _ | _
        · rw [hyn] at HTT
          obtain rfl := HTT.out
          go_wp2_with (go_at_call 54; first | (refine HNy.out.mono ?_; rintro e w' ⟨rfl, rfl⟩) | (refine HNn.out.mono ?_; rintro e w' ⟨rfl, rfl⟩))
          exact bodyPost_ret (v := .tuple #[.int .i64 ((a : Nat) : Int), .bool false]) (by simp [results, Try.results50, go_sem]) rfl ⟨rfl, rfl⟩
        · rw [hyn] at HTT
          obtain rfl := HTT.out
          go_wp2_with (go_at_call 54; first | (refine HNy.out.mono ?_; rintro e w' ⟨rfl, rfl⟩) | (refine HNn.out.mono ?_; rintro e w' ⟨rfl, rfl⟩))
          exact bodyPost_ret (v := .tuple #[.int .i64 ((a : Nat) : Int), .bool true]) (by simp [results, Try.results50, go_sem]) rfl ⟨rfl, rfl⟩
      · have e2 : decide ((a : Int) < (xs.length : Int)) = false := by simp; omega
        have e2' : decide (a < xs.length) = false := by simp; omega
        have en : ¬a < xs.length := hp
        have HTT : Hid (T = false) := Lib.hid (by rw [HT.out, e2']; rfl)
        clear HT HP hp
        obtain rfl := HTT.out
        go_wp2_with fail
        exact bodyPost_ret (v := .tuple #[.int .i64 ((a : Nat) : Int), .bool false]) (by simp [results, Try.results50, go_sem]) rfl ⟨rfl, rfl⟩

set_option maxRecDepth 100000 in
set_option maxHeartbeats 1000000 in
theorem cloneN_any (A : Option Addr) (c lo hi : Nat) (xs : List Int) (w : World) (hn : xs.length ≤ 1000) (hc : Has w lo hi A xs) (hh : hi ≤ w.heap.size) :
    Calls Try.prog 48 #[.slice A xs.length c] w fun e w' => ∃ v, e = .returned v ∧ OwnN w' w.heap.size v xs ∧ Below w.heap.size w w' := by
  have q : ∀ (w : World) (a : Option Addr) (n c n' c' : Nat), (binOp .eql 53 (.slice a n c) (.slice none n' c')).run Try.prog w = .ok (.bool a.isNone) w := fun w a n c n' c' => Lib.run_eql_slice_nil w _ _ a n c n' c' Try.underlying53
  rcases A with _ | ad
  · obtain rfl := hc.none_nil
    clear hc
    go_enter Try.func48, Try.ntmps48
    go_wp2
    go_ret
    exact ⟨_, rfl, OwnN.nil _ _, Below.refl _ _⟩
  · have HA := Lib.hid (fun ty => appN_own (w.alloc (.cells #[] 3)) ty w.heap.size (.slice (some ⟨w.heap.size, 0, none⟩) 0 0) [] (World.ownsRow_made w #[] 0 (Nat.le_refl _) (Nat.zero_le _) rfl) _ (some ad) c xs ((hc.alloc (.cells #[] 3) hh).ns (by simp; omega)) (by simp; omega) (by simp))
    clear hc
    go_enter Try.func48, Try.ntmps48
    obtain ⟨v', w', h1, h2, h3, _⟩ := HA.out 53
    have HO := Lib.hid h2
    have HB : Hid (Below w.heap.size w w') := Lib.hid (((Below.refl _ w).alloc (Nat.le_refl _) _).grown h3 (by simp) (by intro k hk; simp [Value.ownBlock] at hk; omega))
    clear h2 h3 HA
    go_wp2_with (at_builtin; refine wpList_app rfl 53 _ _ rfl _ _ rfl rfl h1 ?_)
    go_ret
    exact ⟨v', rfl, by simpa using HO.out, HB.out⟩
end Go.Proofs.Ytknpbbplolncpaa
