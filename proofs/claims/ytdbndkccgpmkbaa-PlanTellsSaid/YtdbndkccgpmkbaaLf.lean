/-
  The small functions: where, may, Compare, the two orders, the first text that is not empty.
-/
import Derived.Test.YtdbndkccgpmkbaaMr
import Derived.Lib.Bytealg
namespace Go.Proofs.Ytdbndkccgpmkbaa
open Go.Sort Go.RowKit Go.Proofs.Ytdbndkccgpmkbaa.Pure

theorem mt_is (t : ByteArray) : t.toList.isEmpty = decide (t = ⟨#[]⟩) := by
  rw [← eq_is, show (⟨#[]⟩ : ByteArray).toList = [] by rw [Lib.toList_data]]
  cases t.toList <;> rfl
/-- Where what is put is. -/
def whP (p : Pu) : Int := if p.t = ⟨#[]⟩ then -1 else p.n
set_option maxRecDepth 100000 in
set_option maxHeartbeats 400000 in
theorem where_any (p : Pu) (w : World) : Calls Try.prog 27 #[.agg #[.string p.t, .int .i64 p.n]] w fun e w' => e = .returned (.int .i64 (whP p)) ∧ Below w.heap.size w w' := by
  obtain ⟨t, n⟩ := p
  unfold whP
  simp only
  have HB := Lib.hid ((Below.refl w.heap.size w).alloc (Nat.le_refl _) (.cells #[.string t, .int .i64 n] 53))
  have hq := mt_is t
  by_cases ht : t = ⟨#[]⟩
  · rw [if_pos ht]
    rw [decide_eq_true ht] at hq
    clear ht
    go_enter Try.func27, Try.ntmps27
    go_wp2_with fail
    go_ret
    exact ⟨rfl, HB.out⟩
  · rw [if_neg ht]
    rw [decide_eq_false ht] at hq
    clear ht
    go_enter Try.func27, Try.ntmps27
    go_wp2_with fail
    go_ret
    exact ⟨rfl, HB.out⟩

def mayB (n : Int) : Bool := decide (n = -1) || (decide (0 ≤ n) && decide (n < 64))
set_option maxRecDepth 100000 in
set_option maxHeartbeats 400000 in
theorem may_any (n : Int) (w : World) : Calls Try.prog 31 #[.int .i64 n] w fun e w' => e = .returned (.bool (mayB n)) ∧ w = w' := by
  unfold mayB
  by_cases h1 : n = -1
  · subst h1
    go_enter Try.func31, Try.ntmps31
    go_wp2_with fail
    go_ret
    exact ⟨rfl, rfl⟩
  · have d1 : decide (n = -1) = false := decide_eq_false h1
    have b1 : (n == -1) = false := by simpa using h1
    by_cases h2 : 0 ≤ n
    · have d2 : decide (0 ≤ n) = true := decide_eq_true h2
      by_cases h3 : n < 64
      · have d3 : decide (n < 64) = true := decide_eq_true h3
        rw [d1, d2, d3]
        clear d1
        go_enter Try.func31, Try.ntmps31
        go_wp2_with fail
        go_ret
        exact ⟨rfl, rfl⟩
      · have d3 : decide (n < 64) = false := decide_eq_false h3
        rw [d1, d2, d3]
        clear d1
        go_enter Try.func31, Try.ntmps31
        go_wp2_with fail
        go_ret
        exact ⟨rfl, rfl⟩
    · have d2 : decide (0 ≤ n) = false := decide_eq_false h2
      rw [d1, d2]
      clear d1
      go_enter Try.func31, Try.ntmps31
      go_wp2_with fail
      go_ret
      exact ⟨rfl, rfl⟩

/-- Which of two texts comes first. -/
def cmpS (a b : ByteArray) : Int := Lib.compareBytes a.data.toList b.data.toList
theorem cmpL_is : ∀ a b : List UInt8, Lib.compareBytes a b = if a < b then -1 else if b < a then 1 else 0
  | [], [] => by simp [Lib.compareBytes]
  | [], _ :: _ => by simp [Lib.compareBytes]
  | _ :: _, [] => by simp [Lib.compareBytes]
  | a :: ar, b :: bs => by
    unfold Lib.compareBytes
    rw [cmpL_is ar bs]
    simp only [List.cons_lt_cons_iff]
    by_cases h1 : a < b
    · simp [h1]
    · by_cases h2 : b < a
      · have : ¬ a = b := fun e => by subst e; exact h1 h2
        simp [h1, h2, this]
      · have : a = b := UInt8.le_antisymm (UInt8.not_lt.1 h2) (UInt8.not_lt.1 h1)
        subst this
        simp [h1]
theorem cmpS_is (a b : ByteArray) : cmpS a b = if ltS a b then -1 else if ltS b a then 1 else 0 := by
  unfold cmpS ltS
  rw [cmpL_is]
  simp
set_option maxRecDepth 100000 in
set_option maxHeartbeats 400000 in
theorem compareString_any (a b : ByteArray) (w : World) : Calls Try.prog 38 #[.string a, .string b] w fun e w' => e = .returned (.int .i64 (cmpS a b)) ∧ w = w' := by
  unfold cmpS
  go_enter Try.func38, Try.ntmps38
  go_wp2
  rw [run_callFunc_extern Try.func44 (by kernel_rfl) (by kernel_rfl) (by kernel_rfl) (e := Extern.BytealgCompare.compare) (by kernel_rfl), Lib.run_compareString]
  simp only [Result.andThen]
  rw [Oper.upon_value]
  go_wp2
  go_ret
  exact ⟨rfl, rfl⟩
set_option maxRecDepth 100000 in
set_option maxHeartbeats 400000 in
theorem compare_any (a b : ByteArray) (w : World) : Calls Try.prog 26 #[.string a, .string b] w fun e w' => e = .returned (.int .i64 (cmpS a b)) ∧ w = w' := by
  have C := Lib.hid (fun W => compareString_any a b W)
  go_enter Try.func26, Try.ntmps26
  go_wp2_with (go_at_call 38; refine (C.out _).mono ?_; rintro e w' ⟨rfl, rfl⟩)
  go_ret
  exact ⟨rfl, rfl⟩
set_option maxRecDepth 100000 in
set_option maxHeartbeats 400000 in
/-- The order of Diff. -/
theorem ordD_any (p q : Pu) (w : World) : Calls Try.prog 25 #[.agg #[.string p.t, .int .i64 p.n], .agg #[.string q.t, .int .i64 q.n]] w fun e w' => e = .returned (.int .i64 (cmpS p.t q.t)) ∧ Below w.heap.size w w' := by
  obtain ⟨t, n⟩ := p
  obtain ⟨u, m⟩ := q
  simp only
  have HB := Lib.hid (((Below.refl w.heap.size w).alloc (Nat.le_refl _) (.cells #[.string t, .int .i64 n] 53)).alloc (by simp) (.cells #[.string u, .int .i64 m] 53))
  have C := Lib.hid (fun W => compare_any t u W)
  generalize cmpS t u = z at *
  go_enter Try.func25, Try.ntmps25
  go_wp2_with (go_at_call 26; refine (C.out _).mono ?_; rintro e w' ⟨rfl, rfl⟩)
  go_ret
  exact ⟨rfl, HB.out⟩
set_option maxRecDepth 100000 in
set_option maxHeartbeats 400000 in
/-- The order of Apply. -/
theorem ordA_any (p : Pu) (q : Mv) (w : World) : Calls Try.prog 30 #[.agg #[.string p.t, .int .i64 p.n], .agg #[.string q.t, .int .i64 q.f, .int .i64 q.g]] w fun e w' => e = .returned (.int .i64 (cmpS p.t q.t)) ∧ Below w.heap.size w w' := by
  obtain ⟨t, n⟩ := p
  obtain ⟨u, m, o⟩ := q
  simp only
  have HB := Lib.hid (((Below.refl w.heap.size w).alloc (Nat.le_refl _) (.cells #[.string t, .int .i64 n] 53)).alloc (by simp) (.cells #[.string u, .int .i64 m, .int .i64 o] 39))
  have C := Lib.hid (fun W => compare_any t u W)
  generalize cmpS t u = z at *
  go_enter Try.func30, Try.ntmps30
  go_wp2_with (go_at_call 26; refine (C.out _).mono ?_; rintro e w' ⟨rfl, rfl⟩)
  go_ret
  exact ⟨rfl, HB.out⟩

/-- The first text of two that is not empty. -/
def orS (a b : ByteArray) : ByteArray := if a = ⟨#[]⟩ then b else a
set_option maxRecDepth 100000 in
set_option maxHeartbeats 400000 in
theorem orS_any (ad : Addr) (a b : ByteArray) (c : Nat) (w : World) (h0 : w.cell? ad = some (.string a)) (h1 : w.cell? ⟨ad.block, ad.off + 1, none⟩ = some (.string b)) :
    Calls Try.prog 28 #[.slice (some ad) 2 c] w fun e w' => e = .returned (.string (orS a b)) ∧ w = w' := by
  unfold orS
  have q1 := mt_is a
  have q2 := mt_is b
  by_cases ha : a = ⟨#[]⟩
  · rw [if_pos ha]
    rw [decide_eq_true ha] at q1
    clear ha
    by_cases hb : b = ⟨#[]⟩
    · have HB0 := Lib.hid hb
      rw [decide_eq_true hb] at q2
      clear hb
      go_enter Try.func28, Try.ntmps28
      go_wp2
      go_loop [8] (fun i => ∃ k : Nat, k ≤ 2 ∧ i = .int .i64 k) (fun i => 2 - (intOf i).toNat)
      case atStart => exact ⟨0, Nat.zero_le _, rfl⟩
      case round =>
        obtain ⟨k, hk, rfl⟩ := hrel
        have hk3 : k = 0 ∨ k = 1 ∨ k = 2 := by omega
        rcases hk3 with rfl | rfl | rfl
        · go_wp2
          go_round
          case rel => exact ⟨1, by omega, by go_num⟩
          case measure => decide
        · go_wp2
          go_round
          case rel => exact ⟨2, by omega, by go_num⟩
          case measure => decide
        · go_wp2
          go_ret
          exact ⟨by rw [HB0.out]; rfl, rfl⟩
    · rw [decide_eq_false hb] at q2
      clear hb
      go_enter Try.func28, Try.ntmps28
      go_wp2
      go_loop [8] (fun i => ∃ k : Nat, k ≤ 1 ∧ i = .int .i64 k) (fun i => 2 - (intOf i).toNat)
      case atStart => exact ⟨0, Nat.zero_le _, rfl⟩
      case round =>
        obtain ⟨k, hk, rfl⟩ := hrel
        have hk3 : k = 0 ∨ k = 1 := by omega
        rcases hk3 with rfl | rfl
        · go_wp2
          go_round
          case rel => exact ⟨1, by omega, by go_num⟩
          case measure => decide
        · go_wp2
          go_ret
          exact ⟨rfl, rfl⟩
  · rw [if_neg ha]
    rw [decide_eq_false ha] at q1
    clear ha q2
    go_enter Try.func28, Try.ntmps28
    go_wp2
    go_loop [8] (fun i => i = .int .i64 0) (fun i => 2 - (intOf i).toNat)
    case atStart => rfl
    case round =>
      obtain rfl := hrel
      go_wp2
      go_ret
      exact ⟨rfl, rfl⟩
end Go.Proofs.Ytdbndkccgpmkbaa
