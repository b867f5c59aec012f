/-
  The walks of Check and May, and of the law's cut.
-/
import Derived.Test.YtbhpinmdpngbkaaLess
namespace Go.Proofs.Ytbhpinmdpngbkaa
open Go.RowKit Go.Proofs.Ytbhpinmdpngbkaa.Pure

/-- The walk's own spelling of a timer's cells. -/
theorem At.cells {w : World} {a : Addr} {x : Tm} (h : At w a x) : ∃ p q r s : Int, x = ⟨p, q, r, s⟩ ∧ w.cell? a = some (.int .i64 p) ∧ w.cell? ⟨a.block, a.off + 1, none⟩ = some (.int .i64 q) ∧ w.cell? ⟨a.block, a.off + 2, none⟩ = some (.int .i64 r) ∧ w.cell? ⟨a.block, a.off + 3, none⟩ = some (.int .u64 s) :=
  ⟨x.a, x.k, x.o, x.n, rfl, h⟩

theorem At.flat {w : World} {a : Addr} {x : Tm} (h : At w a x) : w.cell? a = some (.int .i64 x.a) ∧ w.cell? ⟨a.block, a.off + 1, none⟩ = some (.int .i64 x.k) ∧ w.cell? ⟨a.block, a.off + 2, none⟩ = some (.int .i64 x.o) ∧ w.cell? ⟨a.block, a.off + 3, none⟩ = some (.int .u64 x.n) := h
/-- May timers be? -/
def mayB (xs : List Tm) : Bool := decide (xs.length ≤ 256) && sortedB xs
theorem mayB_iff (xs : List Tm) : mayB xs = true ↔ xs.length ≤ 256 ∧ Sorted xs := by
  unfold mayB
  rw [Bool.and_eq_true, decide_eq_true_iff, sortedB_iff]
/-- OK, or ErrArg. -/
def okE (L : Bool) : Int := if L then 0 else 1

set_option maxRecDepth 100000 in
set_option maxHeartbeats 1000000 in
theorem check_any (A : Option Addr) (c lo hi : Nat) (xs : List Tm) (w : World) (hn : xs.length ≤ 1000) (h : Has w lo hi A xs) (hh : hi ≤ w.heap.size) (L : Bool) (hL : mayB xs = L) :
    Calls Try.prog 12 #[.slice A xs.length c] w fun e w' => e = .returned (.int .i64 (okE L)) ∧ Below w.heap.size w w' := by
  have H := Lib.hid h
  have HL := Lib.hid hL
  clear h hL
  by_cases h256 : 256 < xs.length
  · have hLf : L = false := by rw [← HL.out]; unfold mayB; simp; omega
    subst hLf
    have d1 : decide ((256 : Int) < (xs.length : Int)) = true := by simp; omega
    go_enter Try.func12, Try.ntmps12
    go_wp2
    go_ret
    exact ⟨rfl, Below.refl _ _⟩
  · have d1 : decide ((256 : Int) < (xs.length : Int)) = false := by simp; omega
    go_enter Try.func12, Try.ntmps12
    go_wp2_with fail
    go_loopw [3] (fun i wr => ∃ m : Nat, i = .int .i64 m ∧ 1 ≤ m ∧ (m = 1 ∨ m ≤ xs.length) ∧ Hid (∀ k, k + 1 < m → lt (xs.getD (k + 1) zt) (xs.getD k zt) = false) ∧ Hid (Below w.heap.size w wr)) (fun i _ => xs.length + 1 - (intOf i).toNat)
    case atStart => exact ⟨1, rfl, Nat.le_refl _, .inl rfl, Lib.hid (fun k hk => absurd hk (by omega)), Lib.hid (Below.refl _ _)⟩
    case round =>
      obtain ⟨m, rfl, hm1, hm, hs, hb⟩ := hrel
      by_cases hlt : m < xs.length
      · obtain ⟨j, hjm⟩ : ∃ j, j + 1 = m := ⟨m - 1, by omega⟩
        obtain ⟨ad, rfl, hlo, hhi, h1⟩ := (H.out.on hb.out hh) m hlt
        obtain ⟨ad', e, _, _, h0⟩ := (H.out.on hb.out hh) j (by omega)
        obtain rfl := Option.some.inj e
        obtain ⟨p1, q1, r1, s1, e1, a1, a2, a3, a4⟩ := h1.cells
        obtain ⟨p0, q0, r0, s0, e0, b1, b2, b3, b4⟩ := h0.cells
        have HE1 := Lib.hid e1
        have HE0 := Lib.hid e0
        have HC := Lib.hid (fun W => less_any p1 q1 r1 s1 p0 q0 r0 s0 W)
        rw [← HE1.out, ← HE0.out] at HC
        generalize hB : lt (xs.getD m zt) (xs.getD j zt) = B at *
        have HB := Lib.hid hB
        have i4 : (m : Int) - 1 = (j : Int) := by omega
        have i0 : (0 : Int) ≤ (m : Int) := by omega
        have i1 : (m : Int) < (xs.length : Int) := by omega
        have i2 : (j : Int) < (xs.length : Int) := by omega
        have i3 : (0 : Int) ≤ (j : Int) := by omega
        have HJ := Lib.hid hjm
        have i5 : IntKind.i64.wrap (j : Int) = (j : Int) := IntWalk.i64_in _ (by omega)
        clear hB e1 e0 h1 h0 e hjm
        go_wp2_with fail
        go_still_tail 9, (by kernel_rfl)
        change wpList _ _ _ _ _ wr.drew
        go_wp2_with fail
        refine (HC.out _).mono ?_
        rintro e w1 ⟨rfl, hb1⟩
        have HB1 : Hid (Below w.heap.size w w1) := Lib.hid (hb.out.drew.trans (hb1.mono hb.out.size))
        clear i5 i4 hb1 hb a1 a2 a3 a4 b1 b2 b3 b4
        rcases B with _ | _
        · go_wp2_with fail
          go_roundw
          case rel => exact ⟨m + 1, by go_num, by omega, by omega, Lib.hid (fun k hk => by
            rcases Nat.lt_or_ge (k + 1) m with h | h
            · exact hs.out k h
            · obtain rfl : k = j := by have := HJ.out; omega
              rw [HJ.out]; exact HB.out), HB1⟩
          case measure => simp [intOf]; omega
        · go_wp2_with fail
          go_ret
          have hL : L = false := by
            rw [← HL.out, mayB, Bool.and_eq_false_iff]
            right
            rcases hsb : sortedB xs with _ | _
            · rfl
            · have := ((sortedB_iff xs).1 hsb).steps j (by have := HJ.out; omega)
              rw [HJ.out, HB.out] at this
              cases this
          subst hL
          exact ⟨rfl, HB1.out⟩
      · have hL : L = true := by
          rw [← HL.out, mayB_iff]
          exact ⟨by omega, sorted_of_steps xs fun i hi => hs.out i (by omega)⟩
        subst hL
        go_wp2
        go_ret
        exact ⟨rfl, hb.out⟩
set_option maxRecDepth 100000 in
set_option maxHeartbeats 1000000 in
theorem may_any (A : Option Addr) (c lo hi : Nat) (xs : List Tm) (w : World) (hn : xs.length ≤ 1000) (h : Has w lo hi A xs) (hh : hi ≤ w.heap.size) (L : Bool) (hL : mayB xs = L) :
    Calls Try.prog 13 #[.slice A xs.length c] w fun e w' => e = .returned (.bool L) ∧ Below w.heap.size w w' := by
  have H := Lib.hid h
  have HL := Lib.hid hL
  clear h hL
  go_enter Try.func13, Try.ntmps13
  go_wp2_with fail
  go_loopw [3] (fun i wr => ∃ m : Nat, i = .int .i64 m ∧ 1 ≤ m ∧ (m = 1 ∨ m ≤ xs.length) ∧ Hid (∀ k, k + 1 < m → lt (xs.getD (k + 1) zt) (xs.getD k zt) = false) ∧ Hid (Below w.heap.size w wr)) (fun i _ => xs.length + 1 - (intOf i).toNat)
  case atStart => exact ⟨1, rfl, Nat.le_refl _, .inl rfl, Lib.hid (fun k hk => absurd hk (by omega)), Lib.hid (Below.refl _ _)⟩
  case round =>
    obtain ⟨m, rfl, hm1, hm, hs, hb⟩ := hrel
    by_cases hlt : m < xs.length
    · obtain ⟨j, hjm⟩ : ∃ j, j + 1 = m := ⟨m - 1, by omega⟩
      obtain ⟨ad, rfl, hlo, hhi, h1⟩ := (H.out.on hb.out hh) m hlt
      obtain ⟨ad', e, _, _, h0⟩ := (H.out.on hb.out hh) j (by omega)
      obtain rfl := Option.some.inj e
      obtain ⟨p1, q1, r1, s1, e1, a1, a2, a3, a4⟩ := h1.cells
      obtain ⟨p0, q0, r0, s0, e0, b1, b2, b3, b4⟩ := h0.cells
      have HE1 := Lib.hid e1
      have HE0 := Lib.hid e0
      have HC := Lib.hid (fun W => rless_any p1 q1 r1 s1 p0 q0 r0 s0 W)
      rw [← HE1.out, ← HE0.out] at HC
      generalize hB : lt (xs.getD m zt) (xs.getD j zt) = B at *
      have HB := Lib.hid hB
      have i4 : (m : Int) - 1 = (j : Int) := by omega
      have i0 : (0 : Int) ≤ (m : Int) := by omega
      have i1 : (m : Int) < (xs.length : Int) := by omega
      have i2 : (j : Int) < (xs.length : Int) := by omega
      have i3 : (0 : Int) ≤ (j : Int) := by omega
      have HJ := Lib.hid hjm
      have i5 : IntKind.i64.wrap (j : Int) = (j : Int) := IntWalk.i64_in _ (by omega)
      clear hB e1 e0 h1 h0 e hjm
      go_wp2_with fail
      go_still_tail 9, (by kernel_rfl)
      change wpList _ _ _ _ _ wr.drew
      go_wp2_with fail
      refine (HC.out _).mono ?_
      rintro e w1 ⟨rfl, hb1⟩
      have HB1 : Hid (Below w.heap.size w w1) := Lib.hid (hb.out.drew.trans (hb1.mono hb.out.size))
      clear i5 i4 hb1 hb a1 a2 a3 a4 b1 b2 b3 b4
      rcases B with _ | _
      · go_wp2_with fail
        go_roundw
        case rel => exact ⟨m + 1, by go_num, by omega, by omega, Lib.hid (fun k hk => by
          rcases Nat.lt_or_ge (k + 1) m with h | h
          · exact hs.out k h
          · obtain rfl : k = j := by have := HJ.out; omega
            rw [HJ.out]; exact HB.out), HB1⟩
        case measure => simp [intOf]; omega
      · go_wp2_with fail
        go_ret
        have hL : L = false := by
          rw [← HL.out, mayB, Bool.and_eq_false_iff]
          right
          rcases hsb : sortedB xs with _ | _
          · rfl
          · have := ((sortedB_iff xs).1 hsb).steps j (by have := HJ.out; omega)
            rw [HJ.out, HB.out] at this
            cases this
        subst hL
        exact ⟨rfl, HB1.out⟩
    · have hL : L = decide ((xs.length : Int) ≤ 256) := by
        have hs' : Sorted xs := sorted_of_steps xs fun i hi => hs.out i (by omega)
        rw [← HL.out, Bool.eq_iff_iff, mayB_iff, decide_eq_true_iff]
        exact ⟨fun h => by omega, fun h => ⟨by omega, hs'⟩⟩
      have HD := Lib.hid hL
      clear hL
      rcases L with _ | _
      all_goals
        have hd := HD.out.symm
        go_wp2
        go_ret
        exact ⟨rfl, hb.out⟩

/-- Timers that are looked at. -/
def cutL (xs : List Tm) : List Tm := xs.take 257
theorem cutL_len (xs : List Tm) : (cutL xs).length ≤ 257 := by unfold cutL; rw [List.length_take]; omega

set_option maxRecDepth 100000 in
set_option maxHeartbeats 400000 in
theorem few_many (ad : Addr) (n c : Nat) (w : World) (hn : 257 < n) (hc : n ≤ c) (hm : c ≤ maxLen) :
    Calls Try.prog 9 #[.slice (some ad) n c] w fun e w' => e = .returned (.slice (some ad) 257 c) ∧ w = w' := by
  unfold maxLen at hm
  go_enter Try.func9, Try.ntmps9
  go_wp2
  go_ret
  exact ⟨rfl, rfl⟩
set_option maxRecDepth 100000 in
set_option maxHeartbeats 400000 in
theorem few_few (A : Option Addr) (n c : Nat) (w : World) (hn : n ≤ 257) :
    Calls Try.prog 9 #[.slice A n c] w fun e w' => e = .returned (.slice A n c) ∧ w = w' := by
  go_enter Try.func9, Try.ntmps9
  go_wp2
  go_ret
  exact ⟨rfl, rfl⟩
theorem few_any (A : Option Addr) (c lo hi : Nat) (xs : List Tm) (w : World) (hc : xs.length ≤ c) (hm : c ≤ maxLen) (h : Has w lo hi A xs) :
    ∀ W : World, Calls Try.prog 9 #[.slice A xs.length c] W fun e w' => e = .returned (.slice A (cutL xs).length c) ∧ W = w' := fun W => by
  rcases Nat.lt_or_ge 257 xs.length with hl | hl
  · obtain ⟨ad, rfl, _⟩ := h 0 (by omega)
    have e : (cutL xs).length = 257 := by unfold cutL; rw [List.length_take]; omega
    rw [e]
    exact few_many ad _ c W hl hc hm
  · have e : (cutL xs).length = xs.length := by unfold cutL; rw [List.length_take]; omega
    rw [e]
    exact few_few A _ c W hl
end Go.Proofs.Ytbhpinmdpngbkaa
