/-
  The walks of the library's Itoa, of the document's digits, and of a point.
-/
import Derived.Test.YthcjjogomknddaaDoorCmp
import Derived.Laws.Strings2
namespace Go.Proofs.YthcjjogomknddaaDoor
open Go.Sort Go.RowKit Go.Proofs.YthcjjogomknddaaDoor.Pure

/-- Digits, as a text. -/
def digS (n : Nat) : ByteArray := ⟨(digB n).toArray⟩
theorem dig_size (n : Nat) : (digS n).size ≤ 2 := by
  unfold digS digB
  split <;> simp [ByteArray.size]
def s36 : ByteArray := ⟨#[48, 49, 50, 51, 52, 53, 54, 55, 56, 57, 97, 98, 99, 100, 101, 102, 103, 104, 105, 106, 107, 108, 109, 110, 111, 112, 113, 114, 115, 116, 117, 118, 119, 120, 121, 122]⟩
def s200 : ByteArray := ⟨#[48, 48, 48, 49, 48, 50, 48, 51, 48, 52, 48, 53, 48, 54, 48, 55, 48, 56, 48, 57, 49, 48, 49, 49, 49, 50, 49, 51, 49, 52, 49, 53, 49, 54, 49, 55, 49, 56, 49, 57, 50, 48, 50, 49, 50, 50, 50, 51, 50, 52, 50, 53, 50, 54, 50, 55, 50, 56, 50, 57, 51, 48, 51, 49, 51, 50, 51, 51, 51, 52, 51, 53, 51, 54, 51, 55, 51, 56, 51, 57, 52, 48, 52, 49, 52, 50, 52, 51, 52, 52, 52, 53, 52, 54, 52, 55, 52, 56, 52, 57, 53, 48, 53, 49, 53, 50, 53, 51, 53, 52, 53, 53, 53, 54, 53, 55, 53, 56, 53, 57, 54, 48, 54, 49, 54, 50, 54, 51, 54, 52, 54, 53, 54, 54, 54, 55, 54, 56, 54, 57, 55, 48, 55, 49, 55, 50, 55, 51, 55, 52, 55, 53, 55, 54, 55, 55, 55, 56, 55, 57, 56, 48, 56, 49, 56, 50, 56, 51, 56, 52, 56, 53, 56, 54, 56, 55, 56, 56, 56, 57, 57, 48, 57, 49, 57, 50, 57, 51, 57, 52, 57, 53, 57, 54, 57, 55, 57, 56, 57, 57]⟩
theorem dig_one : ∀ n : Nat, n < 10 → s36.extract n (n + 1) = digS n := by decide +kernel
theorem dig_two : ∀ n : Nat, n < 100 → 10 ≤ n → s200.extract (2 * n) (2 * n + 2) = digS n := by decide +kernel

set_option maxRecDepth 100000 in
set_option maxHeartbeats 1000000 in
theorem small_any (n : Nat) (w : World) (hn : n < 100) : Calls Tryd.prog 83 #[.int .i64 (n : Int)] w fun e w' => e = .returned (.string (digS n)) ∧ w = w' := by
  by_cases h : n < 10
  · have e0 : decide ((n : Int) < 10) = true := decide_eq_true (by omega)
    have hs := fun W : World => run_slice_string (P := Tryd.prog) W 9 s36 .i64 .i64 (n : Int) ((n : Int) + 1) Tryd.underlying9 (by omega) (by omega) (by show _ ≤ 36; omega)
    rw [show (n : Int).toNat = n by omega, show ((n : Int) + 1).toNat = n + 1 by omega, dig_one n h] at hs
    unfold s36 at hs
    have hr : IntKind.i64.wrap ((n : Int) + 1) = (n : Int) + 1 := IntWalk.i64_in _ (by omega)
    have HN : Hid (n < 10) := Lib.hid h
    clear h
    go_enter Tryd.func83, Tryd.ntmps83
    go_wp2_with fail
    go_ret
    exact ⟨rfl, rfl⟩
  · have e0 : decide ((n : Int) < 10) = false := decide_eq_false (by omega)
    have hs := fun W : World => run_slice_string (P := Tryd.prog) W 9 s200 .i64 .i64 ((n : Int) * 2) ((n : Int) * 2 + 2) Tryd.underlying9 (by omega) (by omega) (by show _ ≤ 200; omega)
    rw [show ((n : Int) * 2).toNat = 2 * n by omega, show ((n : Int) * 2 + 2).toNat = 2 * n + 2 by omega, dig_two n hn (by omega)] at hs
    unfold s200 at hs
    have hr : IntKind.i64.wrap ((n : Int) * 2) = (n : Int) * 2 := IntWalk.i64_in _ (by omega)
    have hr2 : IntKind.i64.wrap ((n : Int) * 2 + 2) = (n : Int) * 2 + 2 := IntWalk.i64_in _ (by omega)
    clear h
    go_enter Tryd.func83, Tryd.ntmps83
    go_wp2_with fail
    go_ret
    exact ⟨rfl, rfl⟩

set_option maxRecDepth 100000 in
set_option maxHeartbeats 1000000 in
theorem format_any (n : Nat) (w : World) (hn : n < 100) : Calls Tryd.prog 77 #[.int .i64 (n : Int), .int .i64 10] w fun e w' => e = .returned (.string (digS n)) ∧ w = w' := by
  have HC := Lib.hid (fun W => small_any n W hn)
  have e0 : decide ((0 : Int) ≤ (n : Int)) = true := decide_eq_true (by omega)
  have e1 : decide ((n : Int) < 100) = true := decide_eq_true (by omega)
  have e1' : decide (n < 100) = true := decide_eq_true (by omega)
  go_enter Tryd.func77, Tryd.ntmps77
  go_wp2_with fail
  refine (HC.out _).mono ?_
  rintro e w4 ⟨rfl, rfl⟩
  go_wp2_with fail
  go_ret
  exact ⟨rfl, rfl⟩
set_option maxRecDepth 100000 in
set_option maxHeartbeats 1000000 in
theorem itoaI_any (n : Nat) (w : World) (hn : n < 100) : Calls Tryd.prog 62 #[.int .i64 (n : Int)] w fun e w' => e = .returned (.string (digS n)) ∧ w = w' := by
  have HC := Lib.hid (fun W => format_any n W hn)
  go_enter Tryd.func62, Tryd.ntmps62
  go_wp2_with fail
  refine (HC.out _).mono ?_
  rintro e w4 ⟨rfl, rfl⟩
  go_wp2_with fail
  go_ret
  exact ⟨rfl, rfl⟩
set_option maxRecDepth 100000 in
set_option maxHeartbeats 1000000 in
theorem itoa_any (n : Nat) (w : World) (hn : n < 100) : Calls Tryd.prog 52 #[.int .i64 (n : Int)] w fun e w' => e = .returned (.string (digS n)) ∧ w = w' := by
  have HC := Lib.hid (fun W => itoaI_any n W hn)
  go_enter Tryd.func52, Tryd.ntmps52
  go_wp2_with fail
  refine (HC.out _).mono ?_
  rintro e w4 ⟨rfl, rfl⟩
  go_wp2_with fail
  go_ret
  exact ⟨rfl, rfl⟩

theorem has_three (w : World) (g : Nat) (s t u : ByteArray) (h0 : w.cell? ⟨g, 0, none⟩ = some (.string s)) (h1 : w.cell? ⟨g, 1, none⟩ = some (.string t)) (h2 : w.cell? ⟨g, 2, none⟩ = some (.string u)) : F.Has w g (g + 1) (some ⟨g, 0, none⟩) [s, t, u] := fun j hj => by
  match j, hj with
  | 0, _ => exact ⟨_, rfl, Nat.le_refl _, Nat.lt_succ_self _, h0⟩
  | 1, _ => exact ⟨_, rfl, Nat.le_refl _, Nat.lt_succ_self _, h1⟩
  | 2, _ => exact ⟨_, rfl, Nat.le_refl _, Nat.lt_succ_self _, h2⟩
theorem sum_three (g : Nat) (a b : Nat) (w : World) (h0 : w.cell? ⟨g, 0, none⟩ = some (.string (digS a))) (h1 : w.cell? ⟨g, 1, none⟩ = some (.string ⟨#[47]⟩)) (h2 : w.cell? ⟨g, 2, none⟩ = some (.string (digS b))) :
    Calls Tryd.prog 51 #[.slice (some ⟨g, 0, none⟩) 3 3] w fun e w' => e = .returned (.int .u64 (hashP a b)) ∧ w = w' := by
  have ha := dig_size a
  have hb := dig_size b
  have := F.sum_any (some ⟨g, 0, none⟩) 3 g (g + 1) [digS a, ⟨#[47]⟩, digS b] w (by unfold maxLen; simp) (has_three w g _ _ _ h0 h1 h2) (fun s hs => by
    simp only [List.mem_cons, List.not_mem_nil, or_false] at hs
    unfold maxLen
    rcases hs with rfl | rfl | rfl
    · omega
    · decide
    · omega)
  have e : F.flat [digS a, ⟨#[47]⟩, digS b] = keyP a b := by simp [F.flat, digS, keyP]
  rw [e] at this
  exact this

/-- A point's cells, as a value. -/
def pv (x : Pt) : Value := .agg #[.int .u64 x.h, .int .i64 x.n, .int .i64 x.i]
set_option maxRecDepth 100000 in
set_option maxHeartbeats 2000000 in
theorem point_any (n i : Nat) (w : World) (hn : n < 100) (hi : i < 100) : Calls Tryd.prog 45 #[.int .i64 (n : Int), .int .i64 (i : Int)] w fun e w' => e = .returned (.agg #[.int .u64 (hashP n i), .int .i64 (n : Int), .int .i64 (i : Int)]) ∧ Below w.heap.size w w' := by
  have HN := Lib.hid (fun W => itoa_any n W hn)
  have HI := Lib.hid (fun W => itoa_any i W hi)
  have HS := Lib.hid (fun (g : Nat) (W : World) => sum_three g n i W)
  generalize hashP n i = h at *
  generalize digS n = sn at *
  generalize digS i = si at *
  go_enter Tryd.func45, Tryd.ntmps45
  go_wp2_with fail
  refine (HN.out _).mono ?_
  rintro e w1 ⟨rfl, rfl⟩
  go_wp2_with fail
  refine (HI.out _).mono ?_
  rintro e w1 ⟨rfl, rfl⟩
  go_wp2_with fail
  refine (HS.out _ _ (by go_simp) (by go_simp) (by go_simp)).mono ?_
  rintro e w1 ⟨rfl, rfl⟩
  go_wp2_with fail
  exact bodyPost_ret (v := .agg #[.int .u64 h, .int .i64 (n : Int), .int .i64 (i : Int)]) (by simp [results, Tryd.results45, go_sem]) rfl ⟨rfl, ((Below.refl _ _).alloc (Nat.le_refl _) _).alloc (by simp) _⟩

theorem conv_one (o : Nat) (ho : o < 256) (W : World) : (convert 82 9 (.slice (some ⟨W.heap.size, 0, none⟩) 1 1)).run Tryd.prog (W.alloc (.cells #[.int .u8 (o : Int)] 5)) = .ok (.string ⟨#[UInt8.ofNat o]⟩) (W.alloc (.cells #[.int .u8 (o : Int)] 5)) := by
  have := run_convert_bytes_back (P := Tryd.prog) (W.alloc (.cells #[.int .u8 (o : Int)] 5)) 82 9 5 ⟨W.heap.size, 0, none⟩ 1 [UInt8.ofNat o] Tryd.underlying82 Tryd.underlying5 Tryd.underlying9 fun j hj => by
    have hj0 : j = 0 := by simp at hj; omega
    subst hj0
    have e : ((UInt8.ofNat o).toNat : Int) = (o : Int) := by simp; omega
    go_simp
    omega
  simpa using this
set_option maxRecDepth 100000 in
set_option maxHeartbeats 1000000 in
theorem rdig_one (n : Nat) (w : World) (hn : n < 10) : Calls Tryd.prog 39 #[.int .i64 (n : Int)] w fun e w' => e = .returned (.string (digS n)) ∧ Below w.heap.size w w' := by
  have e0 : decide ((n : Int) < 10) = true := decide_eq_true (by omega)
  have e0' : decide (n < 10) = true := decide_eq_true (by omega)
  have hd : digS n = ⟨#[UInt8.ofNat (48 + n)]⟩ := by unfold digS digB; rw [if_pos hn]
  have hc := fun W => conv_one (48 + n) (by omega) W
  rw [hd]
  have h1 : IntKind.i64.wrap (48 + (n : Int)) = ((48 + n : Nat) : Int) := by rw [IntWalk.i64_in _ (by omega)]; omega
  have h2 : IntKind.u8.wrap ((48 + n : Nat) : Int) = ((48 + n : Nat) : Int) := by simp [IntKind.wrap, IntKind.bits, IntKind.signed]; omega
  generalize (48 + n : Nat) = o at *
  clear hn hd
  go_enter Tryd.func39, Tryd.ntmps39
  go_wp2_with fail
  go_ret
  exact ⟨rfl, (Below.refl _ _).alloc (Nat.le_refl _) _⟩
theorem dig_tens (n : Nat) (h : 10 ≤ n) (hn : n < 100) : digS n = digS (n / 10) ++ digS (n % 10) := by
  have : ∀ m : Nat, m < 100 → 10 ≤ m → digS m = digS (m / 10) ++ digS (m % 10) := by decide +kernel
  exact this n hn h
set_option maxRecDepth 100000 in
set_option maxHeartbeats 1000000 in
theorem rdig_any (n : Nat) (w : World) (hn : n < 100) : Calls Tryd.prog 39 #[.int .i64 (n : Int)] w fun e w' => e = .returned (.string (digS n)) ∧ Below w.heap.size w w' := by
  rcases Nat.lt_or_ge n 10 with h | h
  · exact rdig_one n w h
  have e0 : decide ((n : Int) < 10) = false := decide_eq_false (by omega)
  have e0' : decide (n < 10) = false := decide_eq_false (by omega)
  rw [dig_tens n h hn]
  have HA := Lib.hid (fun W => rdig_one (n / 10) W (by omega))
  have HB := Lib.hid (fun W => rdig_one (n % 10) W (by omega))
  have h1 : Int.tdiv (n : Int) 10 = ((n / 10 : Nat) : Int) := by rw [Int.tdiv_eq_ediv_of_nonneg (by omega)]; omega
  have h2 : Int.tmod (n : Int) 10 = ((n % 10 : Nat) : Int) := by rw [Int.tmod_eq_emod_of_nonneg (by omega)]; omega
  have h3 : IntKind.i64.wrap ((n / 10 : Nat) : Int) = ((n / 10 : Nat) : Int) := IntWalk.i64_in _ (by omega)
  have h4 : IntKind.i64.wrap ((n % 10 : Nat) : Int) = ((n % 10 : Nat) : Int) := IntWalk.i64_in _ (by omega)
  have sa := dig_size (n / 10)
  have sb := dig_size (n % 10)
  generalize digS (n / 10) = sx at *
  generalize digS (n % 10) = sy at *
  generalize n / 10 = a at *
  generalize n % 10 = b at *
  clear h hn
  go_enter Tryd.func39, Tryd.ntmps39
  go_wp2_with fail
  refine (HA.out _).mono ?_
  rintro e w1 ⟨rfl, hb1⟩
  go_wp2_with fail
  refine (HB.out _).mono ?_
  rintro e w2 ⟨rfl, hb2⟩
  go_wp2_with fail
  go_ret
  exact ⟨rfl, hb1.trans (hb2.mono hb1.size)⟩
end Go.Proofs.YthcjjogomknddaaDoor
