/-
  The walks of May, of rules, and Grace; of the document's Rules and Grace.
-/
import Derived.Test.YtknpbbplolncpaaClear
import Derived.Lib.BitFns
import Derived.Lib.MinMax
namespace Go.Proofs.Ytknpbbplolncpaa
open Go.Sort Go.RowKit Go.Proofs.Ytknpbbplolncpaa.Pure

set_option maxRecDepth 100000 in
set_option maxHeartbeats 2000000 in
theorem mayR_any (r : Ru) (w : World) : Calls Try.prog 13 #[.agg #[.int .i64 r.mn, .int .i64 r.mo, .int .i64 r.al]] w fun e w' => e = .returned (.int .i64 (okE (rulesB r))) ∧ Below w.heap.size w w' := by
  obtain ⟨L, hL⟩ : ∃ L, rulesB r = L := ⟨_, rfl⟩
  rw [hL]
  have HL : Hid (L = true ↔ Rl r) := Lib.hid (by rw [← hL, rulesB_iff])
  have HF : Hid (¬Rl r → L = false) := Lib.hid (fun h => by
    rcases L with _ | _
    · rfl
    · exact absurd (HL.out.1 rfl) h)
  have HB : Hid (Below w.heap.size w (w.alloc (.cells #[.int .i64 r.mn, .int .i64 r.mo, .int .i64 r.al] 24))) := Lib.hid ((Below.refl _ w).alloc (Nat.le_refl _) _)
  clear hL
  go_enter Try.func13, Try.ntmps13
  by_cases b0 : r.mn < 1
  · have e0 : decide (r.mn < 1) = true := by simp; omega
    obtain rfl := HF.out (fun h => by unfold Rl at h; omega)
    clear HL HF b0
    go_wp2_with fail
    go_ret
    exact ⟨rfl, HB.out⟩
  have e0 : decide (r.mn < 1) = false := by simp; omega
  by_cases b1 : 1000 < r.mn
  · have e1 : decide (1000 < r.mn) = true := by simp; omega
    obtain rfl := HF.out (fun h => by unfold Rl at h; omega)
    clear HL HF b0 b1
    go_wp2_with fail
    go_ret
    exact ⟨rfl, HB.out⟩
  have e1 : decide (1000 < r.mn) = false := by simp; omega
  by_cases b2 : r.mo < 1
  · have e2 : decide (r.mo < 1) = true := by simp; omega
    obtain rfl := HF.out (fun h => by unfold Rl at h; omega)
    clear HL HF b0 b1 b2
    go_wp2_with fail
    go_ret
    exact ⟨rfl, HB.out⟩
  have e2 : decide (r.mo < 1) = false := by simp; omega
  by_cases b3 : 20 < r.mo
  · have e3 : decide (20 < r.mo) = true := by simp; omega
    obtain rfl := HF.out (fun h => by unfold Rl at h; omega)
    clear HL HF b0 b1 b2 b3
    go_wp2_with fail
    go_ret
    exact ⟨rfl, HB.out⟩
  have e3 : decide (20 < r.mo) = false := by simp; omega
  by_cases b4 : r.al < 0
  · have e4 : decide (r.al < 0) = true := by simp; omega
    obtain rfl := HF.out (fun h => by unfold Rl at h; omega)
    clear HL HF b0 b1 b2 b3 b4
    go_wp2_with fail
    go_ret
    exact ⟨rfl, HB.out⟩
  have e4 : decide (r.al < 0) = false := by simp; omega
  by_cases b5 : 10 < r.al
  · have e5 : decide (10 < r.al) = true := by simp; omega
    obtain rfl := HF.out (fun h => by unfold Rl at h; omega)
    clear HL HF b0 b1 b2 b3 b4 b5
    go_wp2_with fail
    go_ret
    exact ⟨rfl, HB.out⟩
  have e5 : decide (10 < r.al) = false := by simp; omega
  obtain rfl : L = true := HL.out.2 (by unfold Rl; omega)
  clear HL HF b0 b1 b2 b3 b4 b5
  go_wp2_with fail
  go_ret
  exact ⟨rfl, HB.out⟩
set_option maxRecDepth 100000 in
set_option maxHeartbeats 2000000 in
theorem rules_any (r : Ru) (w : World) : Calls Try.prog 11 #[.agg #[.int .i64 r.mn, .int .i64 r.mo, .int .i64 r.al]] w fun e w' => e = .returned (.bool (rulesB r)) ∧ Below w.heap.size w w' := by
  obtain ⟨L, hL⟩ : ∃ L, rulesB r = L := ⟨_, rfl⟩
  rw [hL]
  have HL : Hid (L = true ↔ Rl r) := Lib.hid (by rw [← hL, rulesB_iff])
  have HF : Hid (¬Rl r → L = false) := Lib.hid (fun h => by
    rcases L with _ | _
    · rfl
    · exact absurd (HL.out.1 rfl) h)
  have HB : Hid (Below w.heap.size w (w.alloc (.cells #[.int .i64 r.mn, .int .i64 r.mo, .int .i64 r.al] 24))) := Lib.hid ((Below.refl _ w).alloc (Nat.le_refl _) _)
  clear hL
  go_enter Try.func11, Try.ntmps11
  by_cases b0 : r.mn < 1
  · have e0 : decide (1 ≤ r.mn) = false := by simp; omega
    obtain rfl := HF.out (fun h => by unfold Rl at h; omega)
    clear HL HF b0
    go_wp2_with fail
    go_ret
    exact ⟨rfl, HB.out⟩
  have e0 : decide (1 ≤ r.mn) = true := by simp; omega
  by_cases b1 : 1000 < r.mn
  · have e1 : decide (r.mn ≤ 1000) = false := by simp; omega
    obtain rfl := HF.out (fun h => by unfold Rl at h; omega)
    clear HL HF b0 b1
    go_wp2_with fail
    go_ret
    exact ⟨rfl, HB.out⟩
  have e1 : decide (r.mn ≤ 1000) = true := by simp; omega
  by_cases b2 : r.mo < 1
  · have e2 : decide (1 ≤ r.mo) = false := by simp; omega
    obtain rfl := HF.out (fun h => by unfold Rl at h; omega)
    clear HL HF b0 b1 b2
    go_wp2_with fail
    go_ret
    exact ⟨rfl, HB.out⟩
  have e2 : decide (1 ≤ r.mo) = true := by simp; omega
  by_cases b3 : 20 < r.mo
  · have e3 : decide (r.mo ≤ 20) = false := by simp; omega
    obtain rfl := HF.out (fun h => by unfold Rl at h; omega)
    clear HL HF b0 b1 b2 b3
    go_wp2_with fail
    go_ret
    exact ⟨rfl, HB.out⟩
  have e3 : decide (r.mo ≤ 20) = true := by simp; omega
  by_cases b4 : r.al < 0
  · have e4 : decide (0 ≤ r.al) = false := by simp; omega
    obtain rfl := HF.out (fun h => by unfold Rl at h; omega)
    clear HL HF b0 b1 b2 b3 b4
    go_wp2_with fail
    go_ret
    exact ⟨rfl, HB.out⟩
  have e4 : decide (0 ≤ r.al) = true := by simp; omega
  by_cases b5 : 10 < r.al
  · have e5 : decide (r.al ≤ 10) = false := by simp; omega
    obtain rfl := HF.out (fun h => by unfold Rl at h; omega)
    clear HL HF b0 b1 b2 b3 b4 b5
    go_wp2_with fail
    go_ret
    exact ⟨rfl, HB.out⟩
  have e5 : decide (r.al ≤ 10) = true := by simp; omega
  obtain rfl : L = true := HL.out.2 (by unfold Rl; omega)
  clear HL HF b0 b1 b2 b3 b4 b5
  go_wp2_with fail
  go_ret
  exact ⟨rfl, HB.out⟩

theorem bits_lib (n : Nat) (h : n ≤ 64) : bitsN n = Lib.bitLen n := by
  have : ∀ n : Fin 65, bitsN n.val = Lib.bitLen n.val := by decide
  exact this ⟨n, by omega⟩
theorem bits_half (n : Nat) (h : n ≤ 64) (h0 : 0 < n) : bitsN n = bitsN (n / 2) + 1 := by
  have : ∀ n : Fin 65, 0 < n.val → bitsN n.val = bitsN (n.val / 2) + 1 := by decide
  exact this ⟨n, by omega⟩ h0
theorem bits_le (n : Nat) (h : n ≤ 64) : bitsN n ≤ 7 := by
  have : ∀ n : Fin 65, bitsN n.val ≤ 7 := by decide
  exact this ⟨n, by omega⟩
theorem bits_pos (n : Nat) (h : n ≤ 64) (h0 : 0 < n) : 1 ≤ bitsN n := by rw [bits_half n h h0]; omega
theorem len8_bits (n : Nat) (h : n ≤ 64) : Lib.len8 (n : Int) = (bitsN n : Int) := by
  rw [bits_lib n h]
  exact Lib.len8_eq ⟨n, by omega⟩

set_option maxRecDepth 100000 in
set_option maxHeartbeats 2000000 in
theorem len64_any (n : Nat) (w : World) (hn : n ≤ 64) : Calls Try.prog 45 #[.int .u64 (n : Int)] w fun e w' => e = .returned (.int .i64 (bitsN n : Nat)) ∧ w = w' := by
  have HE := Lib.hid (len8_bits n hn)
  have HB := Lib.hid (bits_le n hn)
  have e1 : decide ((4294967296 : Int) ≤ (n : Int)) = false := by simp; omega
  have e2 : decide ((65536 : Int) ≤ (n : Int)) = false := by simp; omega
  have e3 : decide ((256 : Int) ≤ (n : Int)) = false := by simp; omega
  have e4 : IntKind.u8.wrap (n : Int) = (n : Int) := by simp [IntKind.wrap, IntKind.bits, IntKind.signed]; omega
  have h0 : (0 : Int) ≤ (n : Int) := by omega
  have h1 : (n : Int) ≤ 255 := by omega
  clear hn
  go_enter Try.func45, Try.ntmps45
  go_wp2_with fail
  go_ret
  refine ⟨ret_int ?_, rfl⟩
  have he := HE.out
  have hb := HB.out
  simp [he]
  unfold wrap64
  omega
set_option maxRecDepth 100000 in
set_option maxHeartbeats 2000000 in
theorem len_any (n : Nat) (w : World) (hn : n ≤ 64) : Calls Try.prog 27 #[.int .u64 (n : Int)] w fun e w' => e = .returned (.int .i64 (bitsN n : Nat)) ∧ w = w' := by
  have HL := Lib.hid (len64_any n w hn)
  generalize bitsN n = b at *
  clear hn
  go_enter Try.func27, Try.ntmps27
  go_wp2_with (go_at_call 45; refine HL.out.mono ?_; rintro e w' ⟨rfl, rfl⟩)
  go_ret
  exact ⟨rfl, rfl⟩

/-! ### the grace -/
structure Gp (r : Ru) (n : Nat) (c S G D m E Q R : Int) : Prop where
  s_ : S = leastN r n ∧ 1 ≤ S ∧ S ≤ 7000
  g_ : G = r.mo * S ∧ S ≤ G ∧ G ≤ 140000
  d_ : D = G - S ∧ 0 ≤ D ∧ D ≤ 140000
  m_ : m = min c r.al ∧ 0 ≤ m ∧ m ≤ 10 ∧ m ≤ r.al
  e_ : E = D * m ∧ 0 ≤ E ∧ E ≤ 1400000
  q_ : Q = E / r.al ∧ 0 ≤ Q ∧ Q ≤ D
  r_ : R = G - Q ∧ S ≤ R ∧ R ≤ G
theorem least_bounds {r : Ru} {n : Nat} (hr : Rl r) (h1 : 1 ≤ n) (h2 : n ≤ 64) : 1 ≤ leastN r n ∧ leastN r n ≤ 7000 := by
  unfold leastN
  have b1 := bits_pos n h2 (by omega)
  have b2 := bits_le n h2
  generalize bitsN n = b at *
  unfold Rl at hr
  have h3 : (1 : Int) * 1 ≤ r.mn * (b : Int) := Int.mul_le_mul (by omega) (by omega) (by omega) (by omega)
  have h4 : r.mn * (b : Int) ≤ 1000 * 7 := Int.mul_le_mul (by omega) (by omega) (by omega) (by omega)
  omega
theorem gp_of {r : Ru} {n : Nat} {c : Int} (hr : Rl r) (h1 : 1 ≤ n) (h2 : n ≤ 64) (hc : 0 ≤ c) (ha : r.al ≠ 0) : ∃ S G D m E Q R, Gp r n c S G D m E Q R ∧ graceN r n c = R := by
  have hs := least_bounds hr h1 h2
  have he : graceN r n c = r.mo * leastN r n - (r.mo * leastN r n - leastN r n) * min c r.al / r.al := by unfold graceN; rw [if_neg ha]
  rw [he]
  generalize hS : leastN r n = S at *
  unfold Rl at hr
  have g1 : 1 * S ≤ r.mo * S := Int.mul_le_mul (by omega) (by omega) (by omega) (by omega)
  have g2 : r.mo * S ≤ 20 * 7000 := Int.mul_le_mul (by omega) (by omega) (by omega) (by omega)
  generalize hG : r.mo * S = G at *
  obtain ⟨D, hD⟩ : ∃ D, D = G - S := ⟨_, rfl⟩
  rw [← hD]
  obtain ⟨m, hm⟩ : ∃ m, m = min c r.al := ⟨_, rfl⟩
  rw [← hm]
  have m1 : 0 ≤ m ∧ m ≤ 10 ∧ m ≤ r.al := by omega
  have e1 : 0 ≤ D * m := Int.mul_nonneg (by omega) (by omega)
  have e2 : D * m ≤ 140000 * 10 := Int.mul_le_mul (by omega) (by omega) (by omega) (by omega)
  have e3 : D * m ≤ D * r.al := Int.mul_le_mul_of_nonneg_left (by omega) (by omega)
  obtain ⟨E, hE⟩ : ∃ E, E = D * m := ⟨_, rfl⟩
  rw [← hE] at e1 e2 e3 ⊢
  have q1 : 0 ≤ E / r.al := Int.ediv_nonneg e1 (by omega)
  have q2 : E / r.al ≤ D := by
    have := Int.ediv_le_ediv (c := r.al) (by omega) e3
    rwa [Int.mul_ediv_cancel _ ha] at this
  obtain ⟨Q, hQ⟩ : ∃ Q, Q = E / r.al := ⟨_, rfl⟩
  rw [← hQ] at q1 q2 ⊢
  exact ⟨S, G, D, m, E, Q, G - Q, ⟨⟨hS.symm, hs.1, hs.2⟩, ⟨hG.symm, by omega, by omega⟩, ⟨hD, by omega, by omega⟩, ⟨hm, m1.1, m1.2.1, m1.2.2⟩, ⟨hE, e1, by omega⟩, ⟨hQ, q1, q2⟩, ⟨rfl, by omega, by omega⟩⟩, rfl⟩

set_option maxRecDepth 100000 in
set_option maxHeartbeats 4000000 in
theorem grace_no (r : Ru) (n c : Int) (w : World) (h : mayG r n c = false) : Calls Try.prog 10 #[.agg #[.int .i64 r.mn, .int .i64 r.mo, .int .i64 r.al], .int .i64 n, .int .i64 c] w fun e w' => e = .returned (.tuple #[.int .i64 0, .int .i64 1]) ∧ Below w.heap.size w w' := by
  have HM := Lib.hid (fun W => mayR_any r W)
  have HB : Hid (Below w.heap.size w (w.alloc (.cells #[.int .i64 r.mn, .int .i64 r.mo, .int .i64 r.al] 24))) := Lib.hid ((Below.refl _ w).alloc (Nat.le_refl _) _)
  have BX : Hid ((w.alloc (.cells #[.int .i64 r.mn, .int .i64 r.mo, .int .i64 r.al] 24)).cell? ⟨w.heap.size, 0, none⟩ = some (.int .i64 r.mn) ∧ (w.alloc (.cells #[.int .i64 r.mn, .int .i64 r.mo, .int .i64 r.al] 24)).cell? ⟨w.heap.size, 1, none⟩ = some (.int .i64 r.mo) ∧ (w.alloc (.cells #[.int .i64 r.mn, .int .i64 r.mo, .int .i64 r.al] 24)).cell? ⟨w.heap.size, 2, none⟩ = some (.int .i64 r.al)) := Lib.hid ⟨by go_simp, by go_simp, by go_simp⟩
  have HG : Hid (rulesB r = true → ¬(1 ≤ n ∧ n ≤ 64 ∧ 0 ≤ c)) := Lib.hid (fun h1 h2 => by
    unfold mayG at h
    rw [h1] at h
    simp at h
    omega)
  clear h
  generalize rulesB r = L at *
  go_enter Try.func10, Try.ntmps10
  go_upto_region 1 with (fail)
  generalize (w.alloc (.cells #[.int .i64 r.mn, .int .i64 r.mo, .int .i64 r.al] 24)) = w1 at *
  obtain ⟨x0, x1, x2⟩ := BX.out
  have HMM := Lib.hid (HM.out w1)
  rcases L with _ | _
  · have ho : okE false = 1 := rfl
    rw [ho] at HMM
    go_wp2_with (go_at_call 13; refine HMM.out.mono ?_; rintro e w2 ⟨rfl, hb2⟩)
    refine bodyPost_ret (v := .tuple #[.int .i64 0, .int .i64 1]) (by simp [results, Try.results10, go_sem]) rfl ⟨rfl, HB.out.trans (hb2.mono HB.out.size)⟩
  have ho : okE true = 0 := rfl
  rw [ho] at HMM
  have hg := HG.out rfl
  clear HG HM ho
  by_cases b1 : n < 1
  · have e1 : decide (n < 1) = true := by simpa using b1
    clear hg
    go_wp2_with (go_at_call 13; refine HMM.out.mono ?_; rintro e w2 ⟨rfl, hb2⟩)
    refine bodyPost_ret (v := .tuple #[.int .i64 0, .int .i64 1]) (by simp [results, Try.results10, go_sem]) rfl ⟨rfl, HB.out.trans (hb2.mono HB.out.size)⟩
  have e1 : decide (n < 1) = false := by simpa using b1
  by_cases b2 : 64 < n
  · have e2 : decide (64 < n) = true := by simpa using b2
    clear hg b1
    go_wp2_with (go_at_call 13; refine HMM.out.mono ?_; rintro e w2 ⟨rfl, hb2⟩)
    refine bodyPost_ret (v := .tuple #[.int .i64 0, .int .i64 1]) (by simp [results, Try.results10, go_sem]) rfl ⟨rfl, HB.out.trans (hb2.mono HB.out.size)⟩
  have e2 : decide (64 < n) = false := by simpa using b2
  have b3 : c < 0 := by omega
  have e3 : decide (c < 0) = true := by simpa using b3
  clear hg b1 b2 b3
  go_wp2_with (go_at_call 13; refine HMM.out.mono ?_; rintro e w2 ⟨rfl, hb2⟩)
  refine bodyPost_ret (v := .tuple #[.int .i64 0, .int .i64 1]) (by simp [results, Try.results10, go_sem]) rfl ⟨rfl, HB.out.trans (hb2.mono HB.out.size)⟩

set_option maxRecDepth 100000 in
set_option maxHeartbeats 4000000 in
theorem grace_yes (r : Ru) (n : Nat) (c : Int) (w : World) (hr : Rl r) (h1 : 1 ≤ n) (h2 : n ≤ 64) (hc : 0 ≤ c) : Calls Try.prog 10 #[.agg #[.int .i64 r.mn, .int .i64 r.mo, .int .i64 r.al], .int .i64 (n : Int), .int .i64 c] w fun e w' => e = .returned (.tuple #[.int .i64 (graceN r n c), .int .i64 0]) ∧ Below w.heap.size w w' := by
  have HM := Lib.hid (fun W => mayR_any r W)
  rw [show okE (rulesB r) = 0 by rw [(rulesB_iff r).2 hr]; rfl] at HM
  have HB : Hid (Below w.heap.size w (w.alloc (.cells #[.int .i64 r.mn, .int .i64 r.mo, .int .i64 r.al] 24))) := Lib.hid ((Below.refl _ w).alloc (Nat.le_refl _) _)
  have BX : Hid ((w.alloc (.cells #[.int .i64 r.mn, .int .i64 r.mo, .int .i64 r.al] 24)).cell? ⟨w.heap.size, 0, none⟩ = some (.int .i64 r.mn) ∧ (w.alloc (.cells #[.int .i64 r.mn, .int .i64 r.mo, .int .i64 r.al] 24)).cell? ⟨w.heap.size, 1, none⟩ = some (.int .i64 r.mo) ∧ (w.alloc (.cells #[.int .i64 r.mn, .int .i64 r.mo, .int .i64 r.al] 24)).cell? ⟨w.heap.size, 2, none⟩ = some (.int .i64 r.al)) := Lib.hid ⟨by go_simp, by go_simp, by go_simp⟩
  have HLB := Lib.hid (least_bounds hr h1 h2)
  have HL := Lib.hid (fun W => len_any n W h2)
  have HLS : Hid (leastN r n = r.mn * (bitsN n : Int)) := Lib.hid rfl
  have HGA : Hid (r.al = 0 → graceN r n c = leastN r n) := Lib.hid (fun h => by unfold graceN; rw [if_pos h])
  have HGP := Lib.hid (fun h => gp_of (c := c) hr h1 h2 hc h)
  have e1 : decide ((n : Int) < 1) = false := by simp; omega
  have e2 : decide ((64 : Int) < (n : Int)) = false := by simp; omega
  have e3 : decide (c < 0) = false := by simp; omega
  have e1' : ¬n = 0 := by omega
  have e2' : ¬64 < n := by omega
  have hu : IntKind.u64.wrap (n : Int) = n := by simp [IntKind.wrap, IntKind.bits, IntKind.signed]; omega
  obtain ⟨GR, hGR⟩ : ∃ GR, graceN r n c = GR := ⟨_, rfl⟩
  rw [hGR] at HGA HGP ⊢
  clear hr h1 h2 hc hGR
  go_enter Try.func10, Try.ntmps10
  go_upto_region 1 with (fail)
  generalize (w.alloc (.cells #[.int .i64 r.mn, .int .i64 r.mo, .int .i64 r.al] 24)) = w1 at *
  obtain ⟨x0, x1, x2⟩ := BX.out
  have HMM := Lib.hid (HM.out w1)
  clear HM
  go_upto_region 3 with (go_at_call 13; refine HMM.out.mono ?_; rintro e w2 ⟨rfl, hb2⟩)
  have y0 := cell_on x0 hb2
  have y1 := cell_on x1 hb2
  have y2 := cell_on x2 hb2
  have HB2 : Hid (Below w.heap.size w w2) := Lib.hid (HB.out.trans (hb2.mono HB.out.size))
  clear x0 x1 x2 hb2 HMM HB BX
  have X0 : ∀ p : Regrown, (grow (redrawn w2 p.d) p.os).cell? ⟨w.heap.size, 0, none⟩ = some (.int .i64 r.mn) := fun p => cell_regrown y0 p.d p.os
  have HC : Hid (∀ p : Regrown, Calls Try.prog 27 #[.int .u64 (n : Int)] (grow (redrawn w2 p.d) p.os) fun e w' => e = .returned (.int .i64 (bitsN n : Nat)) ∧ Below (grow (redrawn w2 p.d) p.os).heap.size (grow (redrawn w2 p.d) p.os) w') := Lib.hid (fun p => (HL.out _).mono fun _ _ ⟨he, hw⟩ => ⟨he, hw ▸ Below.refl _ _⟩)
  generalize bitsN n = b at *
  have hlb := HLB.out
  have w1' : IntKind.i64.wrap (r.mn * (b : Int)) = leastN r n := by rw [← HLS.out, IntWalk.i64_in _ (by omega)]
  clear HL HLS hlb
  obtain ⟨S0, hS0⟩ : ∃ S0, leastN r n = S0 := ⟨_, rfl⟩
  have HS0 := Lib.hid hS0
  rw [hS0] at HGA HLB w1'
  clear hS0
  refine q_enter (by kernel_rfl) (by kernel_rfl) ?_
  iterate 7 (refine q_step ?_; intro K hK; go_simp; first | (refine hK _ ?_; clear hK K) | (refine ⟨_, fun p => Calls.regrown_of (by with_reducible exact HC.out p), hK _ ?_⟩; clear hK K))
  refine q_nil ?_
  intro w3 hb3
  have z0 := cell_on y0 hb3
  have z1 := cell_on y1 hb3
  have z2 := cell_on y2 hb3
  have HB3 : Hid (Below w.heap.size w w3) := Lib.hid (HB2.out.trans (hb3.mono HB2.out.size))
  clear X0 HC y0 y1 y2 HB2 hb3 w1'
  by_cases ha : r.al = 0
  · obtain rfl := HGA.out ha
    have d0 : (r.al == 0) = true := by simpa using ha
    clear HGA HGP ha
    go_wp2_with fail
    refine bodyPost_ret (v := .tuple #[.int .i64 GR, .int .i64 0]) (by simp [results, Try.results10, go_sem]) rfl ⟨rfl, HB3.out⟩
  · obtain ⟨S, G, D, m, E, Q, R, hgp, hgr⟩ := HGP.out ha
    have d0 : (r.al == 0) = false := by simpa using ha
    have d0' : ¬r.al = 0 := ha
    subst hgr
    obtain ⟨⟨s1, s2, s3⟩, ⟨g1, g2, g3⟩, ⟨d1, d2, d3⟩, ⟨m1, m2, m3, m4⟩, ⟨f1, f2, f3⟩, ⟨q1, q2, q3⟩, ⟨r1, r2, r3⟩⟩ := hgp
    obtain rfl : S0 = S := HS0.out.symm.trans s1.symm
    have v1 : IntKind.i64.wrap (r.mo * S0) = G := by rw [← g1, IntWalk.i64_in _ (by omega)]
    have v2 : IntKind.i64.wrap (G - S0) = D := by rw [← d1, IntWalk.i64_in _ (by omega)]
    have v3 : min c r.al = m := m1.symm
    have v4 : IntKind.i64.wrap (D * m) = E := by rw [← f1, IntWalk.i64_in _ (by omega)]
    have v5 : E.tdiv r.al = Q := by rw [q1, Int.tdiv_eq_ediv_of_nonneg f2]
    have v6 : IntKind.i64.wrap (G - Q) = GR := by rw [← r1, IntWalk.i64_in _ (by omega)]
    have v7 : IntKind.i64.wrap Q = Q := by rw [IntWalk.i64_in _ (by omega)]
    clear s1 s2 s3 g1 g2 g3 d1 d2 d3 m1 m2 m3 m4 f1 f2 f3 q1 q2 q3 r1 r2 r3 HGA HGP HLB
    go_wp2_with fail
    refine bodyPost_ret (v := .tuple #[.int .i64 GR, .int .i64 0]) (by simp [results, Try.results10, go_sem]) rfl ⟨rfl, HB3.out⟩

set_option maxRecDepth 100000 in
set_option maxHeartbeats 4000000 in
theorem rgrace_any (r : Ru) (n : Nat) (c : Int) (w : World) (hr : Rl r) (h1 : 1 ≤ n) (h2 : n ≤ 64) (hc : 0 ≤ c) : Calls Try.prog 12 #[.agg #[.int .i64 r.mn, .int .i64 r.mo, .int .i64 r.al], .int .i64 (n : Int), .int .i64 c] w fun e w' => e = .returned (.int .i64 (graceN r n c)) ∧ Below w.heap.size w w' := by
  have HB : Hid (Below w.heap.size w (w.alloc (.cells #[.int .i64 r.mn, .int .i64 r.mo, .int .i64 r.al] 24))) := Lib.hid ((Below.refl _ w).alloc (Nat.le_refl _) _)
  have BX : Hid ((w.alloc (.cells #[.int .i64 r.mn, .int .i64 r.mo, .int .i64 r.al] 24)).cell? ⟨w.heap.size, 0, none⟩ = some (.int .i64 r.mn) ∧ (w.alloc (.cells #[.int .i64 r.mn, .int .i64 r.mo, .int .i64 r.al] 24)).cell? ⟨w.heap.size, 1, none⟩ = some (.int .i64 r.mo) ∧ (w.alloc (.cells #[.int .i64 r.mn, .int .i64 r.mo, .int .i64 r.al] 24)).cell? ⟨w.heap.size, 2, none⟩ = some (.int .i64 r.al)) := Lib.hid ⟨by go_simp, by go_simp, by go_simp⟩
  have HLB := Lib.hid (least_bounds hr h1 h2)
  have HLS : Hid (leastN r n = r.mn * (bitsN n : Int)) := Lib.hid rfl
  have HGA : Hid (r.al = 0 → graceN r n c = leastN r n) := Lib.hid (fun h => by unfold graceN; rw [if_pos h])
  have HGP := Lib.hid (fun h => gp_of (c := c) hr h1 h2 hc h)
  have HN := Lib.hid h2
  obtain ⟨GR, hGR⟩ : ∃ GR, graceN r n c = GR := ⟨_, rfl⟩
  rw [hGR] at HGA HGP ⊢
  clear hr h1 h2 hc hGR
  go_enter Try.func12, Try.ntmps12
  go_upto_region 1 with (fail)
  generalize (w.alloc (.cells #[.int .i64 r.mn, .int .i64 r.mo, .int .i64 r.al] 24)) = w1 at *
  obtain ⟨x0, x1, x2⟩ := BX.out
  clear BX
  go_wp2_with fail
  go_loop [1, 7] (fun a b => ∃ j d : Nat, a = .int .i64 j ∧ b = .int .i64 d ∧ Hid (j ≤ 64 ∧ bitsN n = d + bitsN j)) (fun a _ => (intOf a).toNat)
  case atStart => exact ⟨n, 0, rfl, rfl, Lib.hid ⟨HN.out, by omega⟩⟩
  case round =>
    obtain ⟨j, d, rfl, rfl, HJ⟩ := hrel
    by_cases hj : 0 < j
    · have e0 : decide ((0 : Int) < (j : Int)) = true := by simpa using hj
      have e0' : decide (0 < j) = true := by simpa using hj
      have hbh := bits_half j HJ.out.1 hj
      have HQ : Hid (j / 2 ≤ 64 ∧ bitsN n = (d + 1) + bitsN (j / 2)) := Lib.hid (by have := HJ.out; omega)
      have hd : d ≤ 7 := by have := HJ.out.2; have := bits_le n HN.out; omega
      have HWA : Hid (wrap64 ((j : Int) / 2) = ((j / 2 : Nat) : Int)) := Lib.hid (by have := HJ.out.1; unfold wrap64; omega)
      have HH : Hid (j / 2 < j) := Lib.hid (by omega)
      clear hbh
      go_wp2_with fail
      rw [HWA.out]
      go_round
      case rel => exact ⟨j / 2, d + 1, rfl, by go_num, HQ⟩
      case measure => have := HH.out; simp [intOf]; omega
    · have e0 : decide ((0 : Int) < (j : Int)) = false := by simp; omega
      have e0' : decide (0 < j) = false := by simp; omega
      have hbz : bitsN 0 = 0 := rfl
      have HD : Hid (bitsN n = d) := Lib.hid (by have := HJ.out.2; rw [show j = 0 by omega, hbz] at this; omega)
      clear hbz HJ
      rw [HD.out] at HLS
      have hlb := HLB.out
      have w1' : IntKind.i64.wrap (r.mn * (d : Int)) = leastN r n := by rw [← HLS.out, IntWalk.i64_in _ (by omega)]
      clear HLS hlb HD hj
      obtain ⟨S0, hS0⟩ : ∃ S0, leastN r n = S0 := ⟨_, rfl⟩
      have HS0 := Lib.hid hS0
      rw [hS0] at HGA HLB w1'
      clear hS0
      by_cases ha : r.al = 0
      · obtain rfl := HGA.out ha
        have d0 : (r.al == 0) = true := by simpa using ha
        clear HGA HGP ha
        go_wp2_with fail
        go_ret
        exact ⟨rfl, HB.out⟩
      obtain ⟨S, G, D, m, E, Q, R, hgp, hgr⟩ := HGP.out ha
      have d0 : (r.al == 0) = false := by simpa using ha
      have d0' : ¬r.al = 0 := ha
      subst hgr
      have X0 : ∀ p : Regrown, (grow (redrawn w1 p.d) p.os).cell? ⟨w.heap.size, 1, none⟩ = some (.int .i64 r.mo) := fun p => cell_regrown x1 p.d p.os
      have X2 : ∀ p : Regrown, (grow (redrawn w1 p.d) p.os).cell? ⟨w.heap.size, 2, none⟩ = some (.int .i64 r.al) := fun p => cell_regrown x2 p.d p.os
      obtain ⟨⟨s1, s2, s3⟩, ⟨g1, g2, g3⟩, ⟨d1, d2, d3⟩, ⟨m1, m2, m3, m4⟩, ⟨f1, f2, f3⟩, ⟨q1, q2, q3⟩, ⟨r1, r2, r3⟩⟩ := hgp
      obtain rfl : S0 = S := HS0.out.symm.trans s1.symm
      have v1 : IntKind.i64.wrap (r.mo * S0) = G := by rw [← g1, IntWalk.i64_in _ (by omega)]
      have v2 : IntKind.i64.wrap (G - S0) = D := by rw [← d1, IntWalk.i64_in _ (by omega)]
      have v4 : IntKind.i64.wrap (D * m) = E := by rw [← f1, IntWalk.i64_in _ (by omega)]
      have v5 : E.tdiv r.al = Q := by rw [q1, Int.tdiv_eq_ediv_of_nonneg f2]
      have v6 : IntKind.i64.wrap (G - Q) = GR := by rw [← r1, IntWalk.i64_in _ (by omega)]
      have v7 : IntKind.i64.wrap Q = Q := by rw [IntWalk.i64_in _ (by omega)]
      clear HGA HGP HLB HS0 ha
      by_cases hca : r.al < c
      · have dc : decide (r.al < c) = true := by simpa using hca
        obtain rfl : r.al = m := by omega
        clear hca
        clear s1 s2 s3 g1 g2 g3 d1 d2 d3 m1 m2 m3 m4 f1 f2 f3 q1 q2 q3 r1 r2 r3
        go_upto_region 10 with (fail)
        refine q_enter (by kernel_rfl) (by kernel_rfl) ?_
        iterate 17 (refine q_step ?_; intro K hK; go_simp; refine hK _ ?_; clear hK K)
        refine q_nil ?_
        intro w3 hb3
        have HB3 : Hid (Below w.heap.size w w3) := Lib.hid (HB.out.trans (hb3.mono HB.out.size))
        clear hb3
        go_wp2_with fail
        go_ret
        exact ⟨rfl, HB3.out⟩
      · have dc : decide (r.al < c) = false := by simpa using hca
        obtain rfl : c = m := by omega
        clear hca
        clear s1 s2 s3 g1 g2 g3 d1 d2 d3 m1 m2 m3 m4 f1 f2 f3 q1 q2 q3 r1 r2 r3
        go_upto_region 10 with (fail)
        refine q_enter (by kernel_rfl) (by kernel_rfl) ?_
        iterate 17 (refine q_step ?_; intro K hK; go_simp; refine hK _ ?_; clear hK K)
        refine q_nil ?_
        intro w3 hb3
        have HB3 : Hid (Below w.heap.size w w3) := Lib.hid (HB.out.trans (hb3.mono HB.out.size))
        clear hb3
        go_wp2_with fail
        go_ret
        exact ⟨rfl, HB3.out⟩

theorem grace_any (r : Ru) (n c : Int) (w : World) : Calls Try.prog 10 #[.agg #[.int .i64 r.mn, .int .i64 r.mo, .int .i64 r.al], .int .i64 n, .int .i64 c] w fun e w' => e = .returned (.tuple #[.int .i64 (graceA r n c).1, .int .i64 (graceA r n c).2]) ∧ Below w.heap.size w w' := by
  unfold graceA
  rcases h : mayG r n c with _ | _
  · rw [if_neg (by decide)]
    exact grace_no r n c w h
  · rw [if_pos rfl]
    have h' := h
    simp only [mayG, Bool.and_eq_true, decide_eq_true_iff, rulesB_iff] at h'
    obtain ⟨hr, h1, h2, h3⟩ := h'
    obtain ⟨m, rfl⟩ := Int.eq_ofNat_of_zero_le (show 0 ≤ n by omega)
    have := grace_yes r m c w hr (by omega) (by omega) h3
    simpa using this
end Go.Proofs.Ytknpbbplolncpaa
