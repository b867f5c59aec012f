/-
  The walks of the library's comparisons, and of the law's cut.
-/
import Derived.Test.YtdbndkccgpmkbaaPlan
import Derived.Test.YtdbndkccgpmkbaaLast
namespace Go.Proofs.Ytdbndkccgpmkbaa
open Go.Sort Go.RowKit Go.Proofs.Ytdbndkccgpmkbaa.Pure

set_option maxHeartbeats 400000 in
theorem nanI (a : Int) (w : World) : Calls Try.prog 47 #[.int .i64 a] w fun e w' => e = .returned (.bool false) ∧ w = w' := by
  have h : (a != a) = false := by simp
  go_enter Try.func47, Try.ntmps47
  go_wp2
  go_ret
  exact ⟨rfl, rfl⟩
set_option maxHeartbeats 400000 in
theorem less_any (a b : Int) (w : World) : Calls Try.prog 46 #[.int .i64 a, .int .i64 b] w fun e w' => e = .returned (.bool (decide (a < b))) ∧ Below w.heap.size w w' := by
  rcases h : decide (a < b) with _ | _
  all_goals
    go_enter Try.func46, Try.ntmps46
    go_wp2_with (go_at_call 47; refine (nanI _ _).mono ?_; rintro e w' ⟨rfl, rfl⟩)
    go_ret
    exact ⟨rfl, Below.refl _ _⟩

/-- The first one that is not 0. -/
def firstN : List Int → Int
  | [] => 0
  | c :: r => if c != 0 then c else firstN r
theorem firstN_drop (cs : List Int) (k : Nat) (h : k < cs.length) : firstN (cs.drop k) = if cs.getD k 0 != 0 then cs.getD k 0 else firstN (cs.drop (k + 1)) := by
  rw [List.drop_eq_getElem_cons h, firstN]
  simp [List.getD, h]

set_option maxRecDepth 100000 in
set_option maxHeartbeats 400000 in
theorem or_any (ad : Addr) (cs : List Int) (c : Nat) (w : World) (hn : cs.length ≤ 100) (h : ∀ j, j < cs.length → w.cell? (ad.add j) = some (.int .i64 (cs.getD j 0))) :
    Calls Try.prog 22 #[.slice (some ad) cs.length c] w fun e w' => e = .returned (.int .i64 (firstN cs)) ∧ w = w' := by
  have H := Lib.hid h
  clear h
  go_enter Try.func22, Try.ntmps22
  go_wp2
  go_loop [8] (fun i => ∃ k : Nat, k ≤ cs.length ∧ i = .int .i64 k ∧ Hid (firstN cs = firstN (cs.drop k))) (fun i => cs.length - (intOf i).toNat)
  case atStart => exact ⟨0, Nat.zero_le _, rfl, Lib.hid rfl⟩
  case round =>
    obtain ⟨k, hk, rfl, hf⟩ := hrel
    by_cases hlt : k < cs.length
    · have hcell := H.out k hlt
      have HF := Lib.hid (firstN_drop cs k hlt)
      generalize cs.getD k 0 = y at *
      rcases hy : (y != 0) with _ | _
      · rw [hy] at HF
        go_wp2
        go_round
        case rel => exact ⟨k + 1, by omega, by go_num, Lib.hid (by rw [hf.out, HF.out]; rfl)⟩
        case measure => simp [intOf]; omega
      · rw [hy] at HF
        go_wp2
        go_ret
        exact ⟨ret_int (by rw [hf.out, HF.out]; rfl), rfl⟩
    · obtain rfl : k = cs.length := by omega
      go_wp2
      go_ret
      exact ⟨ret_int (by rw [hf.out]; simp [firstN]), rfl⟩

theorem wrap_nat (d : Nat) (h : d < 1000000) : IntKind.i64.wrap (d : Int) = (d : Int) := by
  have h1 : (d : Int) < 1000000 := by omega
  simp only [IntKind.wrap, IntKind.bits, IntKind.signed]
  simp
  omega

set_option maxRecDepth 100000 in
set_option maxHeartbeats 1000000 in
theorem sorted_any (A : Option Addr) (c lo hi : Nat) (xs : List Int) (w : World) (hn : xs.length ≤ 100000) (h : Has w lo hi A xs) (hh : hi ≤ w.heap.size) (L : Bool) (hL : risesB xs = L) :
    Calls Try.prog 43 #[.slice A xs.length c] w fun e w' => e = .returned (.bool L) ∧ Below w.heap.size w w' := by
  have H := Lib.hid h
  have HL : Hid ((∀ i, i < xs.length - 1 → xs.getD i 0 ≤ xs.getD (i + 1) 0) ↔ L = true) := Lib.hid (by rw [← hL, risesB_iff])
  clear h hL
  go_enter Try.func43, Try.ntmps43
  go_wp2_with fail
  go_loopw [3] (fun i wr => ∃ k : Nat, i = .int .i64 ((k : Int) - 1) ∧ k ≤ xs.length ∧ Hid (∀ j, k ≤ j + 1 → j < xs.length - 1 → xs.getD j 0 ≤ xs.getD (j + 1) 0) ∧ Hid (Below w.heap.size w wr)) (fun i _ => (intOf i + 1).toNat)
  case atStart => exact ⟨xs.length, by go_num, Nat.le_refl _, Lib.hid (fun j h1 h2 => absurd h2 (by omega)), Lib.hid (Below.refl _ _)⟩
  case round =>
    obtain ⟨k, rfl, hk, hok, hb⟩ := hrel
    rcases Nat.lt_or_ge k 2 with h2 | h2
    · have hLt : L = true := HL.out.1 (fun i hi => hok.out i (by omega) hi)
      subst hLt
      have e0 : decide ((0 : Int) < (k : Int) - 1) = false := by simp; omega
      go_wp2_with fail
      go_ret
      exact ⟨rfl, hb.out⟩
    · obtain ⟨m, d, hkm, hmd⟩ : ∃ m d, k = m + 1 ∧ m = d + 1 := ⟨k - 1, k - 2, by omega, by omega⟩
      rw [show (k : Int) - 1 = (m : Int) by omega]
      have e0 : decide ((0 : Int) < (m : Int)) = true := by simp; omega
      have e0' : 0 < m := by omega
      obtain ⟨ad, rfl, hlo, hhi, h1⟩ := (H.out.on hb.out hh) m (by omega)
      obtain ⟨ad', e, _, _, h0⟩ := (H.out.on hb.out hh) d (by omega)
      obtain rfl := Option.some.inj e
      have A0 := fun dd os => cell_regrown h0 dd os
      have A1 := fun dd os => cell_regrown h1 dd os
      have i0 : (0 : Int) ≤ (m : Int) := by omega
      have i1 : (m : Int) < (xs.length : Int) := by omega
      have i2 : (0 : Int) ≤ (d : Int) := by omega
      have i3 : (d : Int) < (xs.length : Int) := by omega
      have i4 : IntKind.i64.wrap ((m : Int) - 1) = (d : Int) := by rw [show (m : Int) - 1 = (d : Int) by omega]; exact wrap_nat d (by omega)
      have HF : Hid (xs.getD m 0 < xs.getD d 0 → L = false) := Lib.hid (fun hlt => by
        rcases L with _ | _
        · rfl
        · have := HL.out.2 rfl d (by omega); subst hmd; omega)
      have HT : Hid (¬ xs.getD m 0 < xs.getD d 0 → ∀ j, m ≤ j + 1 → j < xs.length - 1 → xs.getD j 0 ≤ xs.getD (j + 1) 0) := Lib.hid (fun hge j h1 h2 => by
        rcases Nat.lt_or_ge d j with hj | hj
        · exact hok.out j (by omega) h2
        · obtain rfl : j = d := by omega
          subst hmd; omega)
      have hkm' : m ≤ xs.length := by omega
      have hkm2 : m < k := by omega
      have HMD := Lib.hid hmd
      clear hkm hmd
      have hz := Lib.hid hb.out.size
      generalize xs.getD m 0 = y at *
      generalize xs.getD d 0 = x at *
      have HC := Lib.hid (fun p : Regrown => less_any y x (grow (redrawn wr p.d) p.os))
      clear h0 h1 hok
      rcases hyx : decide (y < x) with _ | _
      · rw [hyx] at HC
        have HT' := Lib.hid (HT.out (by simpa using hyx))
        clear hyx HT HF
        go_upto_region 4 with (fail)
        refine q_enter (by kernel_rfl) (by kernel_rfl) ?_
        iterate 10 (refine q_step ?_; intro K hK; go_simp; first | (refine hK _ ?_; clear hK K) | (refine ⟨_, fun p => Calls.regrown_of (by with_reducible exact HC.out p), hK _ ?_⟩; clear hK K))
        refine q_nil ?_
        intro wz hbz
        have HZ : Hid (Below w.heap.size w wz) := Lib.hid (hb.out.trans (hbz.mono hz.out))
        clear hbz A0 A1 hb hz
        go_wp2_with fail
        go_roundw
        case rel => exact ⟨m, by (try rw [i4]); exact congrArg (Value.int .i64) (by have := HMD.out; omega), hkm', HT', HZ⟩
        case measure => simp [intOf]; have := HMD.out; omega
      · rw [hyx] at HC
        obtain rfl := HF.out (by simpa using hyx)
        clear hyx HT HF
        go_upto_region 4 with (fail)
        refine q_enter (by kernel_rfl) (by kernel_rfl) ?_
        iterate 10 (refine q_step ?_; intro K hK; go_simp; first | (refine hK _ ?_; clear hK K) | (refine ⟨_, fun p => Calls.regrown_of (by with_reducible exact HC.out p), hK _ ?_⟩; clear hK K))
        refine q_nil ?_
        intro wz hbz
        have HZ : Hid (Below w.heap.size w wz) := Lib.hid (hb.out.trans (hbz.mono hz.out))
        clear hbz A0 A1 hb hz
        go_wp2_with fail
        go_ret
        exact ⟨rfl, HZ.out⟩

end Go.Proofs.Ytdbndkccgpmkbaa
