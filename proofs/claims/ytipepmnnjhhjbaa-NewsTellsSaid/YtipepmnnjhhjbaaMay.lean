/-
  The walk of the document's May.
-/
import Derived.Test.YtipepmnnjhhjbaaTurn
namespace Go.Proofs.Ytipepmnnjhhjbaa
open Go.Sort Go.RowKit Go.Proofs.Ytipepmnnjhhjbaa.Pure

set_option maxRecDepth 100000 in
set_option maxHeartbeats 4000000 in
theorem may_any (A : Option Addr) (c : Nat) (q : List Td) (w : World) (hn : q.length ≤ 1000) (h : Ts w A q) (L : Bool) (hL : mayQ q = L) :
    Calls Try.prog 15 #[.slice A q.length c] w fun e w' => e = .returned (.bool L) ∧ Below w.heap.size w w' := by
  have H := Lib.hid h
  have HL : Hid (L = true ↔ (∀ j, j < q.length → mayT (td q j) = true) ∧ ∀ j, j + 1 < q.length → (td q j).w < (td q (j + 1)).w) := Lib.hid (by rw [← hL]; exact mayQ_iff q)
  clear h hL
  go_enter Try.func15, Try.ntmps15
  go_wp2_with fail
  go_loopw [3] (fun i wr => ∃ k : Nat, i = .int .i64 k ∧ k ≤ q.length ∧ Hid ((∀ j, j < k → mayT (td q j) = true) ∧ ∀ j, j + 1 < k → (td q j).w < (td q (j + 1)).w) ∧ Hid (Below w.heap.size w wr)) (fun i _ => q.length - (intOf i).toNat)
  case atStart => exact ⟨0, rfl, Nat.zero_le _, Lib.hid ⟨fun j hj => absurd hj (Nat.not_lt_zero j), fun j hj => absurd hj (Nat.not_lt_zero _)⟩, Lib.hid (Below.refl _ _)⟩
  case round =>
    obtain ⟨k, rfl, hk, hok, hb⟩ := hrel
    by_cases hlt : k < q.length
    · obtain ⟨ad, rfl, hlo, h1⟩ := (H.out.on hb.out) k hlt
      obtain ⟨a0, a1, a2, a3⟩ := h1.flat
      have k0 : (0 : Int) ≤ (k : Int) := by omega
      have k1 : (k : Int) < (q.length : Int) := by omega
      have e0 : decide ((k : Int) < (q.length : Int)) = true := by simpa using k1
      have HF : Hid (mayT (td q k) = false → L = false) := Lib.hid (fun h => by
        rcases L with _ | _
        · rfl
        · have := (HL.out.1 rfl).1 k hlt
          rw [h] at this; cases this)
      have HN : Hid (0 < k → (td q k).w ≤ (td q (k - 1)).w → L = false) := Lib.hid (fun hp h => by
        rcases L with _ | _
        · rfl
        · have := (HL.out.1 rfl).2 (k - 1) (by omega)
          rw [show k - 1 + 1 = k by omega] at this
          omega)
      have HS : Hid (mayT (td q k) = true ∧ (k = 0 ∨ (td q (k - 1)).w < (td q k).w) → (∀ j, j < k + 1 → mayT (td q j) = true) ∧ ∀ j, j + 1 < k + 1 → (td q j).w < (td q (j + 1)).w) := Lib.hid (fun ⟨h, h2⟩ => by
        constructor
        · intro j hj
          rcases Nat.lt_or_ge j k with hjk | hjk
          · exact hok.out.1 j hjk
          · obtain rfl : j = k := by omega
            exact h
        · intro j hj
          rcases Nat.lt_or_ge (j + 1) k with hjk | hjk
          · exact hok.out.2 j hjk
          · obtain rfl : k = j + 1 := by omega
            rcases h2 with h2 | h2
            · omega
            · rw [show j + 1 - 1 = j by omega] at h2
              exact h2)
      have HP : Hid (0 < k → TAt wr (ad.add ((k - 1) * 4)) (td q (k - 1))) := Lib.hid (fun hp => by
        obtain ⟨ad', e, _, h4⟩ := (H.out.on hb.out) (k - 1) (by omega)
        obtain rfl := Option.some.inj e
        exact h4)
      have HO : Hid (∀ p : Regrown, Calls Try.prog 18 #[.agg #[.int .i64 (td q k).w, .int .u64 (td q k).i, .int .i64 (td q k).s]] (grow (redrawn wr p.d) p.os) fun e w' => e = .returned (.bool (oneB (td q k).n)) ∧ Below (grow (redrawn wr p.d) p.os).heap.size (grow (redrawn wr p.d) p.os) w') := Lib.hid (fun p => one_any (td q k).n _)
      have HM : Hid (mayT (td q k) = true ↔ oneB (td q k).n = true ∧ 1 ≤ (td q k).l ∧ (td q k).l ≤ 64) := Lib.hid (by unfold mayT; simp only [Bool.and_eq_true, decide_eq_true_iff, and_assoc])
      have HMF : Hid (¬(oneB (td q k).n = true ∧ 1 ≤ (td q k).l ∧ (td q k).l ≤ 64) → L = false) := Lib.hid (fun h => HF.out (by
        rcases hm : mayT (td q k) with _ | _
        · rfl
        · exact absurd (HM.out.1 hm) h))
      clear HF
      generalize hM : mayT (td q k) = M at *
      generalize hx : td q k = x at *
      generalize hy : td q (k - 1) = y at *
      generalize hO1 : oneB x.n = O1 at *
      clear h1 hM hx hy hok hO1
      have C0 : ∀ p : Regrown, (grow (redrawn wr p.d) p.os).cell? (ad.add (k * 4)) = some (.int .i64 x.w) := fun p => cell_regrown a0 p.d p.os
      have C1 : ∀ p : Regrown, (grow (redrawn wr p.d) p.os).cell? ⟨(ad.add (k * 4)).block, (ad.add (k * 4)).off + 1, none⟩ = some (.int .u64 x.i) := fun p => cell_regrown a1 p.d p.os
      have C2 : ∀ p : Regrown, (grow (redrawn wr p.d) p.os).cell? ⟨(ad.add (k * 4)).block, (ad.add (k * 4)).off + 2, none⟩ = some (.int .i64 x.s) := fun p => cell_regrown a2 p.d p.os
      have C3 : ∀ p : Regrown, (grow (redrawn wr p.d) p.os).cell? ⟨(ad.add (k * 4)).block, (ad.add (k * 4)).off + 3, none⟩ = some (.int .i64 x.l) := fun p => cell_regrown a3 p.d p.os
      clear a0 a1 a2 a3
      generalize x.w = xw at *
      generalize x.i = xi at *
      generalize x.s = xs at *
      generalize x.l = xl at *
      clear x
      rcases O1 with _ | _
      · obtain rfl := HMF.out (by simp)
        clear HS HN HP HM HMF
        go_upto_region 4 with (fail)
        refine q_enter (by kernel_rfl) (by kernel_rfl) ?_
        iterate 43 (refine q_step ?_; intro K hK; go_simp; first | (refine hK _ ?_; clear hK K) | (refine ⟨_, fun p => Calls.regrown_of (by with_reducible exact HO.out p), hK _ ?_⟩; clear hK K))
        refine q_nil ?_
        intro w3 hb3
        have HB3 : Hid (Below w.heap.size w w3) := Lib.hid (hb.out.trans (hb3.mono hb.out.size))
        clear hb3
        go_wp2_with fail
        go_ret
        exact ⟨rfl, HB3.out⟩
      by_cases b1 : xl < 1
      · have e1 : decide (xl < 1) = true := by simpa using b1
        obtain rfl := HMF.out (by omega)
        clear b1 HS HN HP HM HMF
        go_upto_region 4 with (fail)
        refine q_enter (by kernel_rfl) (by kernel_rfl) ?_
        iterate 43 (refine q_step ?_; intro K hK; go_simp; first | (refine hK _ ?_; clear hK K) | (refine ⟨_, fun p => Calls.regrown_of (by with_reducible exact HO.out p), hK _ ?_⟩; clear hK K))
        refine q_nil ?_
        intro w3 hb3
        have HB3 : Hid (Below w.heap.size w w3) := Lib.hid (hb.out.trans (hb3.mono hb.out.size))
        clear hb3
        go_wp2_with fail
        go_ret
        exact ⟨rfl, HB3.out⟩
      have e1 : decide (xl < 1) = false := by simpa using b1
      by_cases b2 : 64 < xl
      · have e2 : decide (64 < xl) = true := by simpa using b2
        obtain rfl := HMF.out (by omega)
        clear b1 b2 HS HN HP HM HMF
        go_upto_region 4 with (fail)
        refine q_enter (by kernel_rfl) (by kernel_rfl) ?_
        iterate 43 (refine q_step ?_; intro K hK; go_simp; first | (refine hK _ ?_; clear hK K) | (refine ⟨_, fun p => Calls.regrown_of (by with_reducible exact HO.out p), hK _ ?_⟩; clear hK K))
        refine q_nil ?_
        intro w3 hb3
        have HB3 : Hid (Below w.heap.size w w3) := Lib.hid (hb.out.trans (hb3.mono hb.out.size))
        clear hb3
        go_wp2_with fail
        go_ret
        exact ⟨rfl, HB3.out⟩
      have e2 : decide (64 < xl) = false := by simpa using b2
      have hMt : M = true := HM.out.2 ⟨rfl, by omega, by omega⟩
      clear b1 b2 HM HMF
      by_cases hk0 : k = 0
      · have eg : decide ((0 : Int) < (k : Int)) = false := by simp; omega
        have en : ¬0 < k := by omega
        have HS' := Lib.hid (HS.out ⟨hMt, .inl hk0⟩)
        clear hk0 HS HN HP hMt
        go_upto_region 4 with (fail)
        refine q_enter (by kernel_rfl) (by kernel_rfl) ?_
        iterate 43 (refine q_step ?_; intro K hK; go_simp; first | (refine hK _ ?_; clear hK K) | (refine ⟨_, fun p => Calls.regrown_of (by with_reducible exact HO.out p), hK _ ?_⟩; clear hK K))
        refine q_nil ?_
        intro w3 hb3
        have HB3 : Hid (Below w.heap.size w w3) := Lib.hid (hb.out.trans (hb3.mono hb.out.size))
        clear hb3
        go_wp2_with fail
        go_roundw
        case rel => exact ⟨k + 1, by go_num, by omega, HS', HB3⟩
        case measure => simp [intOf]; omega
      have eg : decide ((0 : Int) < (k : Int)) = true := by simp; omega
      have en : 0 < k := by omega
      obtain ⟨p0, _, _, _⟩ := (HP.out (by omega)).flat
      have P0 : ∀ p : Regrown, (grow (redrawn wr p.d) p.os).cell? (ad.add ((k - 1) * 4)) = some (.int .i64 y.w) := fun p => cell_regrown p0 p.d p.os
      have hkm : IntKind.i64.wrap ((k : Int) - 1) = ((k - 1 : Nat) : Int) := by rw [IntWalk.i64_in _ (by omega)]; omega
      have g0 : (0 : Int) ≤ ((k - 1 : Nat) : Int) := by omega
      have g1 : ((k - 1 : Nat) : Int) < (q.length : Int) := by omega
      have g1' : k - 1 < q.length := by omega
      have HN' := Lib.hid (HN.out (by omega))
      have HS2 := Lib.hid (fun h => HS.out ⟨hMt, .inr h⟩)
      generalize y.w = yw at *
      generalize k - 1 = km at *
      clear p0 hk0 HS HN HP hMt
      by_cases b3 : xw ≤ yw
      · have e3 : decide (xw ≤ yw) = true := by simpa using b3
        obtain rfl := HN'.out b3
        clear b3 HN' HS2
        go_upto_region 4 with (fail)
        refine q_enter (by kernel_rfl) (by kernel_rfl) ?_
        iterate 43 (refine q_step ?_; intro K hK; go_simp; first | (refine hK _ ?_; clear hK K) | (refine ⟨_, fun p => Calls.regrown_of (by with_reducible exact HO.out p), hK _ ?_⟩; clear hK K))
        refine q_nil ?_
        intro w3 hb3
        have HB3 : Hid (Below w.heap.size w w3) := Lib.hid (hb.out.trans (hb3.mono hb.out.size))
        clear hb3
        go_wp2_with fail
        go_ret
        exact ⟨rfl, HB3.out⟩
      have e3 : decide (xw ≤ yw) = false := by simpa using b3
      have HS' := Lib.hid (HS2.out (by omega))
      clear b3 HN' HS2
      go_upto_region 4 with (fail)
      refine q_enter (by kernel_rfl) (by kernel_rfl) ?_
      iterate 43 (refine q_step ?_; intro K hK; go_simp; first | (refine hK _ ?_; clear hK K) | (refine ⟨_, fun p => Calls.regrown_of (by with_reducible exact HO.out p), hK _ ?_⟩; clear hK K))
      refine q_nil ?_
      intro w3 hb3
      have HB3 : Hid (Below w.heap.size w w3) := Lib.hid (hb.out.trans (hb3.mono hb.out.size))
      clear hb3
      go_wp2_with fail
      go_roundw
      case rel => exact ⟨k + 1, by go_num, by omega, HS', HB3⟩
      case measure => simp [intOf]; omega
    · have hk' : k = q.length := by omega
      have hLt : L = true := HL.out.2 ⟨fun i hi => hok.out.1 i (by omega), fun i hi => hok.out.2 i (by omega)⟩
      subst hLt
      have e0 : decide ((k : Int) < (q.length : Int)) = false := by simp; omega
      clear hk'
      go_wp2_with fail
      go_ret
      exact ⟨rfl, hb.out⟩
end Go.Proofs.Ytipepmnnjhhjbaa
