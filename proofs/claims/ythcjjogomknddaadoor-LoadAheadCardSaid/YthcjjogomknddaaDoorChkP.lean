/-
  The walks of Check, and of the document's May.
-/
import Derived.Test.YthcjjogomknddaaDoorPts
namespace Go.Proofs.YthcjjogomknddaaDoor
open Go.Sort Go.RowKit Go.Proofs.YthcjjogomknddaaDoor.Pure

/-- What is asked of the point at j. -/
def OkP (l : List Pt) (j : Nat) : Prop := 0 ≤ (pt l j).n ∧ (pt l j).n < 64 ∧ (0 < j → ltP (pt l (j - 1)) (pt l j) = true)
theorem okp_next {l : List Pt} {k : Nat} (h : ∀ j, j < k → OkP l j) (hk : OkP l k) : ∀ j, j < k + 1 → OkP l j := fun j hj => by
  rcases Nat.lt_or_ge j k with hjk | hjk
  · exact h j hjk
  · obtain rfl : j = k := by omega
    exact hk

set_option maxRecDepth 100000 in
set_option maxHeartbeats 4000000 in
theorem check_any (A : Option Addr) (c : Nat) (l : List Pt) (w : World) (hn : l.length ≤ 100000) (h : Ps w A l) (L : Bool) (hL : mayB l = L) :
    Calls Tryd.prog 74 #[.slice A l.length c] w fun e w' => e = .returned (.int .i64 (okE L)) ∧ Below w.heap.size w w' := by
  have H := Lib.hid h
  have HL : Hid (L = true ↔ l.length ≤ 2048 ∧ ∀ j, j < l.length → OkP l j) := Lib.hid (by rw [← hL]; exact mayB_iff l)
  clear h hL
  by_cases hbig : 2048 < l.length
  · obtain rfl : L = false := by
      rcases L with _ | _
      · rfl
      · have := (HL.out.1 rfl).1; omega
    have e0 : decide ((2048 : Int) < (l.length : Int)) = true := decide_eq_true (by omega)
    have e0' : decide (2048 < l.length) = true := decide_eq_true (by omega)
    clear HL H
    go_enter Tryd.func74, Tryd.ntmps74
    go_wp2_with fail
    go_ret
    exact ⟨rfl, Below.refl _ _⟩
  have e0 : decide ((2048 : Int) < (l.length : Int)) = false := decide_eq_false (by omega)
  have e0' : decide (2048 < l.length) = false := decide_eq_false (by omega)
  go_enter Tryd.func74, Tryd.ntmps74
  go_wp2_with fail
  clear e0 e0'
  go_loopw [10] (fun i wr => ∃ k : Nat, i = .int .i64 k ∧ k ≤ l.length ∧ Hid (∀ j, j < k → OkP l j) ∧ Hid (Below w.heap.size w wr)) (fun i _ => l.length - (intOf i).toNat)
  case atStart => exact ⟨0, rfl, Nat.zero_le _, Lib.hid (fun j hj => absurd hj (Nat.not_lt_zero j)), Lib.hid (Below.refl _ _)⟩
  case round =>
    obtain ⟨k, rfl, hk, hok, hb⟩ := hrel
    by_cases hlt : k < l.length
    · obtain ⟨ad, rfl, hlo, h1⟩ := (H.out.on hb.out) k hlt
      obtain ⟨a0, a1, a2⟩ := h1.flat
      have k0 : (0 : Int) ≤ (k : Int) := by omega
      have k1 : (k : Int) < (l.length : Int) := by omega
      have e0 : decide ((k : Int) < (l.length : Int)) = true := by simpa using k1
      have hsz := hb.out.size
      have HB1 : Hid (Below w.heap.size w (wr.alloc (.cells #[.int .u64 (pt l k).h, .int .i64 (pt l k).n, .int .i64 (pt l k).i] 67))) := Lib.hid (hb.out.alloc hsz _)
      have BT : Hid (Bt (wr.alloc (.cells #[.int .u64 (pt l k).h, .int .i64 (pt l k).n, .int .i64 (pt l k).i] 67)) wr.heap.size (pt l k)) := Lib.hid (Bt.new wr _ _)
      have HW := Lib.hid (fun W => order_grew (pt l (k - 1)) (pt l k) W)
      have HLT := Lib.hid (cfP_lt (pt l (k - 1)) (pt l k))
      have HF : Hid (¬ OkP l k → L = false) := Lib.hid (fun h => by
        rcases L with _ | _
        · rfl
        · exact absurd ((HL.out.1 rfl).2 k hlt) h)
      have HS : Hid (OkP l k → ∀ j, j < k + 1 → OkP l j) := Lib.hid (okp_next hok.out)
      have HD : Hid (OkP l k ↔ 0 ≤ (pt l k).n ∧ (pt l k).n < 64 ∧ (0 < k → ltP (pt l (k - 1)) (pt l k) = true)) := Lib.hid Iff.rfl
      have HP : Hid (0 < k → ∀ w', Below w.heap.size w w' → PAt w' (ad.add ((k - 1) * 3)) (pt l (k - 1))) := Lib.hid (fun hp w' hb' => by
        obtain ⟨ad', e, _, h4⟩ := (H.out.on hb') (k - 1) (by omega)
        obtain rfl := Option.some.inj e
        exact h4)
      generalize OkP l k = OK at *
      generalize hx : pt l k = x at *
      generalize hy : pt l (k - 1) = y at *
      clear h1 hx hy hok hb
      go_upto_region 6 with (fail)
      generalize wr.alloc (.cells #[.int .u64 x.h, .int .i64 x.n, .int .i64 x.i] 67) = w1 at *
      clear a0 a1 a2
      obtain ⟨b0, b1, b2⟩ := BT.out
      have B0 : ∀ p : Regrown, (grow (redrawn w1 p.d) p.os).cell? ⟨wr.heap.size, 0, none⟩ = some (.int .u64 x.h) := fun p => cell_regrown b0 p.d p.os
      have B1 : ∀ p : Regrown, (grow (redrawn w1 p.d) p.os).cell? ⟨wr.heap.size, 1, none⟩ = some (.int .i64 x.n) := fun p => cell_regrown b1 p.d p.os
      have B2 : ∀ p : Regrown, (grow (redrawn w1 p.d) p.os).cell? ⟨wr.heap.size, 2, none⟩ = some (.int .i64 x.i) := fun p => cell_regrown b2 p.d p.os
      clear b0 b1 b2
      have hbw : w.heap.size ≤ wr.heap.size := hsz
      by_cases t1 : x.n < 0
      · have d1 : decide (x.n < 0) = true := decide_eq_true t1
        obtain rfl := HF.out (fun h => by have := HD.out.1 h; omega)
        clear HF HS HD HP
        refine q_enter (by kernel_rfl) (by kernel_rfl) ?_
        iterate 22 (refine q_step ?_; intro K hK; go_simp; refine hK _ ?_; clear hK K)
        refine q_nil ?_
        intro wz hbz
        have HB3 : Hid (Below w.heap.size w wz) := Lib.hid (HB1.out.trans (hbz.mono HB1.out.size))
        clear hbz
        go_wp2_with fail
        go_ret
        exact ⟨rfl, HB3.out⟩
      have d1 : decide (x.n < 0) = false := decide_eq_false t1
      by_cases t2 : 64 ≤ x.n
      · have d2 : decide (64 ≤ x.n) = true := decide_eq_true t2
        obtain rfl := HF.out (fun h => by have := HD.out.1 h; omega)
        clear HF HS HD HP
        refine q_enter (by kernel_rfl) (by kernel_rfl) ?_
        iterate 22 (refine q_step ?_; intro K hK; go_simp; refine hK _ ?_; clear hK K)
        refine q_nil ?_
        intro wz hbz
        have HB3 : Hid (Below w.heap.size w wz) := Lib.hid (HB1.out.trans (hbz.mono HB1.out.size))
        clear hbz
        go_wp2_with fail
        go_ret
        exact ⟨rfl, HB3.out⟩
      have d2 : decide (64 ≤ x.n) = false := decide_eq_false t2
      by_cases hk0 : k = 0
      · have eg : decide ((0 : Int) < (k : Int)) = false := by simp; omega
        have eg' : decide (0 < k) = false := by simp; omega
        have HS' := Lib.hid (HS.out (HD.out.2 ⟨by omega, by omega, fun h => absurd h (by omega)⟩))
        clear hk0 HS HF HD HP
        refine q_enter (by kernel_rfl) (by kernel_rfl) ?_
        iterate 22 (refine q_step ?_; intro K hK; go_simp; refine hK _ ?_; clear hK K)
        refine q_nil ?_
        intro wz hbz
        have HB3 : Hid (Below w.heap.size w wz) := Lib.hid (HB1.out.trans (hbz.mono HB1.out.size))
        clear hbz
        go_wp2_with fail
        go_roundw
        case rel => exact ⟨k + 1, by go_num, by omega, HS', HB3⟩
        case measure => simp [intOf]; omega
      · have eg : decide ((0 : Int) < (k : Int)) = true := by simp; omega
        have eg' : decide (0 < k) = true := by simp; omega
        obtain ⟨p0, p1, p2⟩ := (HP.out (by omega) w1 HB1.out).flat
        have hkm : IntKind.i64.wrap ((k : Int) - 1) = ((k - 1 : Nat) : Int) := by rw [IntWalk.i64_in _ (by omega)]; omega
        have g0 : (0 : Int) ≤ ((k - 1 : Nat) : Int) := by omega
        have g1 : ((k - 1 : Nat) : Int) < (l.length : Int) := by omega
        have g1' : k - 1 < l.length := by omega
        have HFx : Hid (ltP y x = false → L = false) := Lib.hid (fun h => HF.out (fun h2 => by have := (HD.out.1 h2).2.2 (by omega); rw [h] at this; cases this))
        have HSx : Hid (ltP y x = true → ∀ j, j < k + 1 → OkP l j) := Lib.hid (fun h => HS.out (HD.out.2 ⟨by omega, by omega, fun _ => h⟩))
        generalize k - 1 = km at *
        generalize ltP y x = T at *
        clear hk0 HS HF HP HD
        have P0 : ∀ p : Regrown, (grow (redrawn w1 p.d) p.os).cell? (ad.add (km * 3)) = some (.int .u64 y.h) := fun p => cell_regrown p0 p.d p.os
        have P1 : ∀ p : Regrown, (grow (redrawn w1 p.d) p.os).cell? ⟨(ad.add (km * 3)).block, (ad.add (km * 3)).off + 1, none⟩ = some (.int .i64 y.n) := fun p => cell_regrown p1 p.d p.os
        have P2 : ∀ p : Regrown, (grow (redrawn w1 p.d) p.os).cell? ⟨(ad.add (km * 3)).block, (ad.add (km * 3)).off + 2, none⟩ = some (.int .i64 y.i) := fun p => cell_regrown p2 p.d p.os
        clear p0 p1 p2
        have HWp := Lib.hid (fun p : Regrown => (HW.out (grow (redrawn w1 p.d) p.os)).mono fun _ _ ⟨he, hg⟩ => (⟨he, hg.below⟩ : _ ∧ Below _ _ _))
        generalize cfP y x = cf at *
        clear HW
        rcases T with _ | _
        · have e3 : decide (cf < 0) = false := HLT.out
          have e3' : decide (0 ≤ cf) = true := by simp at e3 ⊢; exact e3
          obtain rfl := HFx.out rfl
          clear HFx HSx
          refine q_enter (by kernel_rfl) (by kernel_rfl) ?_
          iterate 22 (refine q_step ?_; intro K hK; go_simp; first | (refine hK _ ?_; clear hK K) | (refine ⟨_, fun p => Calls.regrown_of (by with_reducible exact HWp.out p), hK _ ?_⟩; clear hK K))
          refine q_nil ?_
          intro wz hbz
          have HB3 : Hid (Below w.heap.size w wz) := Lib.hid (HB1.out.trans (hbz.mono HB1.out.size))
          clear hbz
          go_wp2_with fail
          go_ret
          exact ⟨rfl, HB3.out⟩
        · have e3 : decide (cf < 0) = true := HLT.out
          have e3' : decide (0 ≤ cf) = false := by simp at e3 ⊢; exact e3
          have HS' := Lib.hid (HSx.out rfl)
          clear HFx HSx
          refine q_enter (by kernel_rfl) (by kernel_rfl) ?_
          iterate 22 (refine q_step ?_; intro K hK; go_simp; first | (refine hK _ ?_; clear hK K) | (refine ⟨_, fun p => Calls.regrown_of (by with_reducible exact HWp.out p), hK _ ?_⟩; clear hK K))
          refine q_nil ?_
          intro wz hbz
          have HB3 : Hid (Below w.heap.size w wz) := Lib.hid (HB1.out.trans (hbz.mono HB1.out.size))
          clear hbz
          go_wp2_with fail
          go_roundw
          case rel => exact ⟨k + 1, by go_num, by omega, HS', HB3⟩
          case measure => simp [intOf]; omega
    · obtain rfl : k = l.length := by omega
      obtain rfl : L = true := HL.out.2 ⟨by omega, hok.out⟩
      go_wp2_with fail
      go_ret
      exact ⟨rfl, hb.out⟩
end Go.Proofs.YthcjjogomknddaaDoor
