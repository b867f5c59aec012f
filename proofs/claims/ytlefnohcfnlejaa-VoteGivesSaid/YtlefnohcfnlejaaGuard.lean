/-
  The walks of a guard's search: the closure, greatest, Guard.
-/
import Derived.Test.YtlefnohcfnlejaaLeaf
namespace Go.Proofs.Ytlefnohcfnlejaa
open Go.Sort Go.RowKit Go.Proofs.Ytlefnohcfnlejaa.Pure

/-- Three variables that a closure holds. -/
def Held (w : World) (bd br bt : Nat) (d r t : Int) : Prop := w.cell? ⟨bd, 0, none⟩ = some (.int .i64 d) ∧ w.cell? ⟨br, 0, none⟩ = some (.int .i64 r) ∧ w.cell? ⟨bt, 0, none⟩ = some (.int .i64 t)
theorem Held.on {w w' : World} {bd br bt : Nat} {d r t : Int} (h : Held w bd br bt d r t) (hb : Below w.heap.size w w') : Held w' bd br bt d r t :=
  ⟨(hb.cell (World.block_lt_of_cell? w _ h.1)).trans h.1, (hb.cell (World.block_lt_of_cell? w _ h.2.1)).trans h.2.1, (hb.cell (World.block_lt_of_cell? w _ h.2.2)).trans h.2.2⟩
/-- Does g fit? -/
def fitB (g t d r : Int) : Bool := decide (g - 1 + d + (g - 1) / r < t)

set_option maxRecDepth 100000 in
set_option maxHeartbeats 1000000 in
theorem clos_any (bd br bt : Nat) (x t d r : Int) (w : World) (hx : 1 ≤ x ∧ x ≤ 1099511627777) (hd : 0 ≤ d ∧ d ≤ 1099511627776) (hr : 1 ≤ r ∧ r ≤ 1099511627776) (h : Held w bd br bt d r t) :
    Calls Try.prog 26 #[.int .i64 x, .pointer (some ⟨bd, 0, none⟩), .pointer (some ⟨br, 0, none⟩), .pointer (some ⟨bt, 0, none⟩)] w fun e w' => e = .returned (.bool (fitB x t d r)) ∧ Below w.heap.size w w' := by
  have HC : Hid (∀ p : Regrown, Calls Try.prog 27 #[.int .i64 (x - 1), .int .i64 d, .int .i64 r] (grow (redrawn w p.d) p.os) fun e w' => e = .returned (.int .i64 (x - 1 + d + (x - 1) / r)) ∧ Below (grow (redrawn w p.d) p.os).heap.size (grow (redrawn w p.d) p.os) w') :=
    Lib.hid (fun p => reach_any (x - 1) d r _ (by omega) hd hr)
  have HF : Hid (fitB x t d r = decide (x - 1 + d + (x - 1) / r < t)) := Lib.hid rfl
  generalize x - 1 + d + (x - 1) / r = y at *
  have HX : Hid (IntKind.i64.wrap (x - 1) = x - 1) := Lib.hid (IntWalk.i64_in _ (by omega))
  have hxw := HX.out
  generalize fitB x t d r = F at *
  obtain ⟨h0, h1, h2⟩ := h
  have A0 := fun d os => cell_regrown h0 d os
  have A1 := fun d os => cell_regrown h1 d os
  have A2 := fun d os => cell_regrown h2 d os
  clear h0 h1 h2
  go_enter Try.func26, Try.ntmps26
  go_wp2_with fail
  refine q_enter (by kernel_rfl) (by kernel_rfl) ?_
  iterate 8 (refine q_step ?_; intro K hK; go_simp; first | (refine hK _ ?_; clear hK K) | (refine ⟨_, fun p => Calls.regrown_of (by with_reducible exact HC.out p), hK _ ?_⟩; clear hK K))
  refine q_nil ?_
  intro wz hbz
  have HZ := Lib.hid hbz
  clear hbz
  go_wp2_with fail
  go_ret
  exact ⟨by rw [HF.out]; rfl, HZ.out⟩

/-- What greatest looks for. -/
def Best (T d r lo hi : Int) : Prop := 0 ≤ lo ∧ lo ≤ hi ∧ hi ≤ T ∧ (lo = 0 ∨ fitB lo T d r = true) ∧ (hi = T ∨ fitB (hi + 1) T d r = false)
theorem Best.guards {T d r g : Int} (hd : 0 ≤ d) (hr : 1 ≤ r) (h : Best T d r g g) : Guards g T d r := by
  obtain ⟨h1, h2, h3, h4, h5⟩ := h
  refine ⟨h1, h3, h4.imp id (fun h => by simpa [fitB] using h), ?_⟩
  rcases h5 with rfl | h5
  · have := Int.ediv_nonneg h1 (show 0 ≤ r by omega)
    omega
  · have e : g + 1 - 1 = g := by omega
    simp only [fitB, e, decide_eq_false_iff_not] at h5
    exact h5
theorem fitB_less {T d r x y : Int} (hr : 1 ≤ r) (h : x ≤ y) (hy : fitB y T d r = true) : fitB x T d r = true := by
  have := reach_mono (d := d) hr (show x - 1 ≤ y - 1 by omega)
  simp only [fitB, decide_eq_true_eq] at *
  omega

set_option maxRecDepth 100000 in
set_option maxHeartbeats 2000000 in
theorem greatest_any (bd br bt : Nat) (T d r : Int) (w : World) (hT : 0 ≤ T ∧ T ≤ 1099511627776) (hd : 0 ≤ d ∧ d ≤ 1099511627776) (hr : 1 ≤ r ∧ r ≤ 1099511627776) (h : Held w bd br bt d r T) :
    Calls Try.prog 28 #[.int .i64 T, .func (.func 26) #[] #[.pointer (some ⟨bd, 0, none⟩), .pointer (some ⟨br, 0, none⟩), .pointer (some ⟨bt, 0, none⟩)]] w fun e w' => ∃ g, e = .returned (.int .i64 g) ∧ Guards g T d r ∧ Below w.heap.size w w' := by
  have H := Lib.hid h
  have HC := Lib.hid (fun (x : Int) (W : World) (hx : 1 ≤ x ∧ x ≤ 1099511627777) (hW : Held W bd br bt d r T) => clos_any bd br bt x T d r W hx hd hr hW)
  have HG := Lib.hid (fun g (hg : Best T d r g g) => hg.guards hd.1 hr.1)
  have HL := Lib.hid (fun x y (h : x ≤ y) (hy : fitB y T d r = true) => fitB_less hr.1 h hy)
  clear h
  go_enter Try.func28, Try.ntmps28
  go_wp2_with fail
  go_loopw [0, 5] (fun a b wr => ∃ hi lo : Int, a = .int .i64 hi ∧ b = .int .i64 lo ∧ 0 ≤ lo ∧ lo ≤ hi ∧ hi ≤ T ∧ Hid (Best T d r lo hi) ∧ Hid (Below w.heap.size w wr)) (fun a b _ => (intOf a - intOf b).toNat)
  case atStart => exact ⟨T, 0, rfl, rfl, Int.le_refl _, hT.1, Int.le_refl _, Lib.hid ⟨Int.le_refl _, hT.1, Int.le_refl _, .inl rfl, .inl rfl⟩, Lib.hid (Below.refl _ _)⟩
  case round =>
    obtain ⟨hi, lo, rfl, rfl, hl0, hlh, hhT, hbest, hb⟩ := hrel
    by_cases hlt : lo < hi
    · have d1 : decide (lo < hi) = true := by simpa using hlt
      have e1 : Int.tdiv (hi - lo) 2 = (hi - lo) / 2 := Int.tdiv_eq_ediv_of_nonneg (by omega)
      obtain ⟨mid, hmid⟩ : ∃ mid, mid = hi - (hi - lo) / 2 := ⟨_, rfl⟩
      have hm1 : lo < mid := by omega
      have hm2 : mid ≤ hi := by omega
      have HC1 := Lib.hid (HC.out mid wr (by omega) (H.out.on hb.out))
      have hq0 : 0 ≤ (hi - lo) / 2 := by omega
      have hq1 : (hi - lo) / 2 ≤ hi - lo := by omega
      generalize (hi - lo) / 2 = qq at *
      have hmm := hmid.symm
      clear hmid
      rcases hf : fitB mid T d r with _ | _
      · have HB' : Hid (Best T d r lo (mid - 1)) := Lib.hid ⟨hl0, by omega, by omega, hbest.out.2.2.2.1, .inr (by rw [show mid - 1 + 1 = mid by omega]; exact hf)⟩
        rw [hf] at HC1
        clear hf
        go_wp2_with fail
        refine HC1.out.mono ?_
        rintro e w1 ⟨rfl, hb1⟩
        have HB1 : Hid (Below w.heap.size w w1) := Lib.hid (hb.out.trans (hb1.mono hb.out.size))
        clear hb1
        go_wp2_with fail
        go_roundw
        case rel => exact ⟨mid - 1, lo, by go_num, rfl, hl0, by omega, by omega, HB', HB1⟩
        case measure => simp [intOf]; omega
      · have HB' : Hid (Best T d r mid hi) := Lib.hid ⟨by omega, hm2, hhT, .inr hf, hbest.out.2.2.2.2⟩
        rw [hf] at HC1
        clear hf
        go_wp2_with fail
        refine HC1.out.mono ?_
        rintro e w1 ⟨rfl, hb1⟩
        have HB1 : Hid (Below w.heap.size w w1) := Lib.hid (hb.out.trans (hb1.mono hb.out.size))
        clear hb1
        go_wp2_with fail
        go_roundw
        case rel => exact ⟨hi, mid, rfl, rfl, by omega, by omega, by omega, HB', HB1⟩
        case measure => simp [intOf]; omega
    · obtain rfl : lo = hi := by omega
      have d1 : decide (lo < lo) = false := by simp
      have HE := Lib.hid (HG.out lo hbest.out)
      go_wp2_with fail
      go_ret
      exact ⟨lo, rfl, HE.out, hb.out⟩

set_option maxRecDepth 100000 in
set_option maxHeartbeats 1000000 in
theorem guard_yes (t d r : Int) (w : World) (ht : 0 ≤ t ∧ t ≤ 1099511627776) (hb : bound d r = true) :
    Calls Try.prog 14 #[.int .i64 t, .int .i64 d, .int .i64 r] w fun e w' => ∃ g, e = .returned (.tuple #[.int .i64 g, .int .i64 0]) ∧ Guards g t d r ∧ Below w.heap.size w w' := by
  have hbd : 0 ≤ d ∧ d ≤ 1099511627776 ∧ 1 ≤ r ∧ r ≤ 1099511627776 := by unfold bound at hb; simpa using hb
  have HD := Lib.hid (fun W => differ_any d r W)
  rw [hb] at HD
  have HGR := Lib.hid (fun (bd br bt : Nat) (W : World) (hW : Held W bd br bt d r t) => greatest_any bd br bt t d r W ht ⟨hbd.1, hbd.2.1⟩ ⟨hbd.2.2.1, hbd.2.2.2⟩ hW)
  have e1 : decide (t < 0) = false := by simp; omega
  have e2 : decide (1099511627776 < t) = false := by simp; omega
  have HB : Hid (Below w.heap.size w (((w.alloc (.cells #[.int .i64 t] 2)).alloc (.cells #[.int .i64 d] 2)).alloc (.cells #[.int .i64 r] 2))) := Lib.hid ((((Below.refl _ _).alloc (Nat.le_refl _) _).alloc (by simp) _).alloc (by simp; omega) _)
  have HH : Hid (Held (((w.alloc (.cells #[.int .i64 t] 2)).alloc (.cells #[.int .i64 d] 2)).alloc (.cells #[.int .i64 r] 2)) (w.heap.size + 1) (w.heap.size + 1 + 1) w.heap.size d r t) := Lib.hid ⟨by go_simp, by go_simp, by go_simp⟩
  clear hb
  go_enter Try.func14, Try.ntmps14
  go_wp2_with fail
  refine (HD.out _).mono ?_
  rintro e w2 ⟨rfl, rfl⟩
  go_wp2_with fail
  refine (HGR.out _ _ _ _ HH.out).mono ?_
  rintro e w3 ⟨g, rfl, hg, hb3⟩
  have HG := Lib.hid hg
  have HB3 : Hid (Below w.heap.size w w3) := Lib.hid (HB.out.trans (hb3.mono (by simp; omega)))
  clear hg hb3
  go_wp2_with fail
  go_ret2
  exact ⟨g, rfl, HG.out, HB3.out⟩

set_option maxRecDepth 100000 in
set_option maxHeartbeats 1000000 in
theorem guard_bad (t d r : Int) (w : World) (h : t < 0 ∨ 1099511627776 < t ∨ bound d r = false) :
    Calls Try.prog 14 #[.int .i64 t, .int .i64 d, .int .i64 r] w fun e w' => e = .returned (.tuple #[.int .i64 0, .int .i64 1]) ∧ Below w.heap.size w w' := by
  have HD := Lib.hid (fun W => differ_any d r W)
  have HB : Hid (Below w.heap.size w (((w.alloc (.cells #[.int .i64 t] 2)).alloc (.cells #[.int .i64 d] 2)).alloc (.cells #[.int .i64 r] 2))) := Lib.hid ((((Below.refl _ _).alloc (Nat.le_refl _) _).alloc (by simp) _).alloc (by simp; omega) _)
  by_cases h1 : t < 0
  · have e1 : decide (t < 0) = true := by simpa using h1
    clear h
    go_enter Try.func14, Try.ntmps14
    go_wp2_with fail
    go_ret2
    exact ⟨rfl, HB.out⟩
  have e1 : decide (t < 0) = false := by simpa using h1
  by_cases h2 : 1099511627776 < t
  · have e2 : decide (1099511627776 < t) = true := by simpa using h2
    clear h
    go_enter Try.func14, Try.ntmps14
    go_wp2_with fail
    go_ret2
    exact ⟨rfl, HB.out⟩
  have e2 : decide (1099511627776 < t) = false := by simpa using h2
  have hbf : bound d r = false := by
    rcases h with h | h | h
    · exact absurd h h1
    · exact absurd h h2
    · exact h
  rw [hbf] at HD
  clear h hbf
  go_enter Try.func14, Try.ntmps14
  go_wp2_with fail
  refine (HD.out _).mono ?_
  rintro e w2 ⟨rfl, rfl⟩
  go_wp2_with fail
  go_ret2
  exact ⟨rfl, HB.out⟩
end Go.Proofs.Ytlefnohcfnlejaa
