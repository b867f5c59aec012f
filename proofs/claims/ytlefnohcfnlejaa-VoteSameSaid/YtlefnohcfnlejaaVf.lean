/-
  Terms, and votes, in memory; how long a term may be held: the document's Hold.
-/
import Derived.Test.YtlefnohcfnlejaaVm
import Derived.Test.YtlefnohcfnlejaaGuard
namespace Go.Proofs.Ytlefnohcfnlejaa
open Go.Sort Go.RowKit Go.Proofs.Ytlefnohcfnlejaa.Pure

/-- Terms. -/
structure Tm where
  t : Int
  d : Int
  r : Int
open Classical in
/-- The guard. -/
noncomputable def gdF (t d r : Int) : Int := if h : ∃ g, Guards g t d r then h.choose else 0
theorem guards_uniq {g h t d r : Int} (hr : 1 ≤ r) (hg : Guards g t d r) (hh : Guards h t d r) : g = h := by
  have a := Guards.more (b := 0) hr (Int.le_refl 0) hg (by rw [Int.add_zero]; exact hh)
  have b := Guards.more (b := 0) hr (Int.le_refl 0) hh (by rw [Int.add_zero]; exact hg)
  omega
theorem gdF_of {g t d r : Int} (hr : 1 ≤ r) (hg : Guards g t d r) : gdF t d r = g := by
  unfold gdF
  have hx : ∃ g, Guards g t d r := ⟨g, hg⟩
  rw [dif_pos hx]
  exact guards_uniq hr hx.choose_spec hg
/-- Terms of which a guard is asked for. -/
def tmB (x : Tm) : Bool := decide (1 ≤ x.t) && decide (x.t ≤ 1000000) && bound x.d x.r
/-- How long it may be held; 0: terms may not be. -/
noncomputable def holdF (x : Tm) : Int := if tmB x = true then gdF x.t x.d x.r else 0
noncomputable def holdE (x : Tm) : Int := if holdF x = 0 then 1 else 0
theorem bound_r {d r : Int} (h : bound d r = true) : (0 ≤ d ∧ d ≤ 1099511627776) ∧ (1 ≤ r ∧ r ≤ 1099511627776) := by unfold bound at h; simp at h; omega
theorem tmB_iff (x : Tm) : tmB x = true ↔ 1 ≤ x.t ∧ x.t ≤ 1000000 ∧ bound x.d x.r = true := by
  unfold tmB
  simp only [Bool.and_eq_true, decide_eq_true_eq, and_assoc]
theorem holdF_of {x : Tm} {g : Int} (h : tmB x = true) (hg : Guards g x.t x.d x.r) : holdF x = g := by
  unfold holdF
  rw [if_pos h]
  exact gdF_of (bound_r ((tmB_iff x).1 h).2.2).2.1 hg
theorem holdF_no {x : Tm} (h : tmB x = false) : holdF x = 0 := by unfold holdF; rw [if_neg (by rw [h]; decide)]
def TmA (w : World) (g : Nat) (x : Tm) : Prop := w.cell? ⟨g, 0, none⟩ = some (.int .i64 x.t) ∧ w.cell? ⟨g, 1, none⟩ = some (.int .i64 x.d) ∧ w.cell? ⟨g, 2, none⟩ = some (.int .i64 x.r)
def VtA (w : World) (g : Nat) (v : Vt) : Prop := w.cell? ⟨g, 0, none⟩ = some (.int .u64 v.e) ∧ w.cell? ⟨g, 1, none⟩ = some (.int .i64 v.t) ∧ w.cell? ⟨g, 2, none⟩ = some (.int .i64 v.u) ∧ w.cell? ⟨g, 3, none⟩ = some (.int .i64 v.w)
def VtW (w : World) (g : Nat) (v : Vt) : Prop := VtA w g v ∧ ∀ k : Nat, w.frozen? ⟨g, k, none⟩ = false
section
variable {w w' : World} {g : Nat} {x : Tm} {v : Vt}
theorem TmA.lt (h : TmA w g x) : g < w.heap.size := World.block_lt_of_cell? w _ h.1
theorem VtA.lt (h : VtA w g v) : g < w.heap.size := World.block_lt_of_cell? w _ h.1
theorem VtW.lt (h : VtW w g v) : g < w.heap.size := h.1.lt
theorem TmA.on (h : TmA w g x) (hb : Below w.heap.size w w') : TmA w' g x := ⟨(hb.cell h.lt).trans h.1, (hb.cell h.lt).trans h.2.1, (hb.cell h.lt).trans h.2.2⟩
theorem VtA.on (h : VtA w g v) (hb : Below w.heap.size w w') : VtA w' g v := ⟨(hb.cell h.lt).trans h.1, (hb.cell h.lt).trans h.2.1, (hb.cell h.lt).trans h.2.2.1, (hb.cell h.lt).trans h.2.2.2⟩
theorem VtW.on (h : VtW w g v) (hb : Below w.heap.size w w') : VtW w' g v := ⟨h.1.on hb, fun k => (World.frozen?_of_block (a := ⟨g, k, none⟩) (hb.block g h.lt)).trans (h.2 k)⟩
theorem TmA.new (w : World) (x : Tm) (t : TypeId) : TmA (w.alloc (.cells #[.int .i64 x.t, .int .i64 x.d, .int .i64 x.r] t)) w.heap.size x := ⟨by go_simp, by go_simp, by go_simp⟩
theorem VtA.new (w : World) (v : Vt) (t : TypeId) : VtA (w.alloc (.cells #[.int .u64 v.e, .int .i64 v.t, .int .i64 v.u, .int .i64 v.w] t)) w.heap.size v := ⟨by go_simp, by go_simp, by go_simp, by go_simp⟩
theorem VtW.new (w : World) (v : Vt) (t : TypeId) : VtW (w.alloc (.cells #[.int .u64 v.e, .int .i64 v.t, .int .i64 v.u, .int .i64 v.w] t)) w.heap.size v := ⟨VtA.new w v t, fun k => World.frozen?_alloc_new w _ _ k⟩
theorem VtW.set (h : VtW w g v) (y : Vt) : VtW ((((w.setCell ⟨g, 0, none⟩ (.int .u64 y.e)).setCell ⟨g, 1, none⟩ (.int .i64 y.t)).setCell ⟨g, 2, none⟩ (.int .i64 y.u)).setCell ⟨g, 3, none⟩ (.int .i64 y.w)) g y := by
  obtain ⟨⟨h0, h1, h2, h3⟩, hf⟩ := h
  exact ⟨⟨by go_simp, by go_simp, by go_simp, by go_simp⟩, fun k => by go_simp⟩
theorem VtW.put23 (h : VtW w g v) (u y : Int) : VtW ((w.setCell ⟨g, 2, none⟩ (.int .i64 u)).setCell ⟨g, 3, none⟩ (.int .i64 y)) g ⟨v.e, v.t, u, y⟩ := by
  obtain ⟨⟨h0, h1, h2, h3⟩, hf⟩ := h
  exact ⟨⟨by go_simp, by go_simp, by go_simp, by go_simp⟩, fun k => by go_simp⟩
theorem below_set4 {B : Nat} {a w : World} (h : Below B a w) {g : Nat} (hg : B ≤ g) (v0 v1 v2 v3 : Value) : Below B a ((((w.setCell ⟨g, 0, none⟩ v0).setCell ⟨g, 1, none⟩ v1).setCell ⟨g, 2, none⟩ v2).setCell ⟨g, 3, none⟩ v3) :=
  (((h.setCell hg _).setCell hg _).setCell hg _).setCell hg _
end
set_option maxRecDepth 100000 in
set_option maxHeartbeats 2000000 in
theorem rhold_any (x : Tm) (w : World) : Calls Try.prog 9 #[.agg #[.int .i64 x.t, .int .i64 x.d, .int .i64 x.r]] w fun e w' => e = .returned (.int .i64 (holdF x)) ∧ Below w.heap.size w w' := by
  have HB1 : Hid (Below w.heap.size w (w.alloc (.cells #[.int .i64 x.t, .int .i64 x.d, .int .i64 x.r] 23))) := Lib.hid ((Below.refl _ _).alloc (Nat.le_refl _) _)
  have HT1 := Lib.hid (TmA.new w x 23)
  have HBD := Lib.hid (fun W => bound_any x.d x.r W)
  have hiff := tmB_iff x
  have HNo := Lib.hid (fun h => holdF_no (x := x) h)
  have HYes := Lib.hid (fun g h hg => holdF_of (x := x) (g := g) h hg)
  obtain ⟨R, hR⟩ : ∃ R, R = holdF x := ⟨_, rfl⟩
  rw [← hR] at HNo HYes ⊢
  clear hR
  obtain ⟨t, d, r⟩ := x
  simp only at HB1 HT1 HBD hiff HNo HYes ⊢
  by_cases h1 : t < 1
  · have d1 : decide (t < 1) = true := decide_eq_true h1
    have hz : R = 0 := HNo.out (by
      cases hb : tmB ⟨t, d, r⟩ with
      | false => rfl
      | true => have := hiff.1 hb; omega)
    have HZ := Lib.hid hz
    clear hz hiff h1 HNo HYes
    go_enter Try.func9, Try.ntmps9
    go_upto_region 1 with (fail)
    generalize w.alloc (.cells #[.int .i64 t, .int .i64 d, .int .i64 r] 23) = w1 at *
    obtain ⟨a0, a1, a2⟩ := HT1.out
    simp only at a0 a1 a2
    go_wp2_with fail
    go_ret
    exact ⟨by rw [HZ.out]; rfl, HB1.out⟩
  have d1 : decide (t < 1) = false := decide_eq_false h1
  by_cases h2 : 1000000 < t
  · have d2 : decide (1000000 < t) = true := decide_eq_true h2
    have hz : R = 0 := HNo.out (by
      cases hb : tmB ⟨t, d, r⟩ with
      | false => rfl
      | true => have := hiff.1 hb; omega)
    have HZ := Lib.hid hz
    clear hz hiff h1 h2 HNo HYes
    go_enter Try.func9, Try.ntmps9
    go_upto_region 1 with (fail)
    generalize w.alloc (.cells #[.int .i64 t, .int .i64 d, .int .i64 r] 23) = w1 at *
    obtain ⟨a0, a1, a2⟩ := HT1.out
    simp only at a0 a1 a2
    go_wp2_with fail
    go_ret
    exact ⟨by rw [HZ.out]; rfl, HB1.out⟩
  have d2 : decide (1000000 < t) = false := decide_eq_false h2
  cases hb : bound d r with
  | false =>
    rw [hb] at HBD
    have hz : R = 0 := HNo.out (by
      cases hb2 : tmB ⟨t, d, r⟩ with
      | false => rfl
      | true => have := (hiff.1 hb2).2.2; rw [hb] at this; cases this)
    have HZ := Lib.hid hz
    clear hz hiff h1 h2 HNo HYes hb
    go_enter Try.func9, Try.ntmps9
    go_upto_region 1 with (fail)
    generalize w.alloc (.cells #[.int .i64 t, .int .i64 d, .int .i64 r] 23) = w1 at *
    obtain ⟨a0, a1, a2⟩ := HT1.out
    simp only at a0 a1 a2
    go_wp2_with fail
    refine (HBD.out _).mono ?_
    rintro e w2 ⟨rfl, rfl⟩
    go_wp2_with fail
    go_ret
    exact ⟨by rw [HZ.out]; rfl, HB1.out⟩
  | true =>
    rw [hb] at HBD
    have hbr := bound_r hb
    have hx : tmB ⟨t, d, r⟩ = true := hiff.2 ⟨by omega, by omega, hb⟩
    have HG := Lib.hid (fun g (h : Best t d r g g) => HYes.out g hx (h.guards hbr.1.1 hbr.2.1))
    have HFI := Lib.hid (fun (m : Int) (hm : 1 ≤ m ∧ m ≤ 1000000) (B : Bool) (hB : B = true ↔ (m = 0 ∨ m - 1 + d + (m - 1) / r < t)) W => fits_any m t d r W (by omega) hbr.1 hbr.2 B hB)
    clear hiff HNo HYes hx hb hbr
    go_enter Try.func9, Try.ntmps9
    go_upto_region 1 with (fail)
    generalize w.alloc (.cells #[.int .i64 t, .int .i64 d, .int .i64 r] 23) = w1 at *
    obtain ⟨a0, a1, a2⟩ := HT1.out
    simp only at a0 a1 a2
    go_wp2_with fail
    refine (HBD.out _).mono ?_
    rintro e w2 ⟨rfl, rfl⟩
    go_upto_region 3 with (fail)
    have A0 : ∀ p : Regrown, (grow (redrawn w1 p.d) p.os).cell? ⟨w.heap.size, 0, none⟩ = some (.int .i64 t) := fun p => cell_regrown a0 p.d p.os
    clear a0 a1 a2
    refine q_enter (by kernel_rfl) (by kernel_rfl) ?_
    iterate 4 (refine q_step ?_; intro K hK; go_simp; refine hK _ ?_; clear hK K)
    refine q_nil ?_
    intro wz hbz
    have HBz := Lib.hid (HB1.out.trans (hbz.mono HB1.out.size))
    obtain ⟨a0, a1, a2⟩ := HT1.out.on hbz
    simp only at a0 a1 a2
    clear hbz A0 HB1 HT1 HBD
    go_wp2_with fail
    go_loopw [3, 4] (fun lo hi wr => ∃ a b : Int, lo = .int .i64 a ∧ hi = .int .i64 b ∧ 0 ≤ a ∧ a ≤ b ∧ b ≤ t ∧ Hid (Best t d r a b) ∧ wz = wr) (fun lo hi _ => (intOf hi - intOf lo).toNat)
    case atStart => exact ⟨0, t, rfl, rfl, Int.le_refl _, by omega, Int.le_refl _, Lib.hid ⟨Int.le_refl _, by omega, Int.le_refl _, .inl rfl, .inl rfl⟩, rfl⟩
    case round =>
      obtain ⟨a, b, rfl, rfl, ha0, hab, hbt, hbest, rfl⟩ := hrel
      by_cases hlt : a < b
      · have e1 : decide (a < b) = true := decide_eq_true hlt
        have e2 : Int.tdiv (a + b + 1) 2 = (a + b + 1) / 2 := Int.tdiv_eq_ediv_of_nonneg (by omega)
        obtain ⟨m, hm⟩ : ∃ m, m = (a + b + 1) / 2 := ⟨_, rfl⟩
        have hm1 : a < m := by omega
        have hm2 : m ≤ b := by omega
        have hq0 : 0 ≤ (a + b + 1) / 2 := by omega
        have hq1 : (a + b + 1) / 2 ≤ 1000000 := by omega
        generalize (a + b + 1) / 2 = q at *
        have hmm := hm.symm
        clear hm
        rcases hf : fitB m t d r with _ | _
        · have HF := Lib.hid (HFI.out m (by omega) false ⟨fun h => (by cases h), fun h => by
            rcases h with h | h
            · omega
            · have : fitB m t d r = true := decide_eq_true h
              rw [hf] at this
              cases this⟩)
          have HB' : Hid (Best t d r a (m - 1)) := Lib.hid ⟨ha0, by omega, by omega, hbest.out.2.2.2.1, .inr (by rw [show m - 1 + 1 = m by omega]; exact hf)⟩
          clear hf
          go_wp2_with fail
          refine (HF.out _).mono ?_
          rintro e w3 ⟨rfl, rfl⟩
          go_wp2_with fail
          go_roundw
          case rel => exact ⟨a, m - 1, rfl, by go_num, ha0, by omega, by omega, HB', trivial⟩
          case measure => simp [intOf]; omega
        · have HF := Lib.hid (HFI.out m (by omega) true ⟨fun _ => .inr (by simpa [fitB] using hf), fun _ => rfl⟩)
          have HB' : Hid (Best t d r m b) := Lib.hid ⟨by omega, hm2, hbt, .inr hf, hbest.out.2.2.2.2⟩
          clear hf
          go_wp2_with fail
          refine (HF.out _).mono ?_
          rintro e w3 ⟨rfl, rfl⟩
          go_wp2_with fail
          go_roundw
          case rel => exact ⟨m, b, rfl, rfl, by omega, hm2, hbt, HB', trivial⟩
          case measure => simp [intOf]; omega
      · obtain rfl : a = b := by omega
        have e1 : decide (a < a) = false := by simp
        have HE := Lib.hid (HG.out a hbest.out)
        go_wp2_with fail
        go_ret
        exact ⟨by rw [HE.out]; rfl, HBz.out⟩
end Go.Proofs.Ytlefnohcfnlejaa
