/-
  The walks of the library's comparisons, of the program's order of points, and of the document's.
-/
import Derived.Test.YthcjjogomknddaaDoorRow
namespace Go.Proofs.YthcjjogomknddaaDoor
open Go.Sort Go.RowKit Go.Proofs.YthcjjogomknddaaDoor.Pure

/-- What is compared. -/
def cmpI (a b : Int) : Int := if a < b then -1 else if b < a then 1 else 0

set_option maxHeartbeats 400000 in
theorem nanU (a : Int) (w : World) : Calls Tryd.prog 73 #[.int .u64 a] w fun e w' => e = .returned (.bool false) ∧ w = w' := by
  have h : (a != a) = false := by simp
  go_enter Tryd.func73, Tryd.ntmps73
  go_wp2
  go_ret
  exact ⟨rfl, rfl⟩

theorem cmp_cases (a b : Int) : (a < b ∧ cmpI a b = -1) ∨ (b < a ∧ cmpI a b = 1) ∨ (a = b ∧ cmpI a b = 0) := by
  unfold cmpI
  rcases Int.lt_trichotomy a b with h | h | h
  · exact .inl ⟨h, by rw [if_pos h]⟩
  · exact .inr (.inr ⟨h, by rw [if_neg (by omega), if_neg (by omega)]⟩)
  · exact .inr (.inl ⟨h, by rw [if_neg (by omega), if_pos h]⟩)

set_option maxHeartbeats 400000 in
theorem cmpInt (a b : Int) (w : World) : Calls Tryd.prog 57 #[.int .i64 a, .int .i64 b] w fun e w' => e = .returned (.int .i64 (cmpI a b)) ∧ w = w' := by
  have HC := Lib.hid (cmp_cases a b)
  generalize cmpI a b = r at *
  go_enter Tryd.func57, Tryd.ntmps57
  go_wp2_with (go_at_call 60; refine (nanI _ _).mono ?_; rintro e w' ⟨rfl, rfl⟩)
  all_goals
    go_ret
    refine ⟨ret_int ?_, rfl⟩
    have := HC.out
    omega

set_option maxHeartbeats 400000 in
theorem cmpU (a b : Int) (w : World) : Calls Tryd.prog 56 #[.int .u64 a, .int .u64 b] w fun e w' => e = .returned (.int .i64 (cmpI a b)) ∧ w = w' := by
  have HC := Lib.hid (cmp_cases a b)
  generalize cmpI a b = r at *
  go_enter Tryd.func56, Tryd.ntmps56
  go_wp2_with (go_at_call 73; refine (nanU _ _).mono ?_; rintro e w' ⟨rfl, rfl⟩)
  all_goals
    go_ret
    refine ⟨ret_int ?_, rfl⟩
    have := HC.out
    omega

set_option maxRecDepth 100000 in
set_option maxHeartbeats 400000 in
theorem orI_any (ad : Addr) (cs : List Int) (c : Nat) (w : World) (hn : cs.length ≤ 100) (h : ∀ j, j < cs.length → w.cell? (ad.add j) = some (.int .i64 (cs.getD j 0))) :
    Calls Tryd.prog 55 #[.slice (some ad) cs.length c] w fun e w' => e = .returned (.int .i64 (firstN cs)) ∧ w = w' := by
  have H := Lib.hid h
  clear h
  go_enter Tryd.func55, Tryd.ntmps55
  go_wp2
  go_loop [8] (fun i => ∃ k : Nat, k ≤ cs.length ∧ i = .int .i64 k ∧ Hid (firstN cs = firstN (cs.drop k))) (fun i => cs.length - (intOf i).toNat)
  case atStart => exact ⟨0, Nat.zero_le _, rfl, Lib.hid rfl⟩
  case round =>
    obtain ⟨k, hk, rfl, hf⟩ := hrel
    by_cases hlt : k < cs.length
    · have hcell := H.out k hlt
      have HF := Lib.hid (firstN_drop cs k hlt)
      generalize cs.getD k 0 = y at *
      rcases hy : (y != 0) with _ | _
      · rw [hy] at HF
        go_wp2
        go_round
        case rel => exact ⟨k + 1, by omega, by go_num, Lib.hid (by rw [hf.out, HF.out]; rfl)⟩
        case measure => simp [intOf]; omega
      · rw [hy] at HF
        go_wp2
        go_ret
        exact ⟨ret_int (by rw [hf.out, HF.out]; rfl), rfl⟩
    · obtain rfl : k = cs.length := by omega
      go_wp2
      go_ret
      exact ⟨ret_int (by rw [hf.out]; simp [firstN]), rfl⟩
theorem three_new (W : World) (a b c : Int) (t : TypeId) : ∀ j, j < [a, b, c].length → (W.alloc (.cells #[.int .i64 a, .int .i64 b, .int .i64 c] t)).cell? ((⟨W.heap.size, 0, none⟩ : Addr).add j) = some (.int .i64 ([a, b, c].getD j 0)) := fun j hj => by
  match j, hj with
  | 0, _ => go_simp
  | 1, _ => go_simp
  | 2, _ => go_simp
/-- What the order says. -/
def cfP (x y : Pt) : Int := firstN [cmpI x.h y.h, cmpI x.n y.n, cmpI x.i y.i]
theorem cfP_lt (x y : Pt) : decide (cfP x y < 0) = ltP x y := by
  unfold cfP ltP
  rw [Bool.eq_iff_iff, decide_eq_true_iff, decide_eq_true_iff]
  simp only [firstN, bne_iff_ne, ne_eq]
  rcases cmp_cases x.h y.h with c | c | c <;> rcases cmp_cases x.n y.n with d | d | d <;> rcases cmp_cases x.i y.i with e | e | e <;> rw [c.2, d.2, e.2] <;> simp <;> omega

set_option maxRecDepth 100000 in
set_option maxHeartbeats 2000000 in
theorem order_grew (x y : Pt) (w : World) : Calls Tryd.prog 47 #[.agg #[.int .u64 x.h, .int .i64 x.n, .int .i64 x.i], .agg #[.int .u64 y.h, .int .i64 y.n, .int .i64 y.i]] w fun e w' => e = .returned (.int .i64 (cfP x y)) ∧ Grew w w' := by
  have HC0 := Lib.hid (fun W => cmpU x.h y.h W)
  have HC1 := Lib.hid (fun W => cmpInt x.n y.n W)
  have HC2 := Lib.hid (fun W => cmpInt x.i y.i W)
  have HOO : Hid (∀ (c0 c1 c2 : Int) (W : World), Calls Tryd.prog 55 #[.slice (some ⟨W.heap.size, 0, none⟩) 3 3] (W.alloc (.cells #[.int .i64 c0, .int .i64 c1, .int .i64 c2] 3))
      fun e w' => e = .returned (.int .i64 (firstN [c0, c1, c2])) ∧ (W.alloc (.cells #[.int .i64 c0, .int .i64 c1, .int .i64 c2] 3)) = w') := Lib.hid fun c0 c1 c2 W =>
    orI_any ⟨W.heap.size, 0, none⟩ [c0, c1, c2] 3 _ (Nat.le_of_ble_eq_true rfl) (three_new W c0 c1 c2 _)
  have HG : Hid (Grew w ((w.alloc (.cells #[.int .u64 x.h, .int .i64 x.n, .int .i64 x.i] 67)).alloc (.cells #[.int .u64 y.h, .int .i64 y.n, .int .i64 y.i] 67))) := Lib.hid (((Grew.refl w).alloc _).alloc _)
  have BX : Hid (Bt ((w.alloc (.cells #[.int .u64 x.h, .int .i64 x.n, .int .i64 x.i] 67)).alloc (.cells #[.int .u64 y.h, .int .i64 y.n, .int .i64 y.i] 67)) w.heap.size x) := Lib.hid ((Bt.new w x _).alloc _)
  have BY : Hid (Bt ((w.alloc (.cells #[.int .u64 x.h, .int .i64 x.n, .int .i64 x.i] 67)).alloc (.cells #[.int .u64 y.h, .int .i64 y.n, .int .i64 y.i] 67)) (w.heap.size + 1) y) := Lib.hid (by have := Bt.new (w.alloc (.cells #[.int .u64 x.h, .int .i64 x.n, .int .i64 x.i] 67)) y 67; simpa using this)
  have HR : Hid (cfP x y = firstN [cmpI x.h y.h, cmpI x.n y.n, cmpI x.i y.i]) := Lib.hid rfl
  rw [HR.out]
  clear HR
  generalize cmpI x.h y.h = c0 at *
  generalize cmpI x.n y.n = c1 at *
  generalize cmpI x.i y.i = c2 at *
  have HO := Lib.hid (fun W => HOO.out c0 c1 c2 W)
  clear HOO
  generalize firstN [c0, c1, c2] = F at *
  go_enter Tryd.func47, Tryd.ntmps47
  go_upto_region 1 with (fail)
  generalize ((w.alloc (.cells #[.int .u64 x.h, .int .i64 x.n, .int .i64 x.i] 67)).alloc (.cells #[.int .u64 y.h, .int .i64 y.n, .int .i64 y.i] 67)) = w2 at *
  obtain ⟨x0, x1, x2⟩ := BX.out
  obtain ⟨y0, y1, y2⟩ := BY.out
  refine z_enter [(0, true), (1, true), (2, true), (3, true), (5, true), (6, true), (7, true), (8, true), (10, true), (11, true), (12, true), (13, true), (4, false), (9, false), (14, false), (15, false), (16, false), (17, true)] (fun w' => w'.cell? ⟨w.heap.size, 0, none⟩ = some (.int .u64 x.h) ∧ w'.cell? ⟨w.heap.size, 1, none⟩ = some (.int .i64 x.n) ∧ w'.cell? ⟨w.heap.size, 2, none⟩ = some (.int .i64 x.i) ∧ w'.cell? ⟨w.heap.size + 1, 0, none⟩ = some (.int .u64 y.h) ∧ w'.cell? ⟨w.heap.size + 1, 1, none⟩ = some (.int .i64 y.n) ∧ w'.cell? ⟨w.heap.size + 1, 2, none⟩ = some (.int .i64 y.i)) (by kernel_rfl) (by kernel_rfl) (by kernel_rfl) (fun _ _ d _ _ h => by cases d <;> exact h) ⟨x0, x1, x2, y0, y1, y2⟩ ?_
  simp only [pickL, List.drop_succ_cons, List.drop_zero]
  have HG0 : Hid (Grew w w2.drew) := Lib.hid HG.out.drew
  have BX0 : Hid (Bt w2.drew w.heap.size x) := Lib.hid BX.out
  have BY0 : Hid (Bt w2.drew (w.heap.size + 1) y) := Lib.hid BY.out
  clear HG BX BY x0 x1 x2 y0 y1 y2
  generalize w2.drew = w3 at *
  iterate 12 (first | (refine' z_yes ?_ (by rfl) ?_ ?_; rotate_left; (intro w' hS; (try dsimp only at hS); go_simp; try (with_reducible rfl)); simp only [Act.put, List.setIfInBounds_toArray, List.set_cons_zero, List.set_cons_succ]) | (refine z_no (by rfl) ?_; simp only [Act.put, List.setIfInBounds_toArray, List.set_cons_zero, List.set_cons_succ]))
  refine z_mem ?_
  intro K hK
  go_simp
  refine (HC0.out _).mono ?_
  rintro e w4 ⟨rfl, rfl⟩
  refine hK.out _ _ ⟨BX0.out.1, BX0.out.2.1, BX0.out.2.2, BY0.out.1, BY0.out.2.1, BY0.out.2.2⟩ ?_
  clear hK
  refine z_mem ?_
  intro K hK
  go_simp
  refine (HC1.out _).mono ?_
  rintro e w4 ⟨rfl, rfl⟩
  refine hK.out _ _ ⟨BX0.out.1, BX0.out.2.1, BX0.out.2.2, BY0.out.1, BY0.out.2.1, BY0.out.2.2⟩ ?_
  clear hK
  refine z_mem ?_
  intro K hK
  go_simp
  refine (HC2.out _).mono ?_
  rintro e w4 ⟨rfl, rfl⟩
  refine hK.out _ _ ⟨BX0.out.1, BX0.out.2.1, BX0.out.2.2, BY0.out.1, BY0.out.2.1, BY0.out.2.2⟩ ?_
  clear hK
  refine z_mem ?_
  intro K hK
  go_simp
  have BX1 := Lib.hid (BX0.out.alloc (.cells #[.int .i64 c0, .int .i64 c1, .int .i64 c2] 3))
  have BY1 := Lib.hid (BY0.out.alloc (.cells #[.int .i64 c0, .int .i64 c1, .int .i64 c2] 3))
  have HG1 := Lib.hid (HG0.out.alloc (.cells #[.int .i64 c0, .int .i64 c1, .int .i64 c2] 3))
  clear HG0 BX0 BY0
  refine hK.out _ _ ⟨BX1.out.1, BX1.out.2.1, BX1.out.2.2, BY1.out.1, BY1.out.2.1, BY1.out.2.2⟩ ?_
  clear hK
  refine z_mem ?_
  intro K hK
  go_simp
  refine (HO.out _).mono ?_
  rintro e w5 ⟨rfl, rfl⟩
  refine hK.out _ _ ⟨BX1.out.1, BX1.out.2.1, BX1.out.2.2, BY1.out.1, BY1.out.2.1, BY1.out.2.2⟩ ?_
  clear hK
  iterate 1 (first | (refine' z_yes ?_ (by rfl) ?_ ?_; rotate_left; (intro w' hS; (try dsimp only at hS); go_simp; try (with_reducible rfl)); simp only [Act.put, List.setIfInBounds_toArray, List.set_cons_zero, List.set_cons_succ]) | (refine z_no (by rfl) ?_; simp only [Act.put, List.setIfInBounds_toArray, List.set_cons_zero, List.set_cons_succ]))
  refine z_nil ?_
  go_wp2_with fail
  go_ret
  exact ⟨rfl, HG1.out⟩

set_option maxRecDepth 100000 in
set_option maxHeartbeats 1000000 in
/-- A point's sum beside a sum. -/
theorem near_grew (x : Pt) (h : Int) (w : World) : Calls Tryd.prog 76 #[.agg #[.int .u64 x.h, .int .i64 x.n, .int .i64 x.i], .int .u64 h] w fun e w' => e = .returned (.int .i64 (cmpI x.h h)) ∧ Grew w w' := by
  have HC := Lib.hid (fun W => cmpU x.h h W)
  have HG : Hid (Grew w (w.alloc (.cells #[.int .u64 x.h, .int .i64 x.n, .int .i64 x.i] 67))) := Lib.hid ((Grew.refl w).alloc _)
  generalize cmpI x.h h = c at *
  go_enter Tryd.func76, Tryd.ntmps76
  go_wp2_with fail
  refine (HC.out _).mono ?_
  rintro e w4 ⟨rfl, rfl⟩
  go_wp2_with fail
  go_ret
  exact ⟨rfl, HG.out⟩

set_option maxRecDepth 100000 in
set_option maxHeartbeats 1000000 in
/-- Does a point come ahead, as the document has it? -/
theorem rless_any (x y : Pt) (w : World) : Calls Tryd.prog 40 #[.agg #[.int .u64 x.h, .int .i64 x.n, .int .i64 x.i], .agg #[.int .u64 y.h, .int .i64 y.n, .int .i64 y.i]] w fun e w' => e = .returned (.bool (ltP x y)) ∧ Below w.heap.size w w' := by
  have HG : Hid (Below w.heap.size w ((w.alloc (.cells #[.int .u64 x.h, .int .i64 x.n, .int .i64 x.i] 67)).alloc (.cells #[.int .u64 y.h, .int .i64 y.n, .int .i64 y.i] 67))) := Lib.hid (((Grew.refl w).alloc _).alloc _).below
  have HL : Hid (ltP x y = decide (x.h < y.h ∨ (x.h = y.h ∧ (x.n < y.n ∨ (x.n = y.n ∧ x.i < y.i))))) := Lib.hid rfl
  generalize ltP x y = L at *
  generalize x.h = xh at *
  generalize x.n = xn at *
  generalize x.i = xi at *
  generalize y.h = yh at *
  generalize y.n = yn at *
  generalize y.i = yi at *
  by_cases h1 : xh = yh
  · by_cases h2 : xn = yn
    · obtain ⟨T, hT⟩ : ∃ T, decide (xi < yi) = T := ⟨_, rfl⟩
      have hL : L = T := by rw [HL.out, ← hT]; simp [h1, h2]
      subst hL
      clear HL
      have e1 : (xh != yh) = false := by simpa using h1
      have e2 : (xn != yn) = false := by simpa using h2
      clear h1 h2
      go_enter Tryd.func40, Tryd.ntmps40
      go_wp2_with fail
      go_ret
      exact ⟨rfl, HG.out⟩
    · obtain ⟨T, hT⟩ : ∃ T, decide (xn < yn) = T := ⟨_, rfl⟩
      have hL : L = T := by rw [HL.out, ← hT]; simp [h1, h2]
      subst hL
      clear HL
      have e1 : (xh != yh) = false := by simpa using h1
      have e2 : (xn != yn) = true := by simpa using h2
      clear h1 h2
      go_enter Tryd.func40, Tryd.ntmps40
      go_wp2_with fail
      go_ret
      exact ⟨rfl, HG.out⟩
  · obtain ⟨T, hT⟩ : ∃ T, decide (xh < yh) = T := ⟨_, rfl⟩
    have hL : L = T := by rw [HL.out, ← hT]; simp [h1]
    subst hL
    clear HL
    have e1 : (xh != yh) = true := by simpa using h1
    clear h1
    go_enter Tryd.func40, Tryd.ntmps40
    go_wp2_with fail
    go_ret
    exact ⟨rfl, HG.out⟩
end Go.Proofs.YthcjjogomknddaaDoor
