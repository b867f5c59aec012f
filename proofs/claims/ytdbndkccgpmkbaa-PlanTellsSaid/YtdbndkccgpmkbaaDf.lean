/-
  The walk of Diff.
-/
import Derived.Test.YtdbndkccgpmkbaaBx

namespace Go.Proofs.Ytdbndkccgpmkbaa
open Go.Sort Go.RowKit Go.Proofs.Ytdbndkccgpmkbaa.Pure
attribute [local go_sem] Oper.semAt_some

theorem two_new (W : World) (a b : Int) (t : TypeId) : ∀ j, j < [a, b].length → (W.alloc (.cells #[.int .i64 a, .int .i64 b] t)).cell? ((⟨W.heap.size, 0, none⟩ : Addr).add j) = some (.int .i64 ([a, b].getD j 0)) := fun j hj => by
  match j, hj with
  | 0, _ => go_simp
  | 1, _ => go_simp
theorem orE_any (a b : Int) (W : World) : Calls Try.prog 22 #[.slice (some ⟨W.heap.size, 0, none⟩) 2 2] (W.alloc (.cells #[.int .i64 a, .int .i64 b] 26)) fun e w' => e = .returned (.int .i64 (firstN [a, b])) ∧ W.alloc (.cells #[.int .i64 a, .int .i64 b] 26) = w' :=
  or_any ⟨W.heap.size, 0, none⟩ [a, b] 2 (W.alloc (.cells #[.int .i64 a, .int .i64 b] 26)) (by simp) (two_new W a b _)

set_option maxRecDepth 10000000 in
set_option maxHeartbeats 4000000 in
theorem diff_bad (A B : Option Addr) (ca cb : Nat) (a b : List Pu) (w : World) (ha : a.length ≤ 100000) (hb : b.length ≤ 100000) (hA : Us w A a) (hB : Us w B b) (sa : Shrt (a.map Pu.t)) (sb : Shrt (b.map Pu.t)) (hL : putB a = false ∨ putB b = false) :
    Calls Try.prog 11 #[.slice A a.length ca, .slice B b.length cb] w fun e w' => e = .returned (.tuple #[.slice none 0 0, .int .i64 1]) ∧ Below w.heap.size w w' := by
  have HC1 := Lib.hid (fun W h => chkU_any A ca a W ha h sa _ rfl)
  have HC2 := Lib.hid (fun W h => chkU_any B cb b W hb h sb _ rfl)
  have HE : Hid (firstN [okE (putB a), okE (putB b)] = 1) := Lib.hid (by rcases hL with h | h <;> rw [h] <;> cases putB a <;> rfl)
  have HOR := Lib.hid (fun W => orE_any (okE (putB a)) (okE (putB b)) W)
  rw [HE.out] at HOR
  have H := Lib.hid hA
  have H' := Lib.hid hB
  generalize okE (putB a) = e1 at *
  generalize okE (putB b) = e2 at *
  clear hL hA hB sa sb HE
  generalize a.length = n at *
  generalize b.length = m at *
  refine (callsIn_wide (n := 9)).1 ?_
  refine callsIn_of_wp_marks Try.func11 rfl trivial ?_ rfl
  simp only [Try.ntmps11, List.size_toArray, List.length_cons, List.length_nil, Nat.reduceAdd, Nat.reduceSub, Array.replicate_succ, Array.replicate_zero, List.push_toArray, List.append_toArray, List.nil_append, List.cons_append]
  gi_wp2_with fail
  refine ⟨trivial, (callsIn_wide.2 (HC1.out w H.out)).mono ?_⟩
  rintro e w1 ⟨rfl, hb1⟩
  gi_wp2_with fail
  refine ⟨trivial, (callsIn_wide.2 (HC2.out w1 (H'.out.on hb1))).mono ?_⟩
  rintro e w2 ⟨rfl, hb2⟩
  have HB2 := Lib.hid (hb1.trans (hb2.mono hb1.size))
  clear hb1 hb2 HC1 HC2
  gi_wp2_with fail
  refine ⟨trivial, (callsIn_wide.2 (HOR.out w2)).mono ?_⟩
  rintro e w3 ⟨rfl, rfl⟩
  gi_wp2_with fail
  exact ⟨.tuple #[.slice none 0 0, .int .i64 1], by simp [results, Try.results11, go_sem], rfl, HB2.out.alloc HB2.out.size _⟩

set_option maxRecDepth 10000000 in
set_option maxHeartbeats 4000000 in
theorem diff_yes (A B : Option Addr) (ca cb : Nat) (a b : List Pu) (w : World) (ha : a.length ≤ 1000) (hb : b.length ≤ 1000) (hA : Us w A a) (hB : Us w B b) (sa : Shrt (a.map Pu.t)) (sb : Shrt (b.map Pu.t)) (hL : putB a = true ∧ putB b = true)
    (R : List Mv) (hR : (zipD a b).flatMap stepD = R) (big : Bool) (hbig : decide (100 < R.length) = big) (hz : (zipD a b).length ≤ 2000) :
    Calls Try.prog 11 #[.slice A a.length ca, .slice B b.length cb] w fun e w' => ∃ v, e = .returned (.tuple #[v, .int .i64 (if big then 9 else 0)]) ∧ OwnV w' w.heap.size v (if big then [] else R) ∧ Below w.heap.size w w' := by
  have HC1 := Lib.hid (fun W h => chkU_any A ca a W (by omega) h sa true hL.1)
  have HC2 := Lib.hid (fun W h => chkU_any B cb b W (by omega) h sb true hL.2)
  have HOR := Lib.hid (fun W => orE_any (okE true) (okE true) W)
  have HE : Hid (firstN [okE true, okE true] = 0) := Lib.hid rfl
  rw [HE.out] at HOR
  have H := Lib.hid hA
  have H' := Lib.hid hB
  generalize okE true = e1 at *
  clear hL hA hB sa sb HE
  refine (callsIn_wide (n := 9)).1 ?_
  refine callsIn_of_wp_marks Try.func11 rfl trivial ?_ rfl
  simp only [Try.ntmps11, List.size_toArray, List.length_cons, List.length_nil, Nat.reduceAdd, Nat.reduceSub, Array.replicate_succ, Array.replicate_zero, List.push_toArray, List.append_toArray, List.nil_append, List.cons_append]
  gi_wp2_with fail
  refine ⟨trivial, (callsIn_wide.2 (HC1.out w H.out)).mono ?_⟩
  rintro e w1 ⟨rfl, hb1⟩
  gi_wp2_with fail
  refine ⟨trivial, (callsIn_wide.2 (HC2.out w1 (H'.out.on hb1))).mono ?_⟩
  rintro e w2 ⟨rfl, hb2⟩
  have HB2 := Lib.hid (hb1.trans (hb2.mono hb1.size))
  clear hb1 hb2 HC1 HC2
  gi_wp2_with fail
  refine ⟨trivial, (callsIn_wide.2 (HOR.out w2)).mono ?_⟩
  rintro e w3 ⟨rfl, rfl⟩
  gi_upto_region 4 with (fail)
  obtain ⟨w3, hw3⟩ : ∃ w3, w2.alloc (.cells #[.int .i64 e1, .int .i64 e1] 26) = w3 := ⟨_, rfl⟩
  have hb3 : Below w.heap.size w w3 := by rw [← hw3]; exact HB2.out.alloc HB2.out.size _
  rw [hw3]
  have HB3 := Lib.hid hb3
  have HA3 := Lib.hid (H.out.on hb3)
  have HA3' := Lib.hid (H'.out.on hb3)
  clear hw3 hb3 HB2 HOR H H'
  gi_wp2_with fail
  refine ⟨trivial, (callsIn_wide.2 (pairsD_any _ _ _ _ _ _ _)).mono ?_⟩
  rintro e w' ⟨rfl, rfl⟩
  gi_wp2_with fail
  obtain ⟨W0, hW0⟩ : ∃ W0, (((w3.alloc (.cells #[.slice none 0 0] 23)).alloc (.cells #[.slice A a.length ca] 22)).alloc (.cells #[.slice B b.length cb] 22)).alloc (.cells #[.func (.func 25) #[] #[]] 55) = W0 := ⟨_, rfl⟩
  obtain ⟨s, hs⟩ : ∃ s, w3.heap.size = s := ⟨_, rfl⟩
  have hbW : Below s w3 W0 := by subst hs hW0; exact ((((Below.refl _ _).alloc (Nat.le_refl _) _).alloc (by simp) _).alloc (by simp; omega) _).alloc (by simp; omega) _
  have hsz : W0.heap.size = s + 4 := by subst hs hW0; simp
  have bL : Boxed W0 s 23 (.slice none 0 0) := by subst hs hW0; exact (((Boxed.new w3 _ _).alloc _).alloc _).alloc _
  have c1 : W0.cell? ⟨s + 1, 0, none⟩ = some (.slice A a.length ca) := by subst hs hW0; go_simp
  have c2 : W0.cell? ⟨s + 2, 0, none⟩ = some (.slice B b.length cb) := by subst hs hW0; go_simp
  have c3 : W0.cell? ⟨s + 3, 0, none⟩ = some (.func (.func 25) #[] #[]) := by subst hs hW0; go_simp
  rw [hW0, hs]
  have HS := Lib.hid (itD_stops 8 A B ca cb a b (by omega) (by omega) w3 W0 s hs HA3.out HA3'.out hbW hsz c1 c2 c3)
  have HBW := Lib.hid hbW
  have HWS := Lib.hid hs
  have HSZ := Lib.hid hsz
  clear hW0 hs hsz hbW c1 c2 c3 HA3 HA3'
  refine wpIn_rangeFunc_ownH rfl (show 1 ≤ 9 by omega) (gf := 37) (lb := #[.pointer (some ⟨s + 1, 0, none⟩), .pointer (some ⟨s + 2, 0, none⟩), .pointer (some ⟨s + 3, 0, none⟩)]) rfl trivial (enters_of Try.func37 (by kernel_rfl) rfl)
    HS.out (fun h k => h.trans k) (fun W l o o' hl _ _ _ => Kq.put l o' (by have := HSZ.out; omega) W) (Below.refl _ _) (fun _ => rfl)
    (fun (pre : List (Pu × Pu)) W => (∃ v, Boxed W s 23 v ∧ W.ownsRow (s + 4) 39 3 v (pre.flatMap stepD).length (csV (pre.flatMap stepD)) ∧ True) ∧ (Below s w3 W ∧ s + 4 ≤ W.heap.size))
    (fun _ _ _ => False)
    (OwnFrom.and (Own.from (holdsRow_own (s + 4) s 23 39 3 (fun (pre : List (Pu × Pu)) => (pre.flatMap stepD).length) (fun (pre : List (Pu × Pu)) => csV (pre.flatMap stepD)) (fun _ _ => True)) _) (OwnFrom.and (ownFrom_below (by rw [HWS.out]; exact Nat.le_refl _) (by have := HSZ.out; omega)) (fun _ _ _ _ h hg _ => Nat.le_trans h hg.size)))
    (fun _ _ _ _ _ hs _ _ => hs)
    ⟨⟨_, bL, World.ownsRow_nil _ _ _ _, trivial⟩, HBW.out, by rw [HSZ.out]; exact Nat.le_refl _⟩
    (fun x a' W => ∃ Bx By, s + 4 ≤ Bx ∧ s + 4 ≤ By ∧ Bu W Bx x.1 ∧ Bu W By x.2 ∧ a' = { tmps := #[.slice A a.length ca, .slice B b.length cb, undef, undef, .slice none 0 0, .int .i64 0, .int .i64 0, .pointer (some ⟨s, 0, none⟩), .pointer (some ⟨Bx, 0, none⟩), .pointer (some ⟨By, 0, none⟩), undef, undef, .slice A a.length ca, .int .i64 e1, .slice B b.length cb, .int .i64 e1, .slice (some ⟨w2.heap.size, 0, none⟩) 2 2, .int .i64 0, .int .i64 0, .bool false, undef, .slice A a.length ca, .slice B b.length cb, .func (.func 37) #[] #[.pointer (some ⟨s + 1, 0, none⟩), .pointer (some ⟨s + 1 + 1, 0, none⟩), .pointer (some ⟨s + 1 + 2, 0, none⟩)], .agg #[.string x.1.t, .int .i64 x.1.n], .agg #[.string x.2.t, .int .i64 x.2.n], undef, undef, undef, undef, undef, undef, undef, undef, undef, undef, undef, undef, undef, undef, undef, undef, undef, undef, undef, undef, undef, undef, undef], defers := [] })
    (fun x a' _ X Y row hs hg hr => by
      obtain ⟨Bx, By, e1, e2, b1, b2, e3⟩ := hs
      have hr' := fun r e => (hr r e).2
      exact ⟨Bx, By, e1, e2, ⟨cell_kept b1.1 hg hr', cell_kept b1.2 hg hr'⟩, ⟨cell_kept b2.1 hg hr', cell_kept b2.2 hg hr'⟩, e3⟩)
    ?assign ?body ?done ?stop
  case assign =>
    rintro l pre x W K ⟨⟨v, hv, hrow, _⟩, hB⟩ hK
    have HSW := Lib.hid hB.2
    have HBB := Lib.hid hB.1
    clear hB
    obtain ⟨W2, hW2⟩ : ∃ W2, (W.alloc (.cells #[.string x.1.t, .int .i64 x.1.n] 53)).alloc (.cells #[.string x.2.t, .int .i64 x.2.n] 53) = W2 := ⟨_, rfl⟩
    have hb2 : Below W.heap.size W W2 := by rw [← hW2]; exact ((Below.refl _ _).alloc (Nat.le_refl _) _).alloc (by simp) _
    have bX : Bu W2 W.heap.size x.1 := by rw [← hW2]; exact (Bu.new W x.1 _).alloc _
    have bY : Bu W2 (W.heap.size + 1) x.2 := by rw [← hW2]; have := Bu.new (W.alloc (.cells #[.string x.1.t, .int .i64 x.1.n] 53)) x.2 53; rwa [World.size_alloc] at this
    have HK := Lib.hid hK
    have HV := Lib.hid (box_on hv hb2)
    have HR := Lib.hid (own_on hrow hb2)
    have HN := Lib.hid (round_none (B0 := W0.heap.size) (S := s + 4) hb2 HSW.out HBB.out (by have := HSW.out; omega))
    clear hK hv hrow
    gi_wp2
    exact HK.out _ _ HN.out.1 HN.out.2.1 ⟨⟨v, HV.out, HR.out, trivial⟩, HN.out.2.2, Nat.le_trans HSW.out hb2.size⟩ ⟨W.heap.size, W.heap.size + 1, HSW.out, by have := HSW.out; omega, bX, bY, rfl⟩
  case body =>
    rintro l pre x a' W hl hr ⟨⟨v, hv, hrow, _⟩, hB⟩ ⟨Bx, By, hBx, hBy, bX, bY, rfl⟩ hlt
    have HSW := Lib.hid hB.2
    obtain ⟨x0, x1⟩ := bX
    obtain ⟨y0, y1⟩ := bY
    have HX : Hid (∀ p : Regrown, Calls Try.prog 27 #[.agg #[.string x.1.t, .int .i64 x.1.n]] (grow (redrawn W p.d) p.os) fun e w' => e = .returned (.int .i64 (whP x.1)) ∧ Below (grow (redrawn W p.d) p.os).heap.size (grow (redrawn W p.d) p.os) w') := Lib.hid (fun p => where_any x.1 _)
    have HY : Hid (∀ p : Regrown, Calls Try.prog 27 #[.agg #[.string x.2.t, .int .i64 x.2.n]] (grow (redrawn W p.d) p.os) fun e w' => e = .returned (.int .i64 (whP x.2)) ∧ Below (grow (redrawn W p.d) p.os).heap.size (grow (redrawn W p.d) p.os) w') := Lib.hid (fun p => where_any x.2 _)
    have X0 : ∀ p : Regrown, (grow (redrawn W p.d) p.os).cell? ⟨Bx, 0, none⟩ = some (.string x.1.t) := fun p => cell_regrown x0 p.d p.os
    have X1 : ∀ p : Regrown, (grow (redrawn W p.d) p.os).cell? ⟨Bx, 1, none⟩ = some (.int .i64 x.1.n) := fun p => cell_regrown x1 p.d p.os
    have Y0 : ∀ p : Regrown, (grow (redrawn W p.d) p.os).cell? ⟨By, 0, none⟩ = some (.string x.2.t) := fun p => cell_regrown y0 p.d p.os
    have Y1 : ∀ p : Regrown, (grow (redrawn W p.d) p.os).cell? ⟨By, 1, none⟩ = some (.int .i64 x.2.n) := fun p => cell_regrown y1 p.d p.os
    have HG : Hid ((pre ++ [x]).flatMap stepD = pre.flatMap stepD ++ stepD x) := Lib.hid (gather_next _ _ _)
    have HLEN : Hid ((pre.flatMap stepD).length ≤ 2000) := Lib.hid (by have := gather_len stepD_one pre; omega)
    have HSD : Hid (stepD x = if whP x.1 = whP x.2 then [] else [⟨orS x.1.t x.2.t, whP x.1, whP x.2⟩]) := Lib.hid rfl
    have HV := Lib.hid hv
    have HR := Lib.hid hrow
    have HBB := Lib.hid hB.1
    have HLT := Lib.hid hlt
    clear hv hrow hB hlt hr hl
    generalize pre.flatMap stepD = G at *
    generalize whP x.1 = f at *
    generalize whP x.2 = g at *
    gi_upto_region 8 with (fail)
    refine qr_enter (by kernel_rfl) (by kernel_rfl) (by rintro ⟨_, _, h⟩; exact h) (by kernel_rfl) ?_
    iterate 6 (refine q_step ?_; intro K hK; go_simp; first | (refine hK _ ?_; clear hK K) | (refine ⟨_, fun p => Calls.regrown_of (by with_reducible exact HX.out p), hK _ ?_⟩; clear hK K) | (refine ⟨_, fun p => Calls.regrown_of (by with_reducible exact HY.out p), hK _ ?_⟩; clear hK K))
    refine q_nil ?_
    intro wz hbz
    clear X0 X1 Y0 Y1 HX HY
    by_cases hfg : f = g
    · have q1 : (f == g) = true := by simpa using hfg
      have HE := Lib.hid (HSD.out.trans (if_pos hfg))
      clear hfg HSD
      gi_wp2_with fail
      have hN := round_none (B0 := W0.heap.size) (S := s + 4) hbz HSW.out HBB.out (by have := HSW.out; omega)
      exact ⟨hN.1, hN.2.1, ⟨v, box_on HV.out hbz, by rw [HG.out, HE.out, List.append_nil]; exact own_on HR.out hbz, trivial⟩, hN.2.2, Nat.le_trans HSW.out hbz.size⟩
    · have q1 : (f == g) = false := by simpa using hfg
      have HE := Lib.hid (HSD.out.trans (if_neg hfg))
      clear hfg HSD
      gi_upto_region 10 with (fail)
      have HB1 := Lib.hid hbz
      have HVz := Lib.hid (box_on HV.out hbz)
      have HRz := Lib.hid (own_on HR.out hbz)
      have cl := HVz.out.cell
      have x0z := (hbz.cell (World.block_lt_of_cell? _ _ x0)).trans x0
      have y0z := (hbz.cell (World.block_lt_of_cell? _ _ y0)).trans y0
      have HOS := Lib.hid (fun (W : World) => orS_any ⟨W.heap.size, 0, none⟩ x.1.t x.2.t 2 (W.alloc (.cells #[.string x.1.t, .string x.2.t] 9)) (by go_simp) (by go_simp))
      generalize orS x.1.t x.2.t = z at *
      clear hbz x0 x1 y0 y1
      refine zsr_enter 11 [(0, true), (1, true), (2, true), (3, true), (4, true), (7, true), (8, true), (5, false), (6, false), (9, true), (10, false)] (fun w' => w'.cell? ⟨s, 0, none⟩ = some v ∧ w'.cell? ⟨Bx, 0, none⟩ = some (.string x.1.t) ∧ w'.cell? ⟨By, 0, none⟩ = some (.string x.2.t)) (by kernel_rfl) (by kernel_rfl) (by kernel_rfl) (by rintro ⟨_, _, h⟩; exact h) (by kernel_rfl) (fun _ _ d _ _ h => by cases d <;> exact h) ⟨cl, x0z, y0z⟩ ?_
      simp only [List.take_succ_cons, List.take_zero, pickL, List.drop_succ_cons, List.drop_zero]
      iterate 7 (first | (refine' z_yes ?_ (by rfl) ?_ ?_; rotate_left; (intro w' hS; (try dsimp only at hS); go_simp; try (with_reducible rfl)); simp only [Act.put, List.setIfInBounds_toArray, List.set_cons_zero, List.set_cons_succ]) | (refine z_no (by rfl) ?_; simp only [Act.put, List.setIfInBounds_toArray, List.set_cons_zero, List.set_cons_succ]))
      obtain ⟨wd, hwd⟩ : ∃ wd, wz.drew = wd := ⟨_, rfl⟩
      have hbd : Below W.heap.size W wd := by rw [← hwd]; exact HB1.out.drew
      rw [hwd]
      have HBd := Lib.hid hbd
      have HVd := Lib.hid (box_on HV.out hbd)
      have HRd := Lib.hid (own_on HR.out hbd)
      have cl' : wd.cell? ⟨s, 0, none⟩ = some v := by rw [← hwd]; exact cl
      have x0' : wd.cell? ⟨Bx, 0, none⟩ = some (.string x.1.t) := by rw [← hwd]; exact x0z
      have y0' : wd.cell? ⟨By, 0, none⟩ = some (.string x.2.t) := by rw [← hwd]; exact y0z
      clear hwd hbd cl x0z y0z HVz HRz HB1
      refine z_mem ?_
      intro K hK
      go_simp
      have hb2 : Below wd.heap.size wd (wd.alloc (.cells #[.string x.1.t, .string x.2.t] 9)) := (Below.refl _ _).alloc (Nat.le_refl _) _
      have d0 := (hb2.cell (World.block_lt_of_cell? _ _ cl')).trans cl'
      have d1 := (hb2.cell (World.block_lt_of_cell? _ _ x0')).trans x0'
      have d2 := (hb2.cell (World.block_lt_of_cell? _ _ y0')).trans y0'
      have HC := HOS.out wd
      refine hK.out _ _ ⟨d0, d1, d2⟩ ?_
      clear hK
      refine z_mem ?_
      intro K hK
      go_simp
      refine HC.mono ?_
      rintro e w' ⟨rfl, rfl⟩
      dsimp only
      refine hK.out _ _ ⟨d0, d1, d2⟩ ?_
      clear hK
      iterate 1 (first | (refine' z_yes ?_ (by rfl) ?_ ?_; rotate_left; (intro w' hS; (try dsimp only at hS); go_simp; try (with_reducible rfl)); simp only [Act.put, List.setIfInBounds_toArray, List.set_cons_zero, List.set_cons_succ]) | (refine z_no (by rfl) ?_; simp only [Act.put, List.setIfInBounds_toArray, List.set_cons_zero, List.set_cons_succ]))
      obtain ⟨we, hwe⟩ : ∃ we, wd.alloc (.cells #[.string x.1.t, .string x.2.t] 9) = we := ⟨_, rfl⟩
      have HBe : Hid (Below W.heap.size W we) := Lib.hid (by rw [← hwe]; exact HBd.out.trans (hb2.mono HBd.out.size))
      rw [hwe] at d0 d1 d2 ⊢
      clear hwe hb2 HC cl' x0' y0' HVd HRd HBd
      refine z_mem ?_
      intro K hK
      go_simp
      have hb3 : Below we.heap.size we (we.alloc (.cells #[.string z, .int .i64 f, .int .i64 g] 39)) := (Below.refl _ _).alloc (Nat.le_refl _) _
      refine hK.out _ _ ⟨(hb3.cell (World.block_lt_of_cell? _ _ d0)).trans d0, (hb3.cell (World.block_lt_of_cell? _ _ d1)).trans d1, (hb3.cell (World.block_lt_of_cell? _ _ d2)).trans d2⟩ ?_
      clear hK
      obtain ⟨wf, hwf⟩ : ∃ wf, we.alloc (.cells #[.string z, .int .i64 f, .int .i64 g] 39) = wf := ⟨_, rfl⟩
      have HBf : Hid (Below W.heap.size W wf) := Lib.hid (by rw [← hwf]; exact HBe.out.trans (hb3.mono HBe.out.size))
      have HVs : Hid (Vs wf (some ⟨we.heap.size, 0, none⟩) [⟨z, f, g⟩]) := Lib.hid (by rw [← hwf]; exact Vs.one we ⟨z, f, g⟩ _)
      rw [hwf]
      have HRf : Hid (OwnV wf (s + 4) v G) := Lib.hid (own_on HR.out HBf.out)
      have HVf := Lib.hid (box_on HV.out HBf.out)
      have hsz5 : s + 4 ≤ wf.heap.size := Nat.le_trans HSW.out HBf.out.size
      clear hwf hb3 d0 d1 d2 HBe
      refine z_nil ?_
      show wpList _ _ _ _ _ _
      refine wpList_appendV rfl _ _ rfl (s + 4) v G rfl HRf.out (some ⟨we.heap.size, 0, none⟩) 1 [⟨z, f, g⟩] rfl HVs.out (by have := HLEN.out; simp; omega) hsz5 ?_
      intro v' w5 ho5 hg5 _
      have HXE : Hid ((pre ++ [x]).flatMap stepD = G ++ [⟨z, f, g⟩]) := Lib.hid (by rw [HG.out, HE.out])
      have hpos : 0 < (G ++ [(⟨z, f, g⟩ : Mv)]).length := by simp
      generalize G ++ [(⟨z, f, g⟩ : Mv)] = G' at *
      have hap := round_app (B0 := W0.heap.size) (w3 := w3) HV.out (by decide) HR.out HSW.out (by omega) HBf.out ho5 hg5 HBB.out
      have cc := hap.1.cell
      have fr := hap.1.frozen
      obtain ⟨g5, cap5, rfl⟩ := ownsRow_pos ho5 hpos
      have HAP := Lib.hid hap
      clear hap ho5 hg5 hpos HRf HVf HVs HBf hsz5 HLEN
      go_wp2_with fail
      exact ⟨HAP.out.2.2.2.1, HAP.out.2.2.2.2.1, ⟨_, HAP.out.2.1, by rw [HXE.out]; exact HAP.out.2.2.1, trivial⟩, HAP.out.2.2.2.2.2, Nat.le_trans HSW.out HAP.out.2.2.2.2.1.size⟩
  case done =>
    rintro D ys W hD rfl ⟨⟨v, hv, hrow, _⟩, hB, hsW⟩ hK
    rw [hR] at hrow
    have HO : Hid (OwnV W (s + 4) v R) := Lib.hid hrow
    obtain ⟨AR, cR, rfl, hcR, _⟩ := (show OwnV W (s + 4) v R from hrow).lst
    have HK := Lib.hid hK
    have HBB := Lib.hid hB
    have HDD : Hid (s + 4 ≤ D) := Lib.hid (by have := HSZ.out; omega)
    have cc := hv.cell
    have HOP : Hid (OwnV (W.putObj D (.deferred none)) w.heap.size (.slice AR R.length cR) R) := Lib.hid (OwnV.mono (ownsRow_putObj hrow _ hK rfl) (by have := HB3.out.size; have := HWS.out; omega))
    have HBP : Hid (Below w.heap.size w (W.putObj D (.deferred none))) := Lib.hid ((HB3.out.trans (HBB.out.mono (by have := HB3.out.size; have := HWS.out; omega))).trans (belowK_b (w := w) (Nat.le_refl _) W D _ _ (by have := HB3.out.size; have := HWS.out; have := HDD.out; omega) hK rfl rfl))
    have q1 : decide (100 < (R.length : Int)) = big := by rw [← hbig]; exact decide_eq_decide.2 (by omega)
    have q2 : decide (100 < R.length) = big := hbig
    clear hrow hB hv hsW hcR hR hbig
    generalize R.length = nR at *
    rcases big with _ | _
    · gi_wp2
      refine ⟨by simp, .inl ⟨_, _, rfl, run_takeDeferred HK.out, ?_⟩⟩
      exact ⟨.tuple #[.slice AR nR cR, .int .i64 0], by simp [results, Try.results11, go_sem], _, rfl, HOP.out, HBP.out⟩
    · gi_wp2
      refine ⟨by simp, .inl ⟨_, _, rfl, run_takeDeferred HK.out, ?_⟩⟩
      exact ⟨.tuple #[.slice none 0 0, .int .i64 9], by simp [results, Try.results11, go_sem], _, rfl, OwnV.nil _ _, HBP.out⟩
  case stop =>
    rintro D c pre W _ _ h _
    exact h.elim
end Go.Proofs.Ytdbndkccgpmkbaa
