/-
  The walk of Apply.
-/
import Derived.Test.YtdbndkccgpmkbaaDf
namespace Go.Proofs.Ytdbndkccgpmkbaa
open Go.Sort Go.RowKit Go.Proofs.Ytdbndkccgpmkbaa.Pure
attribute [local go_sem] Oper.semAt_some
theorem box_other {W : World} {s b : Nat} {t : TypeId} {v : Value} (h : Boxed W s t v) (hne : s ≠ b) (u : Value) : Boxed (W.setCell ⟨b, 0, none⟩ u) s t v := h.other hne u

set_option maxRecDepth 10000000 in
set_option maxHeartbeats 4000000 in
theorem apply_bad (A B : Option Addr) (ca cb : Nat) (a : List Pu) (b : List Mv) (w : World) (ha : a.length ≤ 100000) (hb : b.length ≤ 100000) (hA : Us w A a) (hB : Vs w B b) (sa : Shrt (a.map Pu.t)) (sb : Shrt (b.map Mv.t)) (hL : putB a = false ∨ movB b = false) :
    Calls Try.prog 12 #[.slice A a.length ca, .slice B b.length cb] w fun e w' => e = .returned (.tuple #[.slice none 0 0, .int .i64 1]) ∧ Below w.heap.size w w' := by
  have HC1 := Lib.hid (fun W h => chkU_any A ca a W ha h sa _ rfl)
  have HC2 := Lib.hid (fun W h => chkV_any B cb b W hb h sb _ rfl)
  have HE : Hid (firstN [okE (putB a), okE (movB b)] = 1) := Lib.hid (by rcases hL with h | h <;> rw [h] <;> first | rfl | (cases putB a <;> rfl))
  have HOR := Lib.hid (fun W => orE_any (okE (putB a)) (okE (movB b)) W)
  rw [HE.out] at HOR
  have H := Lib.hid hA
  have H' := Lib.hid hB
  generalize okE (putB a) = e1 at *
  generalize okE (movB b) = e2 at *
  clear hL hA hB sa sb HE
  generalize a.length = n at *
  generalize b.length = m at *
  refine (callsIn_wide (n := 9)).1 ?_
  refine callsIn_of_wp_marks Try.func12 rfl trivial ?_ rfl
  simp only [Try.ntmps12, List.size_toArray, List.length_cons, List.length_nil, Nat.reduceAdd, Nat.reduceSub, Array.replicate_succ, Array.replicate_zero, List.push_toArray, List.append_toArray, List.nil_append, List.cons_append]
  gi_upto_region 1 with (fail)
  obtain ⟨r, hr⟩ : ∃ r, w.heap.size = r := ⟨_, rfl⟩
  obtain ⟨W1, hW1⟩ : ∃ W1, (w.alloc (.cells #[.slice none 0 0] 22)).alloc (.cells #[.int .i64 0] 26) = W1 := ⟨_, rfl⟩
  have hbA : Below w.heap.size w W1 := by rw [← hW1]; exact ((Below.refl _ _).alloc (Nat.le_refl _) _).alloc (by simp) _
  have hx4 : Boxed W1 r 22 (.slice none 0 0) := by rw [← hr, ← hW1]; exact (Boxed.new w _ _).alloc _
  have hx5 : Boxed W1 (r + 1) 26 (.int .i64 0) := by rw [← hr, ← hW1]; have := Boxed.new (w.alloc (.cells #[.slice none 0 0] 22)) 26 (.int .i64 0); rwa [World.size_alloc] at this
  rw [hW1, hr]
  have HR := Lib.hid hr
  have HA1 := Lib.hid (H.out.on hbA)
  have HB1 := Lib.hid (H'.out.on hbA)
  have HX4 := Lib.hid hx4
  have HX5 := Lib.hid hx5
  have HBA := Lib.hid hbA
  clear hW1 hr hx4 hx5 hbA H H'
  gi_wp2_with fail
  refine ⟨trivial, (callsIn_wide.2 (HC1.out W1 HA1.out)).mono ?_⟩
  rintro e w1 ⟨rfl, hb1⟩
  gi_wp2_with fail
  refine ⟨trivial, (callsIn_wide.2 (HC2.out w1 (HB1.out.on hb1))).mono ?_⟩
  rintro e w2 ⟨rfl, hb2⟩
  have HB2 : Hid (Below W1.heap.size W1 w2) := Lib.hid (hb1.trans (hb2.mono hb1.size))
  clear hb1 hb2 HC1 HC2
  gi_wp2_with fail
  refine ⟨trivial, (callsIn_wide.2 (HOR.out w2)).mono ?_⟩
  rintro e w3 ⟨rfl, rfl⟩
  gi_upto_region 3 with (fail)
  obtain ⟨w3, hw3⟩ : ∃ w3, w2.alloc (.cells #[.int .i64 e1, .int .i64 e2] 26) = w3 := ⟨_, rfl⟩
  have hb3 : Below W1.heap.size W1 w3 := by rw [← hw3]; exact HB2.out.alloc HB2.out.size _
  rw [hw3]
  have HB3 := Lib.hid (HBA.out.trans (hb3.mono HBA.out.size))
  have HY4 := Lib.hid (box_on HX4.out hb3)
  have HY5 := Lib.hid (box_on HX5.out hb3)
  have HA3 := Lib.hid (HA1.out.on hb3)
  have HA3' := Lib.hid (HB1.out.on hb3)
  clear hw3 hb3 HB2 HOR HA1 HB1 HX4 HX5 HBA
  have c4 := HY4.out.cell
  have f4 := HY4.out.frozen
  have c5 := HY5.out.cell
  have f5 := HY5.out.frozen
  clear HA3 HA3'
  gi_wp2_with fail
  have d4 := (box_other (HY4.out.set (.slice none 0 0)) (show r ≠ r + 1 by omega) (.int .i64 1)).cell
  have d5 := ((box_other HY5.out (show r + 1 ≠ r by omega) (.slice none 0 0)).set (.int .i64 1)).cell
  exact ⟨.tuple #[.slice none 0 0, .int .i64 1], by simp [results, Try.results12, go_sem, asAddr, d4, d5], rfl, by rw [HR.out]; exact ((HR.out ▸ HB3.out : Below r w w3).setCell (p := ⟨r, 0, none⟩) (Nat.le_refl _) _).setCell (p := ⟨r + 1, 0, none⟩) (by simp) _⟩

set_option maxRecDepth 10000000 in
set_option maxHeartbeats 4000000 in
theorem apply_yes (A B : Option Addr) (ca cb : Nat) (a : List Pu) (b : List Mv) (w : World) (ha : a.length ≤ 1000) (hb : b.length ≤ 1000) (hA : Us w A a) (hB : Vs w B b) (sa : Shrt (a.map Pu.t)) (sb : Shrt (b.map Mv.t)) (hL : putB a = true ∧ movB b = true)
    (R : List Pu) (hR : (zipM a b).flatMap stepA = R) (sta : Bool) (hsta : (zipM a b).any badA = sta) (big : Bool) (hbig : decide (100 < R.length) = big) (hz : (zipM a b).length ≤ 2000) :
    Calls Try.prog 12 #[.slice A a.length ca, .slice B b.length cb] w fun e w' => ∃ v, e = .returned (.tuple #[v, .int .i64 (if sta then 8 else if big then 9 else 0)]) ∧ OwnU w' w.heap.size v (if sta || big then [] else R) ∧ Below w.heap.size w w' := by
  have HC1 := Lib.hid (fun W h => chkU_any A ca a W (by omega) h sa true hL.1)
  have HC2 := Lib.hid (fun W h => chkV_any B cb b W (by omega) h sb true hL.2)
  have HOR := Lib.hid (fun W => orE_any (okE true) (okE true) W)
  have HE : Hid (firstN [okE true, okE true] = 0) := Lib.hid rfl
  rw [HE.out] at HOR
  have H := Lib.hid hA
  have H' := Lib.hid hB
  generalize okE true = e1 at *
  clear hL hA hB sa sb HE
  refine (callsIn_wide (n := 9)).1 ?_
  refine callsIn_of_wp_marks Try.func12 rfl trivial ?_ rfl
  simp only [Try.ntmps12, List.size_toArray, List.length_cons, List.length_nil, Nat.reduceAdd, Nat.reduceSub, Array.replicate_succ, Array.replicate_zero, List.push_toArray, List.append_toArray, List.nil_append, List.cons_append]
  gi_upto_region 1 with (fail)
  obtain ⟨r, hr⟩ : ∃ r, w.heap.size = r := ⟨_, rfl⟩
  obtain ⟨W1, hW1⟩ : ∃ W1, (w.alloc (.cells #[.slice none 0 0] 22)).alloc (.cells #[.int .i64 0] 26) = W1 := ⟨_, rfl⟩
  have hbA : Below w.heap.size w W1 := by rw [← hW1]; exact ((Below.refl _ _).alloc (Nat.le_refl _) _).alloc (by simp) _
  have hx4 : Boxed W1 r 22 (.slice none 0 0) := by rw [← hr, ← hW1]; exact (Boxed.new w _ _).alloc _
  have hx5 : Boxed W1 (r + 1) 26 (.int .i64 0) := by rw [← hr, ← hW1]; have := Boxed.new (w.alloc (.cells #[.slice none 0 0] 22)) 26 (.int .i64 0); rwa [World.size_alloc] at this
  rw [hW1, hr]
  have HR := Lib.hid hr
  have HA1 := Lib.hid (H.out.on hbA)
  have HB1 := Lib.hid (H'.out.on hbA)
  have HX4 := Lib.hid hx4
  have HX5 := Lib.hid hx5
  have HBA := Lib.hid hbA
  clear hW1 hr hx4 hx5 hbA H H'
  gi_wp2_with fail
  refine ⟨trivial, (callsIn_wide.2 (HC1.out W1 HA1.out)).mono ?_⟩
  rintro e w1 ⟨rfl, hb1⟩
  gi_wp2_with fail
  refine ⟨trivial, (callsIn_wide.2 (HC2.out w1 (HB1.out.on hb1))).mono ?_⟩
  rintro e w2 ⟨rfl, hb2⟩
  have HB2 : Hid (Below W1.heap.size W1 w2) := Lib.hid (hb1.trans (hb2.mono hb1.size))
  clear hb1 hb2 HC1 HC2
  gi_wp2_with fail
  refine ⟨trivial, (callsIn_wide.2 (HOR.out w2)).mono ?_⟩
  rintro e w3 ⟨rfl, rfl⟩
  gi_upto_region 4 with (fail)
  obtain ⟨w3, hw3⟩ : ∃ w3, w2.alloc (.cells #[.int .i64 e1, .int .i64 e1] 26) = w3 := ⟨_, rfl⟩
  have hb3 : Below W1.heap.size W1 w3 := by rw [← hw3]; exact HB2.out.alloc HB2.out.size _
  rw [hw3]
  have HB3 := Lib.hid (HBA.out.trans (hb3.mono HBA.out.size))
  have HY4 := Lib.hid (box_on HX4.out hb3)
  have HY5 := Lib.hid (box_on HX5.out hb3)
  have HA3 := Lib.hid (HA1.out.on hb3)
  have HA3' := Lib.hid (HB1.out.on hb3)
  clear hw3 hb3 HB2 HOR HA1 HB1 HX4 HX5 HBA
  gi_wp2_with fail
  refine ⟨trivial, (callsIn_wide.2 (pairsA_any _ _ _ _ _ _ _)).mono ?_⟩
  rintro e w' ⟨rfl, rfl⟩
  gi_wp2_with fail
  obtain ⟨W0, hW0⟩ : ∃ W0, (((w3.alloc (.cells #[.slice none 0 0] 22)).alloc (.cells #[.slice A a.length ca] 22)).alloc (.cells #[.slice B b.length cb] 23)).alloc (.cells #[.func (.func 30) #[] #[]] 61) = W0 := ⟨_, rfl⟩
  obtain ⟨s, hs⟩ : ∃ s, w3.heap.size = s := ⟨_, rfl⟩
  have hbW : Below s w3 W0 := by subst hs hW0; exact ((((Below.refl _ _).alloc (Nat.le_refl _) _).alloc (by simp) _).alloc (by simp; omega) _).alloc (by simp; omega) _
  have hsz : W0.heap.size = s + 4 := by subst hs hW0; simp
  have bL : Boxed W0 s 22 (.slice none 0 0) := by subst hs hW0; exact (((Boxed.new w3 _ _).alloc _).alloc _).alloc _
  have c1 : W0.cell? ⟨s + 1, 0, none⟩ = some (.slice A a.length ca) := by subst hs hW0; go_simp
  have c2 : W0.cell? ⟨s + 2, 0, none⟩ = some (.slice B b.length cb) := by subst hs hW0; go_simp
  have c3 : W0.cell? ⟨s + 3, 0, none⟩ = some (.func (.func 30) #[] #[]) := by subst hs hW0; go_simp
  rw [hW0, hs]
  have HS := Lib.hid (itA_stops 8 A B ca cb a b (by omega) (by omega) w3 W0 s hs HA3.out HA3'.out hbW hsz c1 c2 c3)
  have HBW := Lib.hid hbW
  have HWS := Lib.hid hs
  have HSZ := Lib.hid hsz
  have HRS : Hid (r + 1 < s) := Lib.hid (by have := HY5.out.lt; omega)
  clear hW0 hs hsz hbW c1 c2 c3 HA3 HA3'
  refine wpIn_rangeFunc_ownH rfl (show 1 ≤ 9 by omega) (gf := 39) (lb := #[.pointer (some ⟨s + 1, 0, none⟩), .pointer (some ⟨s + 2, 0, none⟩), .pointer (some ⟨s + 3, 0, none⟩)]) rfl trivial (enters_of Try.func39 (by kernel_rfl) rfl)
    HS.out (fun h k => h.trans k) (fun W l o o' hl _ _ _ => Kq.put l o' (by have := HSZ.out; omega) W) (Below.refl _ _) (fun _ => rfl)
    (fun (pre : List (Pu × Mv)) W => (∃ v, Boxed W s 22 v ∧ W.ownsRow (s + 4) 53 2 v (pre.flatMap stepA).length (uss (pre.flatMap stepA)) ∧ True) ∧ (pre.any badA = false ∧ (Below s w3 W ∧ s + 4 ≤ W.heap.size)))
    (fun c (pre : List (Pu × Mv)) W => (c = .ret ∧ pre.any badA = true) ∧ ((Boxed W r 22 (.slice none 0 0) ∧ Boxed W (r + 1) 26 (.int .i64 8)) ∧ Below w.heap.size w W))
    (OwnFrom.and (Own.from (holdsRow_own (s + 4) s 22 53 2 (fun (pre : List (Pu × Mv)) => (pre.flatMap stepA).length) (fun (pre : List (Pu × Mv)) => uss (pre.flatMap stepA)) (fun _ _ => True)) _) (OwnFrom.and (ownFrom_pure _ _) (OwnFrom.and (ownFrom_below (by rw [HWS.out]; exact Nat.le_refl _) (by have := HSZ.out; omega)) (fun _ _ _ _ h hg _ => Nat.le_trans h hg.size))))
    (fun c => OwnFrom.and (ownFrom_pure _ _) (OwnFrom.and (OwnFrom.and (Own.from (boxed_own _ _ _) _) (Own.from (boxed_own _ _ _) _)) (ownFrom_below (Nat.le_refl _) (by have := HSZ.out; have := HRS.out; have := HR.out; omega))))
    ⟨⟨_, bL, World.ownsRow_nil _ _ _ _, trivial⟩, rfl, HBW.out, by rw [HSZ.out]; exact Nat.le_refl _⟩
    (fun x a' W => ∃ Bx By, s + 4 ≤ Bx ∧ s + 4 ≤ By ∧ Bu W Bx x.1 ∧ BV W By x.2 ∧ a' = { tmps := #[.slice A a.length ca, .slice B b.length cb, undef, undef, .pointer (some ⟨r, 0, none⟩), .pointer (some ⟨r + 1, 0, none⟩), .int .i64 0, .pointer (some ⟨s, 0, none⟩), .pointer (some ⟨Bx, 0, none⟩), .pointer (some ⟨By, 0, none⟩), .slice A a.length ca, .int .i64 e1, .slice B b.length cb, .int .i64 e1, .slice (some ⟨w2.heap.size, 0, none⟩) 2 2, .int .i64 0, .int .i64 0, .bool false, undef, .slice A a.length ca, .slice B b.length cb, .func (.func 39) #[] #[.pointer (some ⟨s + 1, 0, none⟩), .pointer (some ⟨s + 1 + 1, 0, none⟩), .pointer (some ⟨s + 1 + 2, 0, none⟩)], .agg #[.string x.1.t, .int .i64 x.1.n], .agg #[.string x.2.t, .int .i64 x.2.f, .int .i64 x.2.g], undef, undef, undef, undef, undef, undef, undef, undef, undef, undef, undef, undef, undef, undef, undef, undef, undef, undef, undef, undef, undef, undef, undef, undef, undef, undef, undef, undef, undef, undef], defers := [] })
    (fun x a' _ X Y row hs hg hr => by
      obtain ⟨Bx, By, e1, e2, b1, b2, e3⟩ := hs
      have hr' := fun r e => (hr r e).2
      exact ⟨Bx, By, e1, e2, ⟨cell_kept b1.1 hg hr', cell_kept b1.2 hg hr'⟩, ⟨cell_kept b2.1 hg hr', cell_kept b2.2.1 hg hr', cell_kept b2.2.2 hg hr'⟩, e3⟩)
    ?assign ?body ?done ?stop
  case assign =>
    rintro l pre x W K ⟨⟨v, hv, hrow, _⟩, hnb, hB⟩ hK
    have HSW := Lib.hid hB.2
    have HBB := Lib.hid hB.1
    have HNB := Lib.hid hnb
    clear hB hnb
    obtain ⟨W2, hW2⟩ : ∃ W2, (W.alloc (.cells #[.string x.1.t, .int .i64 x.1.n] 53)).alloc (.cells #[.string x.2.t, .int .i64 x.2.f, .int .i64 x.2.g] 39) = W2 := ⟨_, rfl⟩
    have hb2 : Below W.heap.size W W2 := by rw [← hW2]; exact ((Below.refl _ _).alloc (Nat.le_refl _) _).alloc (by simp) _
    have bX : Bu W2 W.heap.size x.1 := by rw [← hW2]; exact (Bu.new W x.1 _).alloc _
    have bY : BV W2 (W.heap.size + 1) x.2 := by rw [← hW2]; have := BV.new (W.alloc (.cells #[.string x.1.t, .int .i64 x.1.n] 53)) x.2 39; rwa [World.size_alloc] at this
    have HK := Lib.hid hK
    have HV := Lib.hid (box_on hv hb2)
    have HRR := Lib.hid (own_on hrow hb2)
    have HN := Lib.hid (round_none (B0 := W0.heap.size) (S := s + 4) hb2 HSW.out HBB.out (by have := HSW.out; omega))
    clear hK hv hrow
    gi_wp2
    exact HK.out _ _ HN.out.1 HN.out.2.1 ⟨⟨v, HV.out, HRR.out, trivial⟩, HNB.out, HN.out.2.2, Nat.le_trans HSW.out hb2.size⟩ ⟨W.heap.size, W.heap.size + 1, HSW.out, by have := HSW.out; omega, bX, bY, rfl⟩
  case body =>
    rintro l pre x a' W hl hr ⟨⟨v, hv, hrow, _⟩, hnb, hB⟩ ⟨Bx, By, hBx, hBy, bX, bY, rfl⟩ hlt
    have HSW := Lib.hid hB.2
    have HBB := Lib.hid hB.1
    have HV := Lib.hid hv
    have HR5 := Lib.hid hrow
    have HLT := Lib.hid hlt
    have HNE : Hid ((pre ++ [x]).any badA = badA x) := Lib.hid (by rw [List.any_append, hnb]; simp)
    have HG : Hid ((pre ++ [x]).flatMap stepA = pre.flatMap stepA ++ stepA x) := Lib.hid (gather_next _ _ _)
    have HLEN : Hid ((pre.flatMap stepA).length ≤ 2000) := Lib.hid (by have := gather_len stepA_one pre; omega)
    have HBD : Hid (badA x = (!decide (x.2.t = ⟨#[]⟩) && !decide (x.2.f = whP x.1))) := Lib.hid rfl
    have HSD : Hid (stepA x = if x.2.t = ⟨#[]⟩ then [x.1] else if x.2.g = -1 then [] else [⟨x.2.t, x.2.g⟩]) := Lib.hid rfl
    have q0 := mt_is x.2.t
    have HW : Hid (∀ p : Regrown, Calls Try.prog 27 #[.agg #[.string x.1.t, .int .i64 x.1.n]] (grow (redrawn W p.d) p.os) fun e w' => e = .returned (.int .i64 (whP x.1)) ∧ Below (grow (redrawn W p.d) p.os).heap.size (grow (redrawn W p.d) p.os) w') := Lib.hid (fun p => where_any x.1 _)
    have cl := HV.out.cell
    obtain ⟨x0, x1⟩ := bX
    obtain ⟨y0, y1, y2⟩ := bY
    clear hv hrow hB hlt hr hl hnb
    generalize pre.flatMap stepA = G at *
    generalize whP x.1 = wh at *
    by_cases ht : x.2.t = ⟨#[]⟩
    · rw [decide_eq_true ht] at q0
      have HE : Hid (stepA x = [⟨x.1.t, x.1.n⟩]) := Lib.hid (HSD.out.trans (if_pos ht))
      have HNB : Hid ((pre ++ [x]).any badA = false) := Lib.hid (by rw [HNE.out, HBD.out, decide_eq_true ht]; rfl)
      clear HSD HBD HNE ht HW
      gi_upto_region 9 with (fail)
      refine plain_rnd (by kernel_rfl) (by rintro ⟨_, _, h⟩; exact h) ?_
      have hbf : Below W.heap.size W (W.alloc (.cells #[.string x.1.t, .int .i64 x.1.n] 53)) := (Below.refl _ _).alloc (Nat.le_refl _) _
      have HBf : Hid (Below W.heap.size W (W.alloc (.cells #[.string x.1.t, .int .i64 x.1.n] 53))) := Lib.hid (hbf)
      have HVs : Hid (Us (W.alloc (.cells #[.string x.1.t, .int .i64 x.1.n] 53)) (some ⟨W.heap.size, 0, none⟩) [(⟨x.1.t, x.1.n⟩ : Pu)]) := Lib.hid (Us.one W (⟨x.1.t, x.1.n⟩ : Pu) _)
      have HRf : Hid (OwnU (W.alloc (.cells #[.string x.1.t, .int .i64 x.1.n] 53)) (s + 4) v G) := Lib.hid (own_on HR5.out HBf.out)
      have hsz5 : s + 4 ≤ (W.alloc (.cells #[.string x.1.t, .int .i64 x.1.n] 53)).heap.size := Nat.le_trans HSW.out HBf.out.size
      clear hbf
      go_wp2_with (at_builtin; refine wpList_appendPu rfl _ _ rfl (s + 4) v G rfl HRf.out (some ⟨W.heap.size, 0, none⟩) 1 [(⟨x.1.t, x.1.n⟩ : Pu)] rfl HVs.out (by have := HLEN.out; simp; omega) hsz5 ?_; intro v' w5 ho5 hg5; have HXE : Hid ((pre ++ [x]).flatMap stepA = G ++ [(⟨x.1.t, x.1.n⟩ : Pu)]) := Lib.hid (by rw [HG.out, HE.out]); have hpos : 0 < (G ++ [(⟨x.1.t, x.1.n⟩ : Pu)]).length := (by simp); generalize G ++ [(⟨x.1.t, x.1.n⟩ : Pu)] = G' at *; have hap := round_app (B0 := W0.heap.size) (w3 := w3) HV.out (by decide) HR5.out HSW.out (by omega) HBf.out ho5 hg5 HBB.out; have cc := hap.1.cell; have fr := hap.1.frozen; obtain ⟨g5, cap5, rfl⟩ := ownsRow_pos ho5 hpos; have HAP := Lib.hid hap; clear hap ho5 hg5 hpos HRf HVs HBf hsz5 HLEN)
      exact ⟨HAP.out.2.2.2.1, HAP.out.2.2.2.2.1, ⟨_, HAP.out.2.1, by rw [HXE.out]; exact HAP.out.2.2.1, trivial⟩, HNB.out, HAP.out.2.2.2.2.2, Nat.le_trans HSW.out HAP.out.2.2.2.2.1.size⟩
    · rw [decide_eq_false ht] at q0
      have HBD2 : Hid (badA x = !decide (x.2.f = wh)) := Lib.hid (by rw [HBD.out, decide_eq_false ht]; rfl)
      have HSD2 : Hid (stepA x = if x.2.g = -1 then [] else [⟨x.2.t, x.2.g⟩]) := Lib.hid (HSD.out.trans (if_neg ht))
      have X0 : ∀ p : Regrown, (grow (redrawn W p.d) p.os).cell? ⟨Bx, 0, none⟩ = some (.string x.1.t) := fun p => cell_regrown x0 p.d p.os
      have X1 : ∀ p : Regrown, (grow (redrawn W p.d) p.os).cell? ⟨Bx, 1, none⟩ = some (.int .i64 x.1.n) := fun p => cell_regrown x1 p.d p.os
      have Y1 : ∀ p : Regrown, (grow (redrawn W p.d) p.os).cell? ⟨By, 1, none⟩ = some (.int .i64 x.2.f) := fun p => cell_regrown y1 p.d p.os
      clear HSD HBD ht
      by_cases hf : x.2.f = wh
      · have q1 : (x.2.f == wh) = true := by simpa using hf
        have q1' : (x.2.f != wh) = false := by simpa using hf
        have HNB : Hid ((pre ++ [x]).any badA = false) := Lib.hid (by rw [HNE.out, HBD2.out, decide_eq_true hf]; rfl)
        clear HBD2 HNE hf
        gi_upto_region 10 with (fail)
        refine qr_enter (by kernel_rfl) (by kernel_rfl) (by rintro ⟨_, _, h⟩; exact h) (by kernel_rfl) ?_
        iterate 6 (refine q_step ?_; intro K hK; go_simp; first | (refine hK _ ?_; clear hK K) | (refine ⟨_, fun p => Calls.regrown_of (by with_reducible exact HW.out p), hK _ ?_⟩; clear hK K))
        refine q_nil ?_
        intro wz hbz
        clear X0 X1 Y1 HW
        have HBZ := Lib.hid hbz
        have y0z := (hbz.cell (World.block_lt_of_cell? _ _ y0)).trans y0
        have y2z := (hbz.cell (World.block_lt_of_cell? _ _ y2)).trans y2
        have clz := (hbz.cell (World.block_lt_of_cell? _ _ cl)).trans cl
        clear hbz y0 y1 y2 cl x0 x1
        by_cases hg : x.2.g = -1
        · have q2 : (x.2.g == -1) = true := by simpa using hg
          have HE : Hid (stepA x = []) := Lib.hid (HSD2.out.trans (if_pos hg))
          clear HSD2 hg
          gi_wp2_with fail
          have hN := round_none (B0 := W0.heap.size) (S := s + 4) HBZ.out HSW.out HBB.out (by have := HSW.out; omega)
          exact ⟨hN.1, hN.2.1, ⟨v, box_on HV.out HBZ.out, by rw [HG.out, HE.out, List.append_nil]; exact own_on HR5.out HBZ.out, trivial⟩, HNB.out, hN.2.2, Nat.le_trans HSW.out HBZ.out.size⟩
        · have q2 : (x.2.g == -1) = false := by simpa using hg
          have HE : Hid (stepA x = [⟨x.2.t, x.2.g⟩]) := Lib.hid (HSD2.out.trans (if_neg hg))
          clear HSD2 hg
          gi_upto_region 13 with (fail)
          refine plain_rnd (by kernel_rfl) (by rintro ⟨_, _, h⟩; exact h) ?_
          have hbf : Below wz.heap.size wz (wz.alloc (.cells #[.string x.2.t, .int .i64 x.2.g] 53)) := (Below.refl _ _).alloc (Nat.le_refl _) _
          have HBf : Hid (Below W.heap.size W (wz.alloc (.cells #[.string x.2.t, .int .i64 x.2.g] 53))) := Lib.hid (HBZ.out.trans (hbf.mono HBZ.out.size))
          have HVs : Hid (Us (wz.alloc (.cells #[.string x.2.t, .int .i64 x.2.g] 53)) (some ⟨wz.heap.size, 0, none⟩) [(⟨x.2.t, x.2.g⟩ : Pu)]) := Lib.hid (Us.one wz (⟨x.2.t, x.2.g⟩ : Pu) _)
          have HRf : Hid (OwnU (wz.alloc (.cells #[.string x.2.t, .int .i64 x.2.g] 53)) (s + 4) v G) := Lib.hid (own_on HR5.out HBf.out)
          have hsz5 : s + 4 ≤ (wz.alloc (.cells #[.string x.2.t, .int .i64 x.2.g] 53)).heap.size := Nat.le_trans HSW.out HBf.out.size
          clear hbf
          go_wp2_with (at_builtin; refine wpList_appendPu rfl _ _ rfl (s + 4) v G rfl HRf.out (some ⟨wz.heap.size, 0, none⟩) 1 [(⟨x.2.t, x.2.g⟩ : Pu)] rfl HVs.out (by have := HLEN.out; simp; omega) hsz5 ?_; intro v' w5 ho5 hg5; have HXE : Hid ((pre ++ [x]).flatMap stepA = G ++ [(⟨x.2.t, x.2.g⟩ : Pu)]) := Lib.hid (by rw [HG.out, HE.out]); have hpos : 0 < (G ++ [(⟨x.2.t, x.2.g⟩ : Pu)]).length := (by simp); generalize G ++ [(⟨x.2.t, x.2.g⟩ : Pu)] = G' at *; have hap := round_app (B0 := W0.heap.size) (w3 := w3) HV.out (by decide) HR5.out HSW.out (by omega) HBf.out ho5 hg5 HBB.out; have cc := hap.1.cell; have fr := hap.1.frozen; obtain ⟨g5, cap5, rfl⟩ := ownsRow_pos ho5 hpos; have HAP := Lib.hid hap; clear hap ho5 hg5 hpos HRf HVs HBf hsz5 HLEN)
          exact ⟨HAP.out.2.2.2.1, HAP.out.2.2.2.2.1, ⟨_, HAP.out.2.1, by rw [HXE.out]; exact HAP.out.2.2.1, trivial⟩, HNB.out, HAP.out.2.2.2.2.2, Nat.le_trans HSW.out HAP.out.2.2.2.2.1.size⟩
      · have q1 : (x.2.f == wh) = false := by simpa using hf
        have q1' : (x.2.f != wh) = true := by simpa using hf
        have HNB : Hid ((pre ++ [x]).any badA = true) := Lib.hid (by rw [HNE.out, HBD2.out, decide_eq_false hf]; rfl)
        clear HBD2 HNE hf HSD2
        gi_upto_region 10 with (fail)
        refine qr_enter (by kernel_rfl) (by kernel_rfl) (by rintro ⟨_, _, h⟩; exact h) (by kernel_rfl) ?_
        iterate 6 (refine q_step ?_; intro K hK; go_simp; first | (refine hK _ ?_; clear hK K) | (refine ⟨_, fun p => Calls.regrown_of (by with_reducible exact HW.out p), hK _ ?_⟩; clear hK K))
        refine q_nil ?_
        intro wz hbz
        clear X0 X1 Y1 HW x0 x1 y0 y1 y2 cl
        have HBZ : Hid (Below s w3 wz) := Lib.hid (HBB.out.trans (hbz.mono (by have := HSW.out; omega)))
        have HKZ := Lib.hid (keeps_below hbz)
        have HZ4 : Hid (Boxed wz r 22 (.slice none 0 0)) := Lib.hid ((HBZ.out.block r (by have := HRS.out; omega)).trans HY4.out)
        have HZ5 : Hid (Boxed wz (r + 1) 26 (.int .i64 0)) := Lib.hid ((HBZ.out.block (r + 1) HRS.out).trans HY5.out)
        have c4 := HZ4.out.cell
        have f4 := HZ4.out.frozen
        have c5 := HZ5.out.cell
        have f5 := HZ5.out.frozen
        clear hbz
        gi_wp2_with fail
        refine ⟨(HKZ.out.trans ((KeepsOthers.setCell _ _ _).trans (KeepsOthers.setCell _ _ _))).from _, ⟨rfl, HNB.out⟩, ⟨box_other (HZ4.out.set _) (show r ≠ r + 1 by omega) _, (box_other HZ5.out (show r + 1 ≠ r by omega) _).set _⟩, ?_⟩
        have hbw : Below r w wz := (HR.out ▸ HB3.out : Below r w w3).trans (HBZ.out.mono (by have := HRS.out; omega))
        rw [HR.out]
        exact (hbw.setCell (p := ⟨r, 0, none⟩) (Nat.le_refl _) _).setCell (p := ⟨r + 1, 0, none⟩) (by simp) _
  case done =>
    rintro D ys W hD rfl ⟨⟨v, hv, hrow, _⟩, hnb, hB, hsW⟩ hK
    rw [hR] at hrow
    rw [hnb] at hsta
    obtain rfl := hsta
    have HO : Hid (OwnU W (s + 4) v R) := Lib.hid hrow
    obtain ⟨AR, cR, rfl, hcR, _⟩ := (show OwnU W (s + 4) v R from hrow).lst
    have HK := Lib.hid hK
    have HBB := Lib.hid hB
    have HDD : Hid (s + 4 ≤ D) := Lib.hid (by have := HSZ.out; omega)
    have cc := hv.cell
    have HZ4 : Hid (Boxed W r 22 (.slice none 0 0)) := Lib.hid ((HBB.out.block r (by have := HRS.out; omega)).trans HY4.out)
    have HZ5 : Hid (Boxed W (r + 1) 26 (.int .i64 0)) := Lib.hid ((HBB.out.block (r + 1) HRS.out).trans HY5.out)
    have c4 := HZ4.out.cell
    have f4 := HZ4.out.frozen
    have c5 := HZ5.out.cell
    have f5 := HZ5.out.frozen
    have HFIN : Hid (∀ (u : Value) (e : Int) (xs : List Pu), OwnU W (s + 4) u xs → ((W.setCell ⟨r, 0, none⟩ u).setCell ⟨r + 1, 0, none⟩ (.int .i64 e)).heap[D]? = some (.deferred (some [])) ∧
        (((W.setCell ⟨r, 0, none⟩ u).setCell ⟨r + 1, 0, none⟩ (.int .i64 e)).putObj D (.deferred none)).cell? ⟨r, 0, none⟩ = some u ∧
        (((W.setCell ⟨r, 0, none⟩ u).setCell ⟨r + 1, 0, none⟩ (.int .i64 e)).putObj D (.deferred none)).cell? ⟨r + 1, 0, none⟩ = some (.int .i64 e) ∧
        OwnU (((W.setCell ⟨r, 0, none⟩ u).setCell ⟨r + 1, 0, none⟩ (.int .i64 e)).putObj D (.deferred none)) w.heap.size u xs ∧
        Below w.heap.size w (((W.setCell ⟨r, 0, none⟩ u).setCell ⟨r + 1, 0, none⟩ (.int .i64 e)).putObj D (.deferred none))) := Lib.hid (fun u e xs hown => by
      have hk2 := (((KeepsOthers.setCell W ⟨r, 0, none⟩ u).trans (KeepsOthers.setCell _ ⟨r + 1, 0, none⟩ (.int .i64 e)))).same D _ HK.out rfl
      have b4 := box_other (HZ4.out.set u) (show r ≠ r + 1 by omega) (.int .i64 e)
      have b5 := (box_other HZ5.out (show r + 1 ≠ r by omega) u).set (.int .i64 e)
      have hr1 := HRS.out
      have hrw := HR.out
      refine ⟨hk2, ?_, ?_, ?_, ?_⟩
      · exact cell_kept b4.cell (grownBy_putObj' _ D (.deferred none)) (fun r e => by cases e; exact ⟨_, hk2, rfl⟩)
      · exact cell_kept b5.cell (grownBy_putObj' _ D (.deferred none)) (fun r e => by cases e; exact ⟨_, hk2, rfl⟩)
      · refine OwnU.mono (B := s + 4) (ownsRow_putObj (OwnU.keep (OwnU.keep hown (w' := W.setCell ⟨r, 0, none⟩ u) (fun k hk => Below.heap_setCell _ _ _ k (by have := (hown.ge k hk).1; simp; omega))) (fun k hk => Below.heap_setCell _ _ _ k (by have := (hown.ge k hk).1; simp; omega))) _ hk2 rfl) (by omega)
      · have hbw : Below r w W := (HR.out ▸ HB3.out : Below r w w3).trans (HBB.out.mono (by omega))
        rw [hrw]
        exact ((hbw.setCell (p := ⟨r, 0, none⟩) (Nat.le_refl _) _).setCell (p := ⟨r + 1, 0, none⟩) (by simp) _).trans (belowK_b (w := w) (by omega) _ D _ _ (by have := HDD.out; omega) hk2 rfl rfl))
    have q1 : decide (100 < (R.length : Int)) = big := by rw [← hbig]; exact decide_eq_decide.2 (by omega)
    have q2 : decide (100 < R.length) = big := hbig
    have HF1 := Lib.hid (HFIN.out (.slice AR R.length cR) 0 R HO.out)
    have HF2 := Lib.hid (HFIN.out (.slice none 0 0) 9 [] (OwnU.nil _ _))
    clear hrow hB hv hsW hcR hR hbig hnb HFIN HO
    generalize R.length = nR at *
    rcases big with _ | _
    · gi_wp2
      refine ⟨by simp, .inl ⟨_, _, rfl, run_takeDeferred HF1.out.1, ?_⟩⟩
      have d4 := HF1.out.2.1
      have d5 := HF1.out.2.2.1
      exact ⟨.tuple #[.slice AR nR cR, .int .i64 0], by simp [results, Try.results12, go_sem, asAddr, d4, d5], _, rfl, HF1.out.2.2.2.1, HF1.out.2.2.2.2⟩
    · gi_wp2
      refine ⟨by simp, .inl ⟨_, _, rfl, run_takeDeferred HF2.out.1, ?_⟩⟩
      have d4 := HF2.out.2.1
      have d5 := HF2.out.2.2.1
      exact ⟨.tuple #[.slice none 0 0, .int .i64 9], by simp [results, Try.results12, go_sem, asAddr, d4, d5], _, rfl, HF2.out.2.2.2.1, HF2.out.2.2.2.2⟩
  case stop =>
    rintro D c pre W hD hpre ⟨⟨rfl, hb⟩, ⟨b4, b5⟩, hB⟩ hK
    have hst : sta = true := by
      rw [← hsta]
      obtain ⟨q, hq⟩ := hpre
      rw [← hq, List.any_append, hb, Bool.true_or]
    subst hst
    have HK := Lib.hid hK
    have d4 := cell_kept b4.cell (grownBy_putObj' _ D (.deferred none)) (fun r e => by cases e; exact ⟨_, HK.out, rfl⟩)
    have d5 := cell_kept b5.cell (grownBy_putObj' _ D (.deferred none)) (fun r e => by cases e; exact ⟨_, HK.out, rfl⟩)
    have HBP : Hid (Below w.heap.size w (W.putObj D (.deferred none))) := Lib.hid (hB.trans (belowK_b (w := w) (Nat.le_refl _) W D _ _ (by have := HSZ.out; have := HRS.out; have := HR.out; omega) HK.out rfl rfl))
    clear b4 b5 hB hsta hb hpre hR hbig
    gi_wp2
    refine ⟨by simp, .inl ⟨_, _, rfl, run_takeDeferred HK.out, ?_⟩⟩
    exact ⟨.tuple #[.slice none 0 0, .int .i64 8], by simp [results, Try.results12, go_sem, asAddr, d4, d5], _, rfl, OwnU.nil _ _, HBP.out⟩
end Go.Proofs.Ytdbndkccgpmkbaa
