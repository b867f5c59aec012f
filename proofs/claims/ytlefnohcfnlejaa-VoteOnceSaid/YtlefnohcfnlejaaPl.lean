/-
  The walk of played: all grants of a vote, step by step.
-/
import Derived.Test.YtlefnohcfnlejaaPy
namespace Go.Proofs.Ytlefnohcfnlejaa
open Go.Sort Go.RowKit Go.Proofs.Ytlefnohcfnlejaa.Pure

/-- What lies below all rows is kept where one of them grows. -/
theorem grown_kept {w w' : World} {B k : Nat} {v : Value} {xs : List Int} (ho : Own w B v xs) (hg : w.grownBy w' v.ownBlock) (hk : k < B) (hB : B ≤ w.heap.size) : w'.heap[k]? = w.heap[k]? :=
  hg.block k (by omega) (fun e => by have := (ho.ge k e.symm).1; omega)
theorem grown_keptG {w w' : World} {B k : Nat} {v : Value} {xs : List Gr} (ho : OwnG w B v xs) (hg : w.grownBy w' v.ownBlock) (hk : k < B) (hB : B ≤ w.heap.size) : w'.heap[k]? = w.heap[k]? :=
  hg.block k (by omega) (fun e => by have := (ho.ge k e.symm).1; omega)
set_option maxRecDepth 100000 in
set_option maxHeartbeats 4000000 in
theorem played_any (x : Tm) (A : Option Addr) (cA : Nat) (l : List Rs) (w : World) (hl : RL w A l) (hf : ∀ j, j < l.length → FitR (rs l j)) (hz : ¬ holdF x = 0) (K : Nat) (hK : K = min l.length 60) :
    Calls Try.prog 11 #[.agg #[.int .i64 x.t, .int .i64 x.d, .int .i64 x.r], .slice A l.length cA] w fun e w' => ∃ (vo va : Value), e = .returned (.tuple #[vo, va, .bool true]) ∧ OwnG w' w.heap.size vo (pyF x l K).o ∧ Own w' w.heap.size va (pyF x l K).a ∧ Below w.heap.size w w' := by
  have HNW := Lib.hid (fun W => new_any W)
  have HRS := Lib.hid (fun e t n W => restart_any x e t n W)
  have HAK := Lib.hid (fun v f e n W => ask_any x v f e n W)
  have HLl : Hid (∀ W, Below w.heap.size w W → RL W A l) := Lib.hid (fun W hb => hl.on hb)
  have HPF := Lib.hid (fun k (h1 : k < l.length) (h2 : k < 60) => played_facts (x := x) hz hf h1 h2)
  have HFt := Lib.hid hf
  have HKK := Lib.hid hK
  have HB_0 : Hid (Below w.heap.size w (w.alloc (.cells #[.int .i64 x.t, .int .i64 x.d, .int .i64 x.r] 23))) := Lib.hid ((Below.refl _ _).alloc (Nat.le_refl _) _)
  have HT_0 := Lib.hid (TmA.new w x 23)
  clear hl hf hz hK
  go_enter Try.func11, Try.ntmps11
  go_upto_region 1 with (fail)
  generalize w.alloc (.cells #[.int .i64 x.t, .int .i64 x.d, .int .i64 x.r] 23) = w0 at *
  go_wp2_with fail
  refine (HNW.out _).mono ?_
  rintro e w1 ⟨rfl, hb⟩
  have B_1 := Lib.hid (HB_0.out.trans (hb.mono HB_0.out.size))
  have t_1 := Lib.hid (HT_0.out.on hb)
  clear HB_0 HT_0
  have hb9 := hb.size
  clear hb
  have hgv := t_1.out.lt
  have hbn : Below w1.heap.size w1 (w1.alloc (.cells #[.int .u64 0, .int .i64 (-1), .int .i64 0, .int .i64 0] 38)) := (Below.refl _ _).alloc (Nat.le_refl _) _
  have B_2 := Lib.hid (B_1.out.trans (hbn.mono B_1.out.size))
  have t_2 := Lib.hid (t_1.out.on hbn)
  clear B_1 t_1
  have v_2 : Hid (VtW (w1.alloc (.cells #[.int .u64 0, .int .i64 (-1), .int .i64 0, .int .i64 0] 38)) w1.heap.size newV) := Lib.hid (VtW.new w1 newV _)
  have hbx9 := hbn.size
  clear hbn
  go_upto_region 2 with (fail)
  generalize w1.alloc (.cells #[.int .u64 0, .int .i64 (-1), .int .i64 0, .int .i64 0] 38) = w2 at *
  generalize w1.heap.size = gv at *
  have hlt := v_2.out.lt
  clear HNW
  obtain ⟨B0, hB0⟩ : ∃ B, B = w2.heap.size := ⟨_, rfl⟩
  rw [← hB0] at hlt
  have hzB : B0 ≤ w2.heap.size := Nat.le_of_eq hB0
  have hwB : w.heap.size ≤ B0 := by rw [hB0]; exact B_2.out.size
  clear hB0
  have HG_0 : Hid (OwnG w2 B0 (.slice none 0 0) []) := Lib.hid (OwnG.nil _ _)
  have HN_0 : Hid (Own w2 B0 (.slice none 0 0) []) := Lib.hid (Own.nil _ _)
  go_wp2_with fail
  go_loopw [8, 9, 10, 11] (fun vn vo va vi wr => ∃ k : Nat, vi = .int .i64 (k : Nat) ∧ vn = .int .i64 (pyF x l k).n ∧ k ≤ l.length ∧ k ≤ 60 ∧ B0 ≤ wr.heap.size ∧ Hid ((pyF x l k).o.length ≤ k ∧ (pyF x l k).a.length ≤ k) ∧ Hid (TmA wr w.heap.size x) ∧ Hid (VtW wr gv (pyF x l k).v) ∧ Hid (OwnG wr B0 vo (pyF x l k).o) ∧ Hid (Own wr B0 va (pyF x l k).a) ∧ Hid (Dis vo va) ∧ Hid (Below w.heap.size w wr)) (fun _ _ _ i _ => 60 - (intOf i).toNat)
  case atStart => exact ⟨0, rfl, rfl, Nat.zero_le _, Nat.zero_le _, hzB, Lib.hid (plyP_few _ _ 0), t_2, v_2, HG_0, HN_0, Lib.hid (fun k hk => (by cases hk)), B_2⟩
  case round =>
    obtain ⟨wq, ewq⟩ : ∃ wq, wq = wr := ⟨_, rfl⟩
    subst ewq
    obtain ⟨k, rfl, rfl, hk, hk60, hzq, hfew, hT, hV, hG, hN, hD, hB⟩ := hrel
    clear t_2 v_2 B_2 HG_0 HN_0
    by_cases hin : k < l.length ∧ k < 60
    · obtain ⟨h1, h2⟩ := hin
      have e1 : decide ((k : Int) < (l.length : Int)) = true := decide_eq_true (by omega)
      have e1' : decide (k < l.length) = true := decide_eq_true h1
      have e2 : decide ((k : Int) < 60) = true := decide_eq_true (by omega)
      have e2' : decide (k < 60) = true := decide_eq_true h2
      have k0 : (0 : Int) ≤ (k : Int) := by omega
      have k1 : (k : Int) < (l.length : Int) := by omega
      obtain ⟨ad, rfl, hlo, hat⟩ := (HLl.out _ hB.out) k h1
      have HIT_0 : Hid (RIt wq (ad.add (k * 4)) (rs l k)) := Lib.hid hat.flat
      clear hat hlo
      obtain ⟨⟨n0, n9⟩, ⟨ue0, ue9⟩, hag, has⟩ := HPF.out k h1 h2
      obtain ⟨⟨f0, f9⟩, ⟨g0, g9⟩, ⟨l0, l9⟩⟩ := HFt.out k h1
      have hfew2 := Lib.hid (plyP_few x.t (l.map stp) (k + 1))
      have hfw : (pyF x l k).o.length ≤ 60 ∧ (pyF x l k).a.length ≤ 60 := by have := hfew.out; omega
      have HFW := Lib.hid hfw
      clear hfew hfw HPF HFt HLl HKK
      have hfew3 : Hid ((pyF x l (k + 1)).o.length ≤ k + 1 ∧ (pyF x l (k + 1)).a.length ≤ k + 1) := hfew2
      clear hfew2
      have HAG := Lib.hid hag
      have HAS := Lib.hid has
      clear hag has
      obtain ⟨V, hV2⟩ : ∃ V, V = (pyF x l k).v := ⟨_, rfl⟩
      obtain ⟨N, hN2⟩ : ∃ N, N = (pyF x l k).n := ⟨_, rfl⟩
      obtain ⟨O, hO2⟩ : ∃ O, O = (pyF x l k).o := ⟨_, rfl⟩
      obtain ⟨As, hA2⟩ : ∃ As, As = (pyF x l k).a := ⟨_, rfl⟩
      rw [← hN2, ← hV2, ← hO2, ← hA2] at HAG HAS
      rw [← hV2] at hV ue0 ue9
      rw [← hO2] at hG HFW
      rw [← hA2] at hN HFW
      rw [← hN2] at n0 n9
      simp only [← hN2]
      clear hV2 hO2 hA2 hN2
      obtain ⟨P, hP⟩ : ∃ P, P = pyF x l (k + 1) := ⟨_, rfl⟩
      rw [← hP] at HAG HAS hfew3
      have HPe := Lib.hid hP
      clear hP
      generalize rs l k = r at *
      obtain ⟨N2, hN3⟩ : ∃ N2, N2 = N + r.l % 16 := ⟨_, rfl⟩
      rw [← hN3] at HAG HAS
      have q1 : Int.tmod r.l 16 = r.l % 16 := Int.tmod_eq_emod_of_nonneg l0
      have q2 : Int.tmod r.f 4 = r.f % 4 := Int.tmod_eq_emod_of_nonneg f0
      have q3 : Int.tmod r.e 16 = r.e % 16 := Int.tmod_eq_emod_of_nonneg g0
      obtain ⟨dl, hdl⟩ : ∃ d, d = r.l % 16 := ⟨_, rfl⟩
      obtain ⟨df, hdf⟩ : ∃ d, d = r.f % 4 := ⟨_, rfl⟩
      obtain ⟨de, hde⟩ : ∃ d, d = r.e % 16 := ⟨_, rfl⟩
      rw [← hdl] at q1 hN3
      rw [← hdf] at q2 HAS
      rw [← hde] at q3 HAS
      have b1 : 0 ≤ dl ∧ dl < 16 := by omega
      have b2 : 0 ≤ df ∧ df < 4 := by omega
      have b3 : 0 ≤ de ∧ de < 16 := by omega
      have w1' : IntKind.i64.wrap dl = dl := IntWalk.i64_in _ (by omega)
      have w2' : IntKind.i64.wrap df = df := IntWalk.i64_in _ (by omega)
      have w3' : IntKind.u64.wrap de = de := IntWalk.u64_in _ (by omega)
      have w4' : IntKind.u8.wrap dl = dl := by simp [IntKind.wrap, IntKind.bits, IntKind.signed]; omega
      have w5' : IntKind.u8.wrap df = df := by simp [IntKind.wrap, IntKind.bits, IntKind.signed]; omega
      have w6' : IntKind.u8.wrap de = de := by simp [IntKind.wrap, IntKind.bits, IntKind.signed]; omega
      have p1 : r.l % 16 = dl := hdl.symm
      have p2 : r.f % 4 = df := hdf.symm
      have p3 : r.e % 16 = de := hde.symm
      have w7' : IntKind.i64.wrap (N + dl) = N2 := by rw [hN3]; exact IntWalk.i64_in _ (by omega)
      have n2b : 0 ≤ N2 ∧ N2 ≤ 915 := by omega
      clear hdl hdf hde hN3 f0 f9 g0 g9 l0 l9
      obtain ⟨rf, re, rl, ra⟩ := r
      simp only at HAG HAS q1 q2 q3 p1 p2 p3
      obtain ⟨i0, i1, i2, i3⟩ := HIT_0.out
      simp only at i0 i1 i2 i3
      go_upto_region 9 with (fail)
      clear i0 i1 i2 i3
      have HIT2 : Hid (RIt wq (ad.add (k * 4)) ⟨rf, re, rl, ra⟩) := HIT_0
      clear HIT_0
      obtain ⟨i0, i1, i2, i3⟩ := HIT2.out
      simp only at i0 i1 i2 i3
      rcases ra with _ | _
      · obtain ⟨r1, r2, r3, r5, r6, r7⟩ := HAS.out rfl
        clear HAG HAS
        have HA := Lib.hid (HAK.out V df de N2)
        rw [r1, r2] at HA
        obtain ⟨Bv, hBv⟩ : ∃ b, b = akB x V df de N2 := ⟨_, rfl⟩
        rw [← hBv] at HA r6 r7
        clear r1 r2 HRS HAK hBv
        go_upto_region 16 with (fail)
        clear i0 i1 i2 i3
        have hVA_0 := Lib.hid hV.out.1
        have HGq := Lib.hid (fun j hj => (hG.out.ge j hj).2)
        go_cut [15, 16, 17] from 67 to 82 (fun v0 v1 v2 wx => ∃ gn : Nat, v0 = .pointer (some ⟨gn, 0, none⟩) ∧ v1 = .bool Bv ∧ v2 = .int .i64 0 ∧ wq.heap.size ≤ gn ∧ Hid (VtA wx gn (P.v)) ∧ Hid (Below wq.heap.size wq wx))
        case first =>
          have hd0 : Below wq.heap.size wq wq.drew := (Below.refl _ _).drew
          have HS3 : (fun W => (W.cell? ⟨w.heap.size, 0, none⟩ = some (.int .i64 x.t) ∧ W.cell? ⟨w.heap.size, 1, none⟩ = some (.int .i64 x.d) ∧ W.cell? ⟨w.heap.size, 2, none⟩ = some (.int .i64 x.r)) ∧ (W.cell? ⟨gv, 0, none⟩ = some (.int .u64 V.e) ∧ W.cell? ⟨gv, 1, none⟩ = some (.int .i64 V.t) ∧ W.cell? ⟨gv, 2, none⟩ = some (.int .i64 V.u) ∧ W.cell? ⟨gv, 3, none⟩ = some (.int .i64 V.w)) ∧ (W.cell? (ad.add (k * 4)) = some (.int .u8 rf) ∧ W.cell? ⟨(ad.add (k * 4)).block, (ad.add (k * 4)).off + 1, none⟩ = some (.int .u8 re) ∧ W.cell? ⟨(ad.add (k * 4)).block, (ad.add (k * 4)).off + 2, none⟩ = some (.int .u8 rl) ∧ W.cell? ⟨(ad.add (k * 4)).block, (ad.add (k * 4)).off + 3, none⟩ = some (.bool false))) wq.drew := ⟨(hT.out.on hd0), (hVA_0.out.on hd0), (HIT2.out.on hd0)⟩
          have HSf : Hid (∀ W, Below wq.drew.heap.size wq.drew W → (fun W => (W.cell? ⟨w.heap.size, 0, none⟩ = some (.int .i64 x.t) ∧ W.cell? ⟨w.heap.size, 1, none⟩ = some (.int .i64 x.d) ∧ W.cell? ⟨w.heap.size, 2, none⟩ = some (.int .i64 x.r)) ∧ (W.cell? ⟨gv, 0, none⟩ = some (.int .u64 V.e) ∧ W.cell? ⟨gv, 1, none⟩ = some (.int .i64 V.t) ∧ W.cell? ⟨gv, 2, none⟩ = some (.int .i64 V.u) ∧ W.cell? ⟨gv, 3, none⟩ = some (.int .i64 V.w)) ∧ (W.cell? (ad.add (k * 4)) = some (.int .u8 rf) ∧ W.cell? ⟨(ad.add (k * 4)).block, (ad.add (k * 4)).off + 1, none⟩ = some (.int .u8 re) ∧ W.cell? ⟨(ad.add (k * 4)).block, (ad.add (k * 4)).off + 2, none⟩ = some (.int .u8 rl) ∧ W.cell? ⟨(ad.add (k * 4)).block, (ad.add (k * 4)).off + 3, none⟩ = some (.bool false))) W) := Lib.hid (fun W hb => ⟨((hT.out.on hd0).on hb), ((hVA_0.out.on hd0).on hb), ((HIT2.out.on hd0).on hb)⟩)
          have HBf : Hid (∀ W, Below wq.drew.heap.size wq.drew W → Hid (Below wq.heap.size wq W)) := Lib.hid (fun W hb => Lib.hid (hd0.trans (hb.mono hd0.size)))
          clear hd0
          have hsz : wq.heap.size = wq.drew.heap.size := rfl
          refine p3_enter (.take 0 (.take 1 (.take 2 (.take 3 (.take 4 (.take 5 (.take 6 (.take 7 (.take 8 (.take 9 (.take 10 (.two 11 (.take 12 (.take 13 (.take 14 (.take 15 (.one 16 (.one 17 (.take 18 (.take 19 (.done))))))))) 16 (.one 11 (.take 12 (.take 13 (.take 14 (.take 15 (.one 17 (.take 18 (.take 19 (.done))))))))))))))))))))) (fun W => (W.cell? ⟨w.heap.size, 0, none⟩ = some (.int .i64 x.t) ∧ W.cell? ⟨w.heap.size, 1, none⟩ = some (.int .i64 x.d) ∧ W.cell? ⟨w.heap.size, 2, none⟩ = some (.int .i64 x.r)) ∧ (W.cell? ⟨gv, 0, none⟩ = some (.int .u64 V.e) ∧ W.cell? ⟨gv, 1, none⟩ = some (.int .i64 V.t) ∧ W.cell? ⟨gv, 2, none⟩ = some (.int .i64 V.u) ∧ W.cell? ⟨gv, 3, none⟩ = some (.int .i64 V.w)) ∧ (W.cell? (ad.add (k * 4)) = some (.int .u8 rf) ∧ W.cell? ⟨(ad.add (k * 4)).block, (ad.add (k * 4)).off + 1, none⟩ = some (.int .u8 re) ∧ W.cell? ⟨(ad.add (k * 4)).block, (ad.add (k * 4)).off + 2, none⟩ = some (.int .u8 rl) ∧ W.cell? ⟨(ad.add (k * 4)).block, (ad.add (k * 4)).off + 3, none⟩ = some (.bool false))) (by kernel_rfl) (by kernel_rfl) (by kernel_rfl) (fun _ _ d _ _ h => by cases d <;> exact h) HS3 ?_
          simp only [pick3, opAt, List.drop_succ_cons, List.drop_zero]
          generalize hwe : wq.drew = we at *
          clear hwe
          obtain ⟨B0, hB0⟩ : ∃ B, B = we.heap.size := ⟨_, rfl⟩
          rw [← hB0] at HSf HBf hsz
          have HSZ := Lib.hid hsz
          clear hsz
          have hB_0 : Hid (Below B0 we we) := Lib.hid (Below.refl _ _)
          have hz_0 : B0 ≤ we.heap.size := Nat.le_of_eq hB0
          clear hB0 HS3
          iterate 11 (first | (refine' p3_yes ?_ (by rfl) ?_ ?_; rotate_left; (intro w' hS; (try dsimp only at hS); go_simp; try (with_reducible rfl)); simp only [Act.put, List.setIfInBounds_toArray, List.set_cons_zero, List.set_cons_succ]) | (refine p3_no (by rfl) ?_; simp only [Act.put, List.setIfInBounds_toArray, List.set_cons_zero, List.set_cons_succ]))
          refine p3_two ?_ ?_
          · intro KK hK
            go_simp
            refine (HA.out _).mono ?_
            rintro e wc1 ⟨rfl, hbx⟩
            have hB_1 := Lib.hid (hB_0.out.trans (hbx.mono hz_0))
            have hz_1 : B0 ≤ wc1.heap.size := Nat.le_trans hz_0 hbx.size
            clear hbx hB_0
            refine hK.out _ _ (HSf.out _ hB_1.out) ?_
            clear hK
            try simp only [Act.put, List.setIfInBounds_toArray, List.set_cons_zero, List.set_cons_succ]
            iterate 4 (first | (refine' p3_yes ?_ (by rfl) ?_ ?_; rotate_left; (intro w' hS; (try dsimp only at hS); go_simp; try (with_reducible rfl)); simp only [Act.put, List.setIfInBounds_toArray, List.set_cons_zero, List.set_cons_succ]) | (refine p3_no (by rfl) ?_; simp only [Act.put, List.setIfInBounds_toArray, List.set_cons_zero, List.set_cons_succ]))
            refine p3_one ?_
            intro KK hK
            go_simp
            have hbx : Below wc1.heap.size wc1 (wc1.alloc (.cells #[.int .u64 0, .int .i64 0, .int .i64 0, .int .i64 0] 38)) := (Below.refl _ _).alloc (Nat.le_refl _) _
            have hB_2 := Lib.hid (hB_1.out.trans (hbx.mono hz_1))
            have hz_2 : B0 ≤ (wc1.alloc (.cells #[.int .u64 0, .int .i64 0, .int .i64 0, .int .i64 0] 38)).heap.size := Nat.le_trans hz_1 hbx.size
            have hp_2 : Hid (VtW (wc1.alloc (.cells #[.int .u64 0, .int .i64 0, .int .i64 0, .int .i64 0] 38)) wc1.heap.size ⟨0, 0, 0, 0⟩) := Lib.hid (VtW.new wc1 ⟨0, 0, 0, 0⟩ _)
            clear hbx hB_1
            obtain ⟨wc2, ewc2⟩ : ∃ x, x = wc1.alloc (.cells #[.int .u64 0, .int .i64 0, .int .i64 0, .int .i64 0] 38) := ⟨_, rfl⟩
            rw [← ewc2] at hB_2 hz_2 hp_2 ⊢
            clear ewc2
            have hg : B0 ≤ wc1.heap.size := hz_1
            generalize wc1.heap.size = gn at *
            refine hK.out _ _ (HSf.out _ hB_2.out) ?_
            clear hK
            try simp only [Act.put, List.setIfInBounds_toArray, List.set_cons_zero, List.set_cons_succ]
            refine p3_one ?_
            intro KK hK
            obtain ⟨⟨x0, x1, x2, x3⟩, xf⟩ := hp_2.out
            try simp only at x0 x1 x2 x3
            go_simp
            have hB_s := Lib.hid (below_set4 hB_2.out hg (.int .u64 P.v.e) (.int .i64 P.v.t) (.int .i64 P.v.u) (.int .i64 P.v.w))
            have hp_s := Lib.hid (hp_2.out.set (P.v))
            clear x0 x1 x2 x3 xf hp_2 hB_2
            refine hK.out _ _ (HSf.out _ hB_s.out) ?_
            clear hK
            try simp only [Act.put, List.setIfInBounds_toArray, List.set_cons_zero, List.set_cons_succ]
            iterate 2 (first | (refine' p3_yes ?_ (by rfl) ?_ ?_; rotate_left; (intro w' hS; (try dsimp only at hS); go_simp; try (with_reducible rfl)); simp only [Act.put, List.setIfInBounds_toArray, List.set_cons_zero, List.set_cons_succ]) | (refine p3_no (by rfl) ?_; simp only [Act.put, List.setIfInBounds_toArray, List.set_cons_zero, List.set_cons_succ]))
            refine p3_done ?_
            go_wp2_with fail
            first | exact ⟨gn, rfl, rfl, rfl, Nat.le_trans (Nat.le_of_eq HSZ.out) hg, Lib.hid hp_s.out.1, HBf.out _ hB_s.out⟩ | (go_meet; exact ⟨gn, rfl, rfl, rfl, Nat.le_trans (Nat.le_of_eq HSZ.out) hg, Lib.hid hp_s.out.1, HBf.out _ hB_s.out⟩)
          · intro KK hK
            go_simp
            have hbx : Below we.heap.size we (we.alloc (.cells #[.int .u64 0, .int .i64 0, .int .i64 0, .int .i64 0] 38)) := (Below.refl _ _).alloc (Nat.le_refl _) _
            have hB_1 := Lib.hid (hB_0.out.trans (hbx.mono hz_0))
            have hz_1 : B0 ≤ (we.alloc (.cells #[.int .u64 0, .int .i64 0, .int .i64 0, .int .i64 0] 38)).heap.size := Nat.le_trans hz_0 hbx.size
            have hp_1 : Hid (VtW (we.alloc (.cells #[.int .u64 0, .int .i64 0, .int .i64 0, .int .i64 0] 38)) we.heap.size ⟨0, 0, 0, 0⟩) := Lib.hid (VtW.new we ⟨0, 0, 0, 0⟩ _)
            clear hbx hB_0
            obtain ⟨wc1, ewc1⟩ : ∃ x, x = we.alloc (.cells #[.int .u64 0, .int .i64 0, .int .i64 0, .int .i64 0] 38) := ⟨_, rfl⟩
            rw [← ewc1] at hB_1 hz_1 hp_1 ⊢
            clear ewc1
            have hg : B0 ≤ we.heap.size := hz_0
            generalize we.heap.size = gn at *
            refine hK.out _ _ (HSf.out _ hB_1.out) ?_
            clear hK
            try simp only [Act.put, List.setIfInBounds_toArray, List.set_cons_zero, List.set_cons_succ]
            refine p3_one ?_
            intro KK hK
            go_simp
            refine (HA.out _).mono ?_
            rintro e wc2 ⟨rfl, hbx⟩
            have hB_2 := Lib.hid (hB_1.out.trans (hbx.mono hz_1))
            have hz_2 : B0 ≤ wc2.heap.size := Nat.le_trans hz_1 hbx.size
            have hp_2 := Lib.hid (hp_1.out.on hbx)
            clear hbx hB_1 hp_1
            refine hK.out _ _ (HSf.out _ hB_2.out) ?_
            clear hK
            try simp only [Act.put, List.setIfInBounds_toArray, List.set_cons_zero, List.set_cons_succ]
            iterate 4 (first | (refine' p3_yes ?_ (by rfl) ?_ ?_; rotate_left; (intro w' hS; (try dsimp only at hS); go_simp; try (with_reducible rfl)); simp only [Act.put, List.setIfInBounds_toArray, List.set_cons_zero, List.set_cons_succ]) | (refine p3_no (by rfl) ?_; simp only [Act.put, List.setIfInBounds_toArray, List.set_cons_zero, List.set_cons_succ]))
            refine p3_one ?_
            intro KK hK
            obtain ⟨⟨x0, x1, x2, x3⟩, xf⟩ := hp_2.out
            try simp only at x0 x1 x2 x3
            go_simp
            have hB_s := Lib.hid (below_set4 hB_2.out hg (.int .u64 P.v.e) (.int .i64 P.v.t) (.int .i64 P.v.u) (.int .i64 P.v.w))
            have hp_s := Lib.hid (hp_2.out.set (P.v))
            clear x0 x1 x2 x3 xf hp_2 hB_2
            refine hK.out _ _ (HSf.out _ hB_s.out) ?_
            clear hK
            try simp only [Act.put, List.setIfInBounds_toArray, List.set_cons_zero, List.set_cons_succ]
            iterate 2 (first | (refine' p3_yes ?_ (by rfl) ?_ ?_; rotate_left; (intro w' hS; (try dsimp only at hS); go_simp; try (with_reducible rfl)); simp only [Act.put, List.setIfInBounds_toArray, List.set_cons_zero, List.set_cons_succ]) | (refine p3_no (by rfl) ?_; simp only [Act.put, List.setIfInBounds_toArray, List.set_cons_zero, List.set_cons_succ]))
            refine p3_done ?_
            go_wp2_with fail
            first | exact ⟨gn, rfl, rfl, rfl, Nat.le_trans (Nat.le_of_eq HSZ.out) hg, Lib.hid hp_s.out.1, HBf.out _ hB_s.out⟩ | (go_meet; exact ⟨gn, rfl, rfl, rfl, Nat.le_trans (Nat.le_of_eq HSZ.out) hg, Lib.hid hp_s.out.1, HBf.out _ hB_s.out⟩)
        case rest =>
          obtain ⟨w3, ew3⟩ : ∃ x, x = wc := ⟨_, rfl⟩
          subst ew3
          obtain ⟨gp, rfl, rfl, rfl, hgn, hn, hb⟩ := hcut
          have B_3 := Lib.hid (hB.out.trans (hb.out.mono hB.out.size))
          have t_3 := Lib.hid (hT.out.on hb.out)
          have v_3 := Lib.hid (hV.out.on hb.out)
          have G_3 := Lib.hid (hG.out.on hb.out)
          have N_3 := Lib.hid (hN.out.on hb.out)
          have item_3 := Lib.hid (HIT2.out.on hb.out)
          have va_3 := Lib.hid (hVA_0.out.on hb.out)
          clear hB hT hV hG hN HIT2 hVA_0
          have hb9 := hb.out.size
          clear hb
          have Hp_n := hn
          clear hn
          have hz9 : B0 ≤ w3.heap.size := Nat.le_trans hzq hb9
          clear va_3 item_3 HA
          rcases Bv with _ | _
          · obtain ⟨r4, r8⟩ := r7 rfl
            clear r6 r7
            have hPv : Hid (VtA w3 gp V) := Lib.hid (by rw [← r8]; exact Hp_n.out)
            clear Hp_n
            obtain ⟨p0, p1, p2, p3⟩ := hPv.out
            try simp only at p0 p1 p2 p3
            obtain ⟨⟨v0, v1, v2, v3⟩, vf⟩ := v_3.out
            try simp only at v0 v1 v2 v3
            go_wp2_with fail
            have hVs := Lib.hid (v_3.out.set V)
            have hTs := Lib.hid (t_3.out.heap (set_heap (g := gv) (k := w.heap.size) (by omega) (.int .u64 V.e) (.int .i64 V.t) (.int .i64 V.u) (.int .i64 V.w)))
            have hGs := Lib.hid (G_3.out.keep (fun j hj => set_heap (g := gv) (k := j) (by have := (G_3.out.ge j hj).1; omega) (.int .u64 V.e) (.int .i64 V.t) (.int .i64 V.u) (.int .i64 V.w)))
            have hNs := Lib.hid (N_3.out.keepB (fun j hj => set_heap (g := gv) (k := j) (by have := (N_3.out.ge j hj).1; omega) (.int .u64 V.e) (.int .i64 V.t) (.int .i64 V.u) (.int .i64 V.w)))
            have hBs := Lib.hid (below_set4 B_3.out (g := gv) (by omega) (.int .u64 V.e) (.int .i64 V.t) (.int .i64 V.u) (.int .i64 V.w))
            clear v0 v1 v2 v3 vf
            clear p0 p1 p2 p3
            have hzs : B0 ≤ ((((w3.setCell ⟨gv, 0, none⟩ (.int .u64 V.e)).setCell ⟨gv, 1, none⟩ (.int .i64 V.t)).setCell ⟨gv, 2, none⟩ (.int .i64 V.u)).setCell ⟨gv, 3, none⟩ (.int .i64 V.w)).heap.size := by simpa using hz9
            clear hz9 v_3 t_3 G_3 N_3 B_3 hPv
            generalize (((w3.setCell ⟨gv, 0, none⟩ (.int .u64 V.e)).setCell ⟨gv, 1, none⟩ (.int .i64 V.t)).setCell ⟨gv, 2, none⟩ (.int .i64 V.u)).setCell ⟨gv, 3, none⟩ (.int .i64 V.w) = ws at *
            go_roundw
            case rel =>
              refine ⟨k + 1, rfl, ?_⟩
              rw [← HPe.out, r3, r4, r5, r8]
              exact ⟨rfl, by omega, by omega, hzs, Lib.hid (by rw [← r4, ← r5]; exact hfew3.out), hTs, hVs, hGs, hNs, hD, hBs⟩
            case measure => simp [intOf]; omega
          · have r4 := r6 rfl
            clear r6 r7
            obtain ⟨p0, p1, p2, p3⟩ := Hp_n.out
            try simp only at p0 p1 p2 p3
            obtain ⟨⟨v0, v1, v2, v3⟩, vf⟩ := v_3.out
            try simp only at v0 v1 v2 v3
            go_upto_region 20 with (fail)
            go_upto_region 21 with (at_builtin; refine wpList_appendG rfl _ _ rfl B0 u9 O rfl (G_3.out.alloc _) (some ⟨w3.heap.size, 0, none⟩) 1 [⟨P.v.e, P.v.t, N2⟩] rfl (Gs.one w3 ⟨P.v.e, P.v.t, N2⟩ _) (by have := HFW.out; simp; omega) (by simp; omega) ?_; intro v' w5 ho5 hg5 hor5; have HO5 := Lib.hid ho5; have HG5 := Lib.hid hg5; have HR5 := Lib.hid hor5; clear ho5 hg5 hor5)
            clear v0 v1 v2 v3 vf
            clear p0 p1 p2 p3
            have hz5 : B0 ≤ w5.heap.size := Nat.le_trans hz9 (Nat.le_trans (by simp) HG5.out.size)
            have HNa := Lib.hid (G_3.out.alloc (.cells #[.int .u64 P.v.e, .int .i64 P.v.t, .int .i64 N2] 33))
            have hkp : Hid (∀ j, j < B0 → w5.heap[j]? = w3.heap[j]?) := Lib.hid (fun j hj => (grown_keptG (k := j) HNa.out HG5.out hj (by simp; omega)).trans (Go.RowKit.Below.heap_alloc w3 (.cells #[.int .u64 P.v.e, .int .i64 P.v.t, .int .i64 N2] 33) j (by omega)))
            have hkq : w5.heap[gp]? = w3.heap[gp]? := (HG5.out.block gp (by have := Hp_n.out.lt; simp; omega) (fun e => by have := HGq.out gp e.symm; omega)).trans (Go.RowKit.Below.heap_alloc w3 (.cells #[.int .u64 P.v.e, .int .i64 P.v.t, .int .i64 N2] 33) gp Hp_n.out.lt)
            have hT5 := Lib.hid (t_3.out.heap (hkp.out _ (by omega)))
            have hV5 := Lib.hid (v_3.out.heap (hkp.out _ (by omega)))
            have hP5 := Lib.hid (Hp_n.out.heap hkq)
            have hN5 := Lib.hid ((N_3.out.alloc (.cells #[.int .u64 P.v.e, .int .i64 P.v.t, .int .i64 N2] 33)).grown HG5.out (fun k hk e => hD.out k e hk))
            have hD5 : Hid (Dis v' u10) := Lib.hid (dis_after (N_3.out.alloc (.cells #[.int .u64 P.v.e, .int .i64 P.v.t, .int .i64 N2] 33)) hD.out.symm HR5.out).symm
            have hB5 := Lib.hid ((B_3.out.alloc (Nat.le_trans hwB hz9) (.cells #[.int .u64 P.v.e, .int .i64 P.v.t, .int .i64 N2] 33)).grown HG5.out (by simp; omega) (fun k hk => Nat.le_trans hwB (HNa.out.ge k hk).1))
            have hz9 := hz5
            clear t_3 v_3 Hp_n G_3 N_3 B_3 hkp hkq HNa HG5 HR5 hD
            obtain ⟨p0, p1, p2, p3⟩ := hP5.out
            try simp only at p0 p1 p2 p3
            obtain ⟨⟨v0, v1, v2, v3⟩, vf⟩ := hV5.out
            try simp only at v0 v1 v2 v3
            go_wp2_with fail
            have hVs := Lib.hid (hV5.out.set P.v)
            have hTs := Lib.hid (hT5.out.heap (set_heap (g := gv) (k := w.heap.size) (by omega) (.int .u64 P.v.e) (.int .i64 P.v.t) (.int .i64 P.v.u) (.int .i64 P.v.w)))
            have hGs := Lib.hid (HO5.out.keep (fun j hj => set_heap (g := gv) (k := j) (by have := (HO5.out.ge j hj).1; omega) (.int .u64 P.v.e) (.int .i64 P.v.t) (.int .i64 P.v.u) (.int .i64 P.v.w)))
            have hNs := Lib.hid (hN5.out.keepB (fun j hj => set_heap (g := gv) (k := j) (by have := (hN5.out.ge j hj).1; omega) (.int .u64 P.v.e) (.int .i64 P.v.t) (.int .i64 P.v.u) (.int .i64 P.v.w)))
            have hBs := Lib.hid (below_set4 hB5.out (g := gv) (by omega) (.int .u64 P.v.e) (.int .i64 P.v.t) (.int .i64 P.v.u) (.int .i64 P.v.w))
            clear v0 v1 v2 v3 vf
            clear p0 p1 p2 p3
            have hzs : B0 ≤ ((((w5.setCell ⟨gv, 0, none⟩ (.int .u64 P.v.e)).setCell ⟨gv, 1, none⟩ (.int .i64 P.v.t)).setCell ⟨gv, 2, none⟩ (.int .i64 P.v.u)).setCell ⟨gv, 3, none⟩ (.int .i64 P.v.w)).heap.size := by simpa using hz9
            clear hz9 hV5 hT5 HO5 hN5 hB5 hP5
            generalize (((w5.setCell ⟨gv, 0, none⟩ (.int .u64 P.v.e)).setCell ⟨gv, 1, none⟩ (.int .i64 P.v.t)).setCell ⟨gv, 2, none⟩ (.int .i64 P.v.u)).setCell ⟨gv, 3, none⟩ (.int .i64 P.v.w) = ws at *
            go_roundw
            case rel =>
              refine ⟨k + 1, rfl, ?_⟩
              rw [← HPe.out, r3, r4, r5]
              exact ⟨rfl, by omega, by omega, hzs, Lib.hid (by rw [← r4, ← r5]; exact hfew3.out), hTs, hVs, hGs, hNs, hD5, hBs⟩
            case measure => simp [intOf]; omega
      · obtain ⟨r1, r2, r3, r4, r5⟩ := HAG.out rfl
        clear HAG HAS
        have HR := Lib.hid (HRS.out V.e V.t N2)
        rw [r1, r2] at HR
        clear r1 r2 HRS HAK
        obtain ⟨t0, t1, t2⟩ := hT.out
        try simp only at t0 t1 t2
        obtain ⟨⟨v0, v1, v2, v3⟩, vf⟩ := hV.out
        try simp only at v0 v1 v2 v3
        go_wp2_with fail
        refine (HR.out _).mono ?_
        rintro e w3 ⟨rfl, hb⟩
        clear t0 t1 t2
        clear v0 v1 v2 v3 vf
        have B_3 := Lib.hid (hB.out.trans (hb.mono hB.out.size))
        have t_3 := Lib.hid (hT.out.on hb)
        have v_3 := Lib.hid (hV.out.on hb)
        have G_3 := Lib.hid (hG.out.on hb)
        have N_3 := Lib.hid (hN.out.on hb)
        have item_3 := Lib.hid (HIT2.out.on hb)
        clear hB hT hV hG hN HIT2
        have hb9 := hb.size
        clear hb
        clear i0 i1 i2 i3 item_3
        have hz9 : B0 ≤ w3.heap.size := Nat.le_trans hzq hb9
        have hbn : Below w3.heap.size w3 (w3.alloc (.cells #[.int .u64 P.v.e, .int .i64 P.v.t, .int .i64 P.v.u, .int .i64 P.v.w] 38)) := (Below.refl _ _).alloc (Nat.le_refl _) _
        have B_4 := Lib.hid (B_3.out.trans (hbn.mono B_3.out.size))
        have t_4 := Lib.hid (t_3.out.on hbn)
        have v_4 := Lib.hid (v_3.out.on hbn)
        have G_4 := Lib.hid (G_3.out.on hbn)
        have N_4 := Lib.hid (N_3.out.on hbn)
        clear B_3 t_3 v_3 G_3 N_3
        have r_4 : Hid (VtA (w3.alloc (.cells #[.int .u64 P.v.e, .int .i64 P.v.t, .int .i64 P.v.u, .int .i64 P.v.w] 38)) w3.heap.size P.v) := Lib.hid (VtA.new w3 P.v _)
        have hbx9 := hbn.size
        clear hbn
        go_upto_region 11 with (fail)
        generalize w3.alloc (.cells #[.int .u64 P.v.e, .int .i64 P.v.t, .int .i64 P.v.u, .int .i64 P.v.w] 38) = w4 at *
        generalize w3.heap.size = gr at *
        have hz9 : B0 ≤ w4.heap.size := Nat.le_trans hz9 hbx9
        obtain ⟨r0, r1, r2, r3⟩ := r_4.out
        try simp only at r0 r1 r2 r3
        obtain ⟨⟨v0, v1, v2, v3⟩, vf⟩ := v_4.out
        try simp only at v0 v1 v2 v3
        go_upto_region 14 with (fail)
        have hVs := Lib.hid (v_4.out.set P.v)
        have hTs := Lib.hid (t_4.out.heap (set_heap (g := gv) (k := w.heap.size) (by omega) (.int .u64 P.v.e) (.int .i64 P.v.t) (.int .i64 P.v.u) (.int .i64 P.v.w)))
        have hGs := Lib.hid (G_4.out.keep (fun j hj => set_heap (g := gv) (k := j) (by have := (G_4.out.ge j hj).1; omega) (.int .u64 P.v.e) (.int .i64 P.v.t) (.int .i64 P.v.u) (.int .i64 P.v.w)))
        have hNs := Lib.hid (N_4.out.keepB (fun j hj => set_heap (g := gv) (k := j) (by have := (N_4.out.ge j hj).1; omega) (.int .u64 P.v.e) (.int .i64 P.v.t) (.int .i64 P.v.u) (.int .i64 P.v.w)))
        have hBs := Lib.hid (below_set4 B_4.out (g := gv) (by omega) (.int .u64 P.v.e) (.int .i64 P.v.t) (.int .i64 P.v.u) (.int .i64 P.v.w))
        clear v0 v1 v2 v3 vf
        clear r0 r1 r2 r3
        have hzs : B0 ≤ ((((w4.setCell ⟨gv, 0, none⟩ (.int .u64 P.v.e)).setCell ⟨gv, 1, none⟩ (.int .i64 P.v.t)).setCell ⟨gv, 2, none⟩ (.int .i64 P.v.u)).setCell ⟨gv, 3, none⟩ (.int .i64 P.v.w)).heap.size := by simpa using hz9
        clear hz9 v_4 t_4 G_4 N_4 B_4 r_4
        generalize (((w4.setCell ⟨gv, 0, none⟩ (.int .u64 P.v.e)).setCell ⟨gv, 1, none⟩ (.int .i64 P.v.t)).setCell ⟨gv, 2, none⟩ (.int .i64 P.v.u)).setCell ⟨gv, 3, none⟩ (.int .i64 P.v.w) = ws at *
        go_wp2_with (at_builtin; refine append_one rfl _ _ rfl B0 u10 As rfl (hNs.out.alloc _) ws.heap.size N2 rfl (by go_simp) (by have := HFW.out; omega) (by simp; omega) ?_; intro v' w5 ho5 hg5 hor5; have HO5 := Lib.hid ho5; have HG5 := Lib.hid hg5; have HR5 := Lib.hid hor5; clear ho5 hg5 hor5)
        go_roundw
        case rel =>
          have hz5 : B0 ≤ w5.heap.size := Nat.le_trans hzs (Nat.le_trans (by simp) HG5.out.size)
          have HNa := Lib.hid (hNs.out.alloc (.cells #[.int .i64 N2] 2))
          have hkp := fun j hj => (grown_kept (k := j) HNa.out HG5.out hj (by simp; omega)).trans (Go.RowKit.Below.heap_alloc ws (.cells #[.int .i64 N2] 2) j (by omega))
          refine ⟨k + 1, rfl, ?_⟩
          rw [← HPe.out, r3, r4, r5]
          exact ⟨rfl, by omega, by omega, hz5, Lib.hid (by rw [← r4, ← r5]; exact hfew3.out), Lib.hid (hTs.out.heap (hkp _ (by omega))), Lib.hid (hVs.out.heap (hkp _ (by omega))), Lib.hid ((hGs.out.alloc _).grown HG5.out (fun k hk e => hD.out k hk e)), HO5, Lib.hid (dis_afterG (hGs.out.alloc _) hD.out HR5.out), Lib.hid (below_grownO (hBs.out.alloc (Nat.le_trans hwB hzs) _) HNa.out HG5.out (by simp; omega) hwB)⟩
        case measure => simp [intOf]; omega
    · have hkK : K = k := by have := HKK.out; omega
      have HkK := Lib.hid hkK
      clear hkK HKK HLl HPF HFt HRS HAK
      by_cases h1 : k < l.length
      · have e1 : decide ((k : Int) < (l.length : Int)) = true := decide_eq_true (by omega)
        have e1' : decide (k < l.length) = true := decide_eq_true h1
        have e2 : decide ((k : Int) < 60) = false := decide_eq_false (by omega)
        have e2' : decide (k < 60) = false := decide_eq_false (by omega)
        go_wp2_with fail
        go_ret3
        rw [HkK.out]
        exact ⟨_, _, rfl, hG.out.mono hwB, hN.out.mono hwB, hB.out⟩
      · have e1 : decide ((k : Int) < (l.length : Int)) = false := decide_eq_false (by omega)
        have e1' : decide (k < l.length) = false := decide_eq_false h1
        go_wp2_with fail
        go_ret3
        rw [HkK.out]
        exact ⟨_, _, rfl, hG.out.mono hwB, hN.out.mono hwB, hB.out⟩
end Go.Proofs.Ytlefnohcfnlejaa
