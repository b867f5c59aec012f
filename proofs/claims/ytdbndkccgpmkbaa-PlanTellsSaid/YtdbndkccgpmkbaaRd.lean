/-
  The document's Diff and Apply.
-/
import Derived.Test.YtdbndkccgpmkbaaNm
namespace Go.Proofs.Ytdbndkccgpmkbaa
open Go.Sort Go.RowKit Go.Proofs.Ytdbndkccgpmkbaa.Pure

set_option maxRecDepth 10000000 in
set_option maxHeartbeats 8000000 in
theorem rdiff_any (A B : Option Addr) (ca cb : Nat) (a b : List Pu) (w : World) (ha : a.length ≤ 300) (hb' : b.length ≤ 300) (hA : Us w A a) (hB : Us w B b) :
    Calls Try.prog 17 #[.slice A a.length ca, .slice B b.length cb] w fun e w' => ∃ v, e = .returned v ∧ OwnV w' w.heap.size v (difP a b) ∧ Below w.heap.size w w' := by
  have HN := Lib.hid (names_any A B none ca cb 0 a b [] w ha hb' (by decide) hA hB (Vs.nil _ _) (a.map Pu.t ++ b.map Pu.t) (by simp))
  have HA := Lib.hid hA
  have HB := Lib.hid hB
  have HTA := Lib.hid (fun (t : ByteArray) (W : World) (h : Us W A a) => at_any A ca a t W (by omega) h _ rfl)
  have HTB := Lib.hid (fun (t : ByteArray) (W : World) (h : Us W B b) => at_any B cb b t W (by omega) h _ rfl)
  have hL : (uniK (a.map Pu.t ++ b.map Pu.t)).length ≤ 1000 := by
    have := (riseK_nodup (uniK_rise (a.map Pu.t ++ b.map Pu.t))).length_le_of_subset (l₂ := a.map Pu.t ++ b.map Pu.t) (fun t ht => (uniK_mem t _).1 ht)
    simp at this
    omega
  have HD : Hid ((uniK (a.map Pu.t ++ b.map Pu.t)).filterMap (difF a b) = difP a b) := Lib.hid rfl
  have HS := Lib.hid (fun (i : Nat) (h : i < (uniK (a.map Pu.t ++ b.map Pu.t)).length) => difP_at a b (uniK (a.map Pu.t ++ b.map Pu.t)) h)
  have HLF : Hid (∀ k, (((uniK (a.map Pu.t ++ b.map Pu.t)).take k).filterMap (difF a b)).length ≤ 1000) := Lib.hid (fun k => by
    have h1 := List.length_filterMap_le (difF a b) ((uniK (a.map Pu.t ++ b.map Pu.t)).take k)
    rw [List.length_take] at h1
    omega)
  generalize uniK (a.map Pu.t ++ b.map Pu.t) = L at *
  generalize difP a b = DD at *
  clear hA hB
  go_enter Try.func17, Try.ntmps17
  go_wp2_with fail
  refine HN.out.mono ?_
  rintro e w1 ⟨v1, rfl, ho1, hb1⟩
  obtain ⟨AL, cL, rfl, hcL, hL1⟩ := Ss.of ho1
  have HL := Lib.hid hL1
  have HB1 := Lib.hid hb1
  have HA1 := Lib.hid (HA.out.on hb1)
  have HB2 := Lib.hid (HB.out.on hb1)
  clear ho1 hL1 hb1 HN HA HB
  go_wp2_with fail
  go_loopw [5, 7] (fun v i wr => ∃ k : Nat, i = .int .i64 k ∧ k ≤ L.length ∧ Hid (OwnV wr w1.heap.size v ((L.take k).filterMap (difF a b))) ∧ Hid (Below w1.heap.size w1 wr)) (fun _ i _ => L.length - (intOf i).toNat)
  case atStart => exact ⟨0, rfl, Nat.zero_le _, Lib.hid (OwnV.nil _ _), Lib.hid (Below.refl _ _)⟩
  case round =>
    obtain ⟨wq, ewq⟩ : ∃ wq, wq = wr := ⟨_, rfl⟩
    subst ewq
    obtain ⟨k, rfl, hk, HO, hb⟩ := hrel
    by_cases hlt : k < L.length
    · have k0 : (0 : Int) ≤ (k : Int) := by omega
      have k1 : (k : Int) < (L.length : Int) := by omega
      have k2 : decide ((k : Int) < (L.length : Int)) = true := decide_eq_true k1
      obtain ⟨ad, eL, hlo, x0⟩ := (HL.out.on hb.out) k hlt
      have hlo1 : ad.block < w1.heap.size := by
        obtain ⟨ad', e', h', _⟩ := HL.out k hlt
        rw [eL] at e'
        obtain rfl := Option.some.inj e'
        exact h'
      have HS1 := Lib.hid (HS.out k hlt)
      have HLF1 := Lib.hid (HLF.out k)
      have hxe : L.getD k ⟨#[]⟩ = ba L k := rfl
      rw [hxe] at HS1
      have HTA1 := Lib.hid (fun W h => HTA.out (ba L k) W h)
      have HTB1 := Lib.hid (fun W h => HTB.out (ba L k) W h)
      generalize (L.take k).filterMap (difF a b) = X at *
      generalize ba L k = x at *
      generalize atP a x = f at *
      generalize atP b x = g at *
      subst eL
      clear hxe HD
      have hz := Lib.hid hb.out.size
      have X0 : ∀ p : Regrown, (grow (redrawn wq p.d) p.os).cell? (ad.add k) = some (.string x) := fun p => cell_regrown x0 p.d p.os
      have HP1 : Hid (∀ p : Regrown, Calls Try.prog 35 #[.slice A a.length ca, .string x] (grow (redrawn wq p.d) p.os) fun e w' => e = .returned (.int .i64 f) ∧ Below (grow (redrawn wq p.d) p.os).heap.size (grow (redrawn wq p.d) p.os) w') := Lib.hid (fun p => (HTA1.out _ (HA1.out.on (hb.out.trans ((below_regrown wq p.d p.os).mono hz.out)))).mono fun e w' h => ⟨h.1, h.2 ▸ Below.refl _ _⟩)
      have HP2 : Hid (∀ p : Regrown, Calls Try.prog 35 #[.slice B b.length cb, .string x] (grow (redrawn wq p.d) p.os) fun e w' => e = .returned (.int .i64 g) ∧ Below (grow (redrawn wq p.d) p.os).heap.size (grow (redrawn wq p.d) p.os) w') := Lib.hid (fun p => (HTB1.out _ (HB2.out.on (hb.out.trans ((below_regrown wq p.d p.os).mono hz.out)))).mono fun e w' h => ⟨h.1, h.2 ▸ Below.refl _ _⟩)
      by_cases hfg : f = g
      · have HS2 := Lib.hid (HS1.out.trans (by rw [if_pos hfg]))
        have q1 : (f == g) = true := by simpa using hfg
        have q2 : (f != g) = false := by simpa using hfg
        rw [List.append_nil] at HS2
        clear HS1 hfg
        go_upto_region 6 with (fail)
        refine q_enter (by kernel_rfl) (by kernel_rfl) ?_
        iterate 13 (refine q_step ?_; intro K hK; go_simp; first | (refine hK _ ?_; clear hK K) | (refine ⟨_, fun p => Calls.regrown_of (by with_reducible exact HP1.out p), hK _ ?_⟩; clear hK K) | (refine ⟨_, fun p => Calls.regrown_of (by with_reducible exact HP2.out p), hK _ ?_⟩; clear hK K))
        refine q_nil ?_
        intro wz hbz
        have HOz := Lib.hid (HO.out.on hbz)
        have HBz := Lib.hid (hb.out.trans (hbz.mono hz.out))
        clear hbz HP1 HP2 X0 x0
        go_wp2_with fail
        go_roundw
        case rel => exact ⟨k + 1, by go_num, by omega, Lib.hid (by rw [HS2.out]; exact HOz.out), HBz⟩
        case measure => simp [intOf]; omega
      · have HS2 := Lib.hid (HS1.out.trans (by rw [if_neg hfg]))
        have q1 : (f == g) = false := by simpa using hfg
        have q2 : (f != g) = true := by simpa using hfg
        clear HS1 hfg
        go_upto_region 6 with (fail)
        refine q_enter (by kernel_rfl) (by kernel_rfl) ?_
        iterate 13 (refine q_step ?_; intro K hK; go_simp; first | (refine hK _ ?_; clear hK K) | (refine ⟨_, fun p => Calls.regrown_of (by with_reducible exact HP1.out p), hK _ ?_⟩; clear hK K) | (refine ⟨_, fun p => Calls.regrown_of (by with_reducible exact HP2.out p), hK _ ?_⟩; clear hK K))
        refine q_nil ?_
        intro wz hbz
        have hxl : (ad.add k).block < wq.heap.size := by rw [block_add]; exact hlo
        have x1 := (hbz.cell hxl).trans x0
        have HOz := Lib.hid (HO.out.on hbz)
        have HBz := Lib.hid (hb.out.trans (hbz.mono hz.out))
        clear hbz HP1 HP2 X0 x0 HO hb
        go_upto_region 7 with (fail)
        refine z_enter [(0, true), (1, true), (2, true), (3, true), (4, true), (5, true), (6, true), (7, true), (8, true), (9, true), (11, true), (12, true), (13, true), (14, true), (15, true), (10, false), (16, false), (17, true), (18, false), (19, false), (20, true)] (fun W => W.cell? (ad.add k) = some (.string x)) (by kernel_rfl) (by kernel_rfl) (by kernel_rfl) (fun _ _ d _ _ h => by cases d <;> exact h) x1 ?_
        simp only [pickL, List.drop_succ_cons, List.drop_zero]
        iterate 15 (first | (refine' z_yes ?_ (by rfl) ?_ ?_; rotate_left; (intro w' hS; (try dsimp only at hS); go_simp; try (with_reducible rfl)); simp only [Act.put, List.setIfInBounds_toArray, List.set_cons_zero, List.set_cons_succ]) | (refine z_no (by rfl) ?_; simp only [Act.put, List.setIfInBounds_toArray, List.set_cons_zero, List.set_cons_succ]))
        obtain ⟨wd, hwd⟩ : ∃ wd, wz.drew = wd := ⟨_, rfl⟩
        have hbd : Below wz.heap.size wz wd := by rw [← hwd]; exact (Below.refl _ _).drew
        have x2 : wd.cell? (ad.add k) = some (.string x) := by rw [← hwd]; exact x1
        rw [hwd]
        have HOd := Lib.hid (HOz.out.on hbd)
        have HBd := Lib.hid (HBz.out.trans (hbd.mono HBz.out.size))
        clear hwd hbd HOz HBz x1
        refine z_mem ?_
        intro K hK
        go_simp
        refine (HTA1.out _ (HA1.out.on HBd.out)).mono ?_
        rintro e w' ⟨rfl, rfl⟩
        dsimp only
        refine hK.out _ _ x2 ?_
        clear hK
        refine z_mem ?_
        intro K hK
        go_simp
        refine (HTB1.out _ (HB2.out.on HBd.out)).mono ?_
        rintro e w' ⟨rfl, rfl⟩
        dsimp only
        refine hK.out _ _ x2 ?_
        clear hK
        iterate 1 (first | (refine' z_yes ?_ (by rfl) ?_ ?_; rotate_left; (intro w' hS; (try dsimp only at hS); go_simp; try (with_reducible rfl)); simp only [Act.put, List.setIfInBounds_toArray, List.set_cons_zero, List.set_cons_succ]) | (refine z_no (by rfl) ?_; simp only [Act.put, List.setIfInBounds_toArray, List.set_cons_zero, List.set_cons_succ]))
        refine z_mem ?_
        intro K hK
        go_simp
        have hbe : Below wd.heap.size wd (wd.alloc (.cells #[.string x, .int .i64 f, .int .i64 g] 39)) := (Below.refl _ _).alloc (Nat.le_refl _) _
        have x3 := (hbe.cell (World.block_lt_of_cell? _ _ x2)).trans x2
        have HVs : Hid (Vs (wd.alloc (.cells #[.string x, .int .i64 f, .int .i64 g] 39)) (some ⟨wd.heap.size, 0, none⟩) [⟨x, f, g⟩]) := Lib.hid (Vs.one wd ⟨x, f, g⟩ _)
        have HOe := Lib.hid (HOd.out.on hbe)
        have HBe := Lib.hid (HBd.out.trans (hbe.mono HBd.out.size))
        refine hK.out _ _ x3 ?_
        clear hK hbe
        obtain ⟨we, hwe⟩ : ∃ we, wd.alloc (.cells #[.string x, .int .i64 f, .int .i64 g] 39) = we := ⟨_, rfl⟩
        rw [hwe] at x3 HVs HOe HBe ⊢
        clear hwe
        refine z_mem ?_
        intro K hK
        rw [if_pos (by rfl)]
        refine wp_appendV _ _ rfl w1.heap.size u5 X rfl HOe.out (some ⟨wd.heap.size, 0, none⟩) 1 [⟨x, f, g⟩] rfl HVs.out (by have := HLF1.out; simp; omega) HBe.out.size ?_
        intro v' w5 ho5 hg5 _
        have x4 : w5.cell? (ad.add k) = some (.string x) := (World.cell?_of_block (hg5.block _ (World.block_lt_of_cell? _ _ x3) (by intro e; have := (HOe.out.ge _ e.symm).1; rw [block_add] at this; omega))).trans x3
        have HB5 := Lib.hid (below_grownV HBe.out HOe.out hg5 HBe.out.size (Nat.le_refl _))
        have HO5 : Hid (OwnV w5 w1.heap.size v' ((L.take (k + 1)).filterMap (difF a b))) := Lib.hid (by rw [HS2.out]; exact ho5)
        clear ho5 hg5
        refine hK.out _ _ x4 ?_
        clear hK x3 x4 HOe HBe HVs
        simp only [Act.put, List.setIfInBounds_toArray, List.set_cons_zero, List.set_cons_succ]
        iterate 1 (first | (refine' z_yes ?_ (by rfl) ?_ ?_; rotate_left; (intro w' hS; (try dsimp only at hS); go_simp; try (with_reducible rfl)); simp only [Act.put, List.setIfInBounds_toArray, List.set_cons_zero, List.set_cons_succ]) | (refine z_no (by rfl) ?_; simp only [Act.put, List.setIfInBounds_toArray, List.set_cons_zero, List.set_cons_succ]))
        refine z_nil ?_
        go_wp2_with fail
        go_roundw
        case rel => exact ⟨k + 1, by go_num, by omega, HO5, HB5⟩
        case measure => simp [intOf]; omega
    · obtain rfl : k = L.length := by omega
      have d0 : decide ((L.length : Int) < (L.length : Int)) = false := by simp
      rw [List.take_length, HD.out] at HO
      have HR := Lib.hid (HO.out.mono HB1.out.size)
      have HBR := Lib.hid (HB1.out.trans (hb.out.mono HB1.out.size))
      clear HO hb HD
      go_wp2_with fail
      go_ret
      exact ⟨_, rfl, HR.out, HBR.out⟩

set_option maxRecDepth 10000000 in
set_option maxHeartbeats 8000000 in
theorem rapply_any (A B : Option Addr) (ca cb : Nat) (a : List Pu) (l : List Mv) (w : World) (ha : a.length ≤ 300) (hl' : l.length ≤ 300) (hA : Us w A a) (hB : Vs w B l) (hr : RiseK (l.map Mv.t)) (big : Bool) (hbig : decide (100 < (apP a l).length) = big) :
    Calls Try.prog 20 #[.slice A a.length ca, .slice B l.length cb] w fun e w' => ∃ v, e = .returned (.tuple #[v, .int .i64 (if staB a l then 8 else if big then 9 else 0)]) ∧ OwnU w' w.heap.size v (if staB a l || big then [] else apP a l) ∧ Below w.heap.size w w' := by
  have HN := Lib.hid (names_any A none B ca 0 cb a [] l w ha (by decide) hl' hA (Us.nil _ _) hB (a.map Pu.t ++ l.map Mv.t) (by simp))
  have HA := Lib.hid hA
  have HB := Lib.hid hB
  have HTA := Lib.hid (fun (t : ByteArray) (W : World) (h : Us W A a) => at_any A ca a t W (by omega) h _ rfl)
  have hL : (uniK (a.map Pu.t ++ l.map Mv.t)).length ≤ 1000 := by
    have := (riseK_nodup (uniK_rise (a.map Pu.t ++ l.map Mv.t))).length_le_of_subset (l₂ := a.map Pu.t ++ l.map Mv.t) (fun t ht => (uniK_mem t _).1 ht)
    simp at this
    omega
  have HD : Hid ((uniK (a.map Pu.t ++ l.map Mv.t)).filterMap (apF a l) = apP a l) := Lib.hid rfl
  have HS := Lib.hid (fun (i : Nat) (h : i < (uniK (a.map Pu.t ++ l.map Mv.t)).length) => apP_at_name a l (uniK (a.map Pu.t ++ l.map Mv.t)) h)
  have HLF : Hid (∀ k, (((uniK (a.map Pu.t ++ l.map Mv.t)).take k).filterMap (apF a l)).length ≤ 1000) := Lib.hid (fun k => by
    have h1 := List.length_filterMap_le (apF a l) ((uniK (a.map Pu.t ++ l.map Mv.t)).take k)
    rw [List.length_take] at h1
    omega)
  have HST := Lib.hid (fun (k : Nat) (hk : k < l.length) (h : ¬ (mv l k).f = atP a (mv l k).t) => sta_of hk h)
  have HSN : Hid ((∀ t ∈ uniK (a.map Pu.t ++ l.map Mv.t), ∀ k, k < l.length → (mv l k).t = t → (mv l k).f = atP a t) → staB a l = false) := Lib.hid (fun h => sta_no h)
  have HGO := Lib.hid (fun (d : Int) (t : ByteArray) (k : Nat) (hk : k < l.length) => goP_at hr d t hk)
  generalize uniK (a.map Pu.t ++ l.map Mv.t) = L at *
  have HBIG := Lib.hid hbig
  clear hbig
  generalize apP a l = DD at *
  generalize staB a l = ST at *
  clear hA hB hr
  go_enter Try.func20, Try.ntmps20
  go_wp2_with fail
  refine HN.out.mono ?_
  rintro e w1 ⟨v1, rfl, ho1, hb1⟩
  obtain ⟨AL, cL, rfl, hcL, hL1⟩ := Ss.of ho1
  have HL := Lib.hid hL1
  have HB1 := Lib.hid hb1
  have HA1 := Lib.hid (HA.out.on hb1)
  have HM1 := Lib.hid (HB.out.on hb1)
  clear ho1 hL1 hb1 HN HA HB
  go_wp2_with fail
  go_loopw [6, 8] (fun v i wr => ∃ k : Nat, i = .int .i64 k ∧ k ≤ L.length ∧ Hid (OwnU wr w1.heap.size v ((L.take k).filterMap (apF a l))) ∧ Hid (∀ t ∈ L.take k, ∀ j, j < l.length → (mv l j).t = t → (mv l j).f = atP a t) ∧ Hid (Below w1.heap.size w1 wr)) (fun _ i _ => L.length - (intOf i).toNat)
  case atStart => exact ⟨0, rfl, Nat.zero_le _, Lib.hid (OwnU.nil _ _), Lib.hid (fun t ht => by simp at ht), Lib.hid (Below.refl _ _)⟩
  case round =>
    obtain ⟨wq, ewq⟩ : ∃ wq, wq = wr := ⟨_, rfl⟩
    subst ewq
    obtain ⟨k, rfl, hk, HO, HQ, hb⟩ := hrel
    by_cases hlt : k < L.length
    · have k0 : (0 : Int) ≤ (k : Int) := by omega
      have k1 : (k : Int) < (L.length : Int) := by omega
      have k2 : decide ((k : Int) < (L.length : Int)) = true := decide_eq_true k1
      obtain ⟨ad, eL, hlo, x0⟩ := (HL.out.on hb.out) k hlt
      have HS1 := Lib.hid (HS.out k hlt)
      have HLF1 := Lib.hid (HLF.out k)
      have hxe : L.getD k ⟨#[]⟩ = ba L k := rfl
      rw [hxe] at HS1
      have hnext : ∀ t, t ∈ L.take (k + 1) → t ∈ L.take k ∨ t = ba L k := fun t ht => by
        rw [List.take_succ_eq_append_getElem hlt] at ht
        rcases List.mem_append.1 ht with h | h
        · exact .inl h
        · exact .inr (by rw [ba_lt L hlt]; simpa using h)
      have HQ1 : Hid ((∀ j, j < l.length → (mv l j).t = ba L k → (mv l j).f = atP a (ba L k)) → ∀ t ∈ L.take (k + 1), ∀ j, j < l.length → (mv l j).t = t → (mv l j).f = atP a t) := Lib.hid (fun h t ht => by
        rcases hnext t ht with h1 | rfl
        · exact HQ.out t h1
        · exact h)
      have HTA1 := Lib.hid (fun W h => HTA.out (ba L k) W h)
      have HGO1 := Lib.hid (fun (j : Nat) (hj : j < l.length) => HGO.out (atP a (ba L k)) (ba L k) j hj)
      have HAT : Hid (∀ j, j < l.length → (mv l j).t = ba L k → ¬ (mv l j).f = atP a (ba L k) → ST = true) := Lib.hid (fun j hj e h => HST.out j hj (by rw [e]; exact h))
      generalize (L.take k).filterMap (apF a l) = X at *
      generalize ba L k = x at *
      generalize hd : atP a x = d0 at *
      have HDA := Lib.hid hd
      subst eL
      clear hxe hnext hd HQ
      go_wp2_with fail
      refine (HTA1.out _ (HA1.out.on hb.out)).mono ?_
      rintro e w' ⟨rfl, rfl⟩
      go_wp2_with fail
      go_loopw [9, 10] (fun t i wr => ∃ j : Nat, i = .int .i64 j ∧ j ≤ l.length ∧ t = .int .i64 (goP (l.take j) d0 x) ∧ Hid (∀ j', j' < j → (mv l j').t = x → (mv l j').f = d0) ∧ Hid (Below wq.heap.size wq wr)) (fun _ i _ => l.length - (intOf i).toNat)
      case atStart => exact ⟨0, rfl, Nat.zero_le _, rfl, Lib.hid (fun j hj => absurd hj (Nat.not_lt_zero j)), Lib.hid (Below.refl _ _)⟩
      case round =>
        obtain ⟨wj, ewj⟩ : ∃ wj, wj = wr := ⟨_, rfl⟩
        subst ewj
        obtain ⟨j, rfl, hj, rfl, hbad, hbj⟩ := hrel
        have HB1j := Lib.hid (hb.out.trans (hbj.out.mono hb.out.size))
        by_cases hjl : j < l.length
        · have j0 : (0 : Int) ≤ (j : Int) := by omega
          have j1 : (j : Int) < (l.length : Int) := by omega
          have j2 : decide ((j : Int) < (l.length : Int)) = true := decide_eq_true j1
          obtain ⟨adM, eM, hloM, h1⟩ := (HM1.out.on HB1j.out) j hjl
          obtain ⟨m0, m1, m2⟩ := h1.flat
          have HG := Lib.hid (HGO1.out j hjl)
          have HAT1 := Lib.hid (HAT.out j hjl)
          have HBN : Hid (((mv l j).t = x → (mv l j).f = d0) → ∀ j', j' < j + 1 → (mv l j').t = x → (mv l j').f = d0) := Lib.hid (fun h j' hj' => by
            rcases Nat.lt_or_ge j' j with h2 | h2
            · exact hbad.out j' h2
            · obtain rfl : j' = j := by omega
              exact h)
          generalize goP (l.take j) d0 x = tg at *
          generalize mv l j = m at *
          obtain ⟨mt, mf, mg⟩ := m
          simp only at m0 m1 m2 HG HAT1 HBN
          subst eM
          clear h1 hbad
          have x1 := (hbj.out.cell (p := ad.add k) (by rw [block_add]; exact hlo)).trans x0
          have hz := Lib.hid hbj.out.size
          have X0 : ∀ p : Regrown, (grow (redrawn wj p.d) p.os).cell? (ad.add k) = some (.string x) := fun p => cell_regrown x1 p.d p.os
          have M0 : ∀ p : Regrown, (grow (redrawn wj p.d) p.os).cell? (adM.add (j * 3)) = some (.string mt) := fun p => cell_regrown m0 p.d p.os
          have hml : (adM.add (j * 3)).block < wj.heap.size := by rw [block_add]; exact hloM
          have hxl : (ad.add k).block < wj.heap.size := World.block_lt_of_cell? _ _ x1
          have qe := eq_is mt x
          by_cases he : mt = x
          · rw [decide_eq_true he] at qe
            have HG2 : Hid (goP (l.take (j + 1)) d0 x = mg) := Lib.hid (HG.out.trans (if_pos he))
            have HAT2 := Lib.hid (HAT1.out he)
            have HBN2 : Hid (mf = d0 → ∀ j', j' < j + 1 → (mv l j').t = x → (mv l j').f = d0) := Lib.hid (fun h => HBN.out fun _ => h)
            clear HG HAT1 HBN he
            go_upto_region 10 with (fail)
            refine q_enter (by kernel_rfl) (by kernel_rfl) ?_
            iterate 10 (refine q_step ?_; intro K hK; go_simp; refine hK _ ?_; clear hK K)
            refine q_nil ?_
            intro wz hbz
            have x2 := (hbz.cell hxl).trans x1
            have m12 := (hbz.cell (p := ⟨(adM.add (j * 3)).block, (adM.add (j * 3)).off + 1, none⟩) hml).trans m1
            have m22 := (hbz.cell (p := ⟨(adM.add (j * 3)).block, (adM.add (j * 3)).off + 2, none⟩) hml).trans m2
            have HZ : Hid (Below wq.heap.size wq wz) := Lib.hid (hbj.out.trans (hbz.mono hz.out))
            have HZ1 := Lib.hid (hb.out.trans (HZ.out.mono hb.out.size))
            have X2 : ∀ p : Regrown, (grow (redrawn wz p.d) p.os).cell? (ad.add k) = some (.string x) := fun p => cell_regrown x2 p.d p.os
            have M1 : ∀ p : Regrown, (grow (redrawn wz p.d) p.os).cell? ⟨(adM.add (j * 3)).block, (adM.add (j * 3)).off + 1, none⟩ = some (.int .i64 mf) := fun p => cell_regrown m12 p.d p.os
            have HP1 : Hid (∀ p : Regrown, Calls Try.prog 35 #[.slice A a.length ca, .string x] (grow (redrawn wz p.d) p.os) fun e w' => e = .returned (.int .i64 d0) ∧ Below (grow (redrawn wz p.d) p.os).heap.size (grow (redrawn wz p.d) p.os) w') := Lib.hid (fun p => (HTA1.out _ (HA1.out.on (HZ1.out.trans ((below_regrown wz p.d p.os).mono HZ1.out.size)))).mono fun e w' h => ⟨h.1, h.2 ▸ Below.refl _ _⟩)
            have hml2 : (adM.add (j * 3)).block < wz.heap.size := by have := hbz.size; omega
            clear hbz X0 M0 x1 m0 m1 m2 x2 m12 qe
            by_cases hf : mf = d0
            · have q1 : (mf == d0) = true := by simpa using hf
              have q2 : (mf != d0) = false := by simpa using hf
              have HBN3 := Lib.hid (HBN2.out hf)
              clear hf HAT2 HBN2
              go_upto_region 11 with (fail)
              refine q_enter (by kernel_rfl) (by kernel_rfl) ?_
              iterate 12 (refine q_step ?_; intro K hK; go_simp; first | (refine hK _ ?_; clear hK K) | (refine ⟨_, fun p => Calls.regrown_of (by with_reducible exact HP1.out p), hK _ ?_⟩; clear hK K))
              refine q_nil ?_
              intro wy hby
              have m23 := (hby.cell (p := ⟨(adM.add (j * 3)).block, (adM.add (j * 3)).off + 2, none⟩) hml2).trans m22
              have HY : Hid (Below wq.heap.size wq wy) := Lib.hid (HZ.out.trans (hby.mono HZ.out.size))
              clear hby X2 M1 HP1 m22
              go_wp2_with fail
              go_roundw
              case rel => exact ⟨j + 1, by go_num, by omega, by rw [HG2.out], HBN3, HY⟩
              case measure => simp [intOf]; omega
            · have q1 : (mf == d0) = false := by simpa using hf
              have q2 : (mf != d0) = true := by simpa using hf
              obtain rfl := HAT2.out hf
              clear hf HAT2 HBN2
              go_upto_region 11 with (fail)
              refine q_enter (by kernel_rfl) (by kernel_rfl) ?_
              iterate 12 (refine q_step ?_; intro K hK; go_simp; first | (refine hK _ ?_; clear hK K) | (refine ⟨_, fun p => Calls.regrown_of (by with_reducible exact HP1.out p), hK _ ?_⟩; clear hK K))
              refine q_nil ?_
              intro wy hby
              have HY : Hid (Below w.heap.size w wy) := Lib.hid (HB1.out.trans ((HZ1.out.trans (hby.mono HZ1.out.size)).mono HB1.out.size))
              clear hby X2 M1 HP1 m22
              go_wp2_with fail
              exact bodyPost_ret (v := .tuple #[.slice none 0 0, .int .i64 8]) (by simp [results, Try.results20, go_sem]) rfl ⟨_, rfl, OwnU.nil _ _, HY.out⟩
          · rw [decide_eq_false he] at qe
            have HG2 : Hid (goP (l.take (j + 1)) d0 x = tg) := Lib.hid (HG.out.trans (if_neg he))
            have HBN2 := Lib.hid (HBN.out fun h => absurd h he)
            clear HG HAT1 HBN he
            go_upto_region 10 with (fail)
            refine q_enter (by kernel_rfl) (by kernel_rfl) ?_
            iterate 10 (refine q_step ?_; intro K hK; go_simp; refine hK _ ?_; clear hK K)
            refine q_nil ?_
            intro wz hbz
            have HZ : Hid (Below wq.heap.size wq wz) := Lib.hid (hbj.out.trans (hbz.mono hz.out))
            clear hbz X0 M0 x1 m0 m1 m2
            go_wp2_with fail
            go_roundw
            case rel => exact ⟨j + 1, by go_num, by omega, by rw [HG2.out], HBN2, HZ⟩
            case measure => simp [intOf]; omega
        · obtain rfl : j = l.length := by omega
          have e0 : decide ((l.length : Int) < (l.length : Int)) = false := by simp
          rw [List.take_length]
          have HQ2 := Lib.hid (HQ1.out hbad.out)
          have HOj := Lib.hid (HO.out.on hbj.out)
          have x1 := (hbj.out.cell (p := ad.add k) (by rw [block_add]; exact hlo)).trans x0
          generalize goP l d0 x = tg at *
          clear hbad HQ1
          by_cases ht : 0 ≤ tg
          · have HS2 := Lib.hid (HS1.out.trans (by rw [if_pos ht]))
            have q1 : decide (0 ≤ tg) = true := decide_eq_true ht
            clear HS1 ht
            go_wp2_with (at_builtin; refine wpList_appendPu rfl _ _ rfl w1.heap.size u6 X rfl (HOj.out.alloc _) (some ⟨wj.heap.size, 0, none⟩) 1 [⟨x, tg⟩] rfl (Us.one wj ⟨x, tg⟩ _) (by have := HLF1.out; simp; omega) (by have := HB1j.out.size; simp; omega) ?_; intro v' w5 ho5 hg5)
            go_roundw
            case rel => exact ⟨k + 1, by go_num, by omega, Lib.hid (by rw [HS2.out]; exact ho5), HQ2, Lib.hid (below_grownU (HB1j.out.alloc HB1j.out.size _) (HOj.out.alloc _) hg5 (by have := HB1j.out.size; simp; omega) (Nat.le_refl _))⟩
            case measure => simp [intOf]; omega
          · have HS2 := Lib.hid (HS1.out.trans (by rw [if_neg ht]))
            rw [List.append_nil] at HS2
            have q1 : decide (0 ≤ tg) = false := decide_eq_false ht
            clear HS1 ht
            go_wp2_with fail
            go_roundw
            case rel => exact ⟨k + 1, by go_num, by omega, Lib.hid (by rw [HS2.out]; exact HOj.out), HQ2, HB1j⟩
            case measure => simp [intOf]; omega
    · obtain rfl : k = L.length := by omega
      have e0 : decide ((L.length : Int) < (L.length : Int)) = false := by simp
      rw [List.take_length] at HQ HO
      rw [HD.out] at HO
      obtain rfl := HSN.out HQ.out
      obtain ⟨AR, cR, rfl, hcR, _⟩ := HO.out.lst
      have HR := Lib.hid (HO.out.mono HB1.out.size)
      have HBR := Lib.hid (HB1.out.trans (hb.out.mono HB1.out.size))
      have q0 : decide (100 < DD.length) = big := HBIG.out
      have q1 : decide (100 < (DD.length : Int)) = big := by rw [← q0]; exact decide_eq_decide.2 (by omega)
      clear HO hb HD HQ HSN hcR
      generalize DD.length = nD at *
      rcases big with _ | _
      · go_wp2_with fail
        exact bodyPost_ret (v := .tuple #[.slice AR nD cR, .int .i64 0]) (by simp [results, Try.results20, go_sem]) rfl ⟨_, rfl, HR.out, HBR.out⟩
      · go_wp2_with fail
        exact bodyPost_ret (v := .tuple #[.slice none 0 0, .int .i64 9]) (by simp [results, Try.results20, go_sem]) rfl ⟨_, rfl, OwnU.nil _ _, HBR.out⟩
end Go.Proofs.Ytdbndkccgpmkbaa
