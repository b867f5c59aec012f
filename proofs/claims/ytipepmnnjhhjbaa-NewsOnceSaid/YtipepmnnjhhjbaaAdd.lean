/-
  The walk of Add.
-/
import Derived.Test.YtipepmnnjhhjbaaInsert
namespace Go.Proofs.Ytipepmnnjhhjbaa
open Go.Sort Go.RowKit Go.Proofs.Ytipepmnnjhhjbaa.Pure

set_option maxRecDepth 100000 in
set_option maxHeartbeats 400000 in
theorem orE_any (ad : Addr) (cs : List Int) (c : Nat) (w : World) (hn : cs.length ≤ 100) (h : ∀ j, j < cs.length → w.cell? (ad.add j) = some (.int .i64 (cs.getD j 0))) :
    Calls Try.prog 26 #[.slice (some ad) cs.length c] w fun e w' => e = .returned (.int .i64 (firstN cs)) ∧ w = w' := by
  have H := Lib.hid h
  clear h
  go_enter Try.func26, Try.ntmps26
  go_wp2
  go_loop [8] (fun i => ∃ k : Nat, k ≤ cs.length ∧ i = .int .i64 k ∧ Hid (firstN cs = firstN (cs.drop k))) (fun i => cs.length - (intOf i).toNat)
  case atStart => exact ⟨0, Nat.zero_le _, rfl, Lib.hid rfl⟩
  case round =>
    obtain ⟨k, hk, rfl, hf⟩ := hrel
    by_cases hlt : k < cs.length
    · have hcell := H.out k hlt
      have HF := Lib.hid (firstN_drop cs k hlt)
      generalize cs.getD k 0 = y at *
      rcases hy : (y != 0) with _ | _
      · rw [hy] at HF
        go_wp2
        go_round
        case rel => exact ⟨k + 1, by omega, by go_num, Lib.hid (by rw [hf.out, HF.out]; rfl)⟩
        case measure => simp [intOf]; omega
      · rw [hy] at HF
        go_wp2
        go_ret
        exact ⟨ret_int (by rw [hf.out, HF.out]; rfl), rfl⟩
    · obtain rfl : k = cs.length := by omega
      go_wp2
      go_ret
      exact ⟨ret_int (by rw [hf.out]; simp [firstN]), rfl⟩

/-- The cells of block b hold the news x. -/
def Bn (w : World) (b : Nat) (x : Nw) : Prop := w.cell? ⟨b, 0, none⟩ = some (.int .i64 x.w) ∧ w.cell? ⟨b, 1, none⟩ = some (.int .u64 x.i) ∧ w.cell? ⟨b, 2, none⟩ = some (.int .i64 x.s)
section
variable {w w' : World} {b : Nat} {x : Nw}
theorem Bn.lt (h : Bn w b x) : b < w.heap.size := World.block_lt_of_cell? w _ h.1
theorem Bn.on (h : Bn w b x) (hb : Below w.heap.size w w') : Bn w' b x := ⟨(hb.cell h.lt).trans h.1, (hb.cell h.lt).trans h.2.1, (hb.cell h.lt).trans h.2.2⟩
theorem Bn.new (w : World) (x : Nw) (t : TypeId) : Bn (w.alloc (.cells #[.int .i64 x.w, .int .u64 x.i, .int .i64 x.s] t)) w.heap.size x := ⟨by go_simp, by go_simp, by go_simp⟩
end
/-- A call answers the queue ys, the call's own, and the error er. -/
def GivesQ (w : World) (ys : List Td) (er : Int) (e : Ending) (w' : World) : Prop := ∃ v, e = .returned (.tuple #[v, .int .i64 er]) ∧ OwnT w' w.heap.size v ys ∧ Below w.heap.size w w'
theorem givesQ {w w' : World} {ys : List Td} {er : Int} {v : Value} (h : OwnT w' w.heap.size v ys) (hb : Below w.heap.size w w') : GivesQ w ys er (.returned (.tuple #[v, .int .i64 er])) w' := ⟨v, rfl, h, hb⟩

set_option maxRecDepth 100000 in
set_option maxHeartbeats 4000000 in
theorem add_any (A : Option Addr) (c : Nat) (q : List Td) (n : Nw) (often : Int) (w : World) (hn : q.length ≤ 900) (h : Ts w A q) (L M : Bool) (hL : mayQ q = L) (hM : mayT (n.td often) = M) :
    Calls Try.prog 12 #[.slice A q.length c, .agg #[.int .i64 n.w, .int .u64 n.i, .int .i64 n.s], .int .i64 often] w (GivesQ w (if (L && M) = true then addQ q (n.td often) else q) (if (L && M) = true then 0 else 1)) := by
  have HCL : Hid (∀ W, Ts W A q → Calls Try.prog 25 #[.slice A q.length c] W fun e w' => ∃ v, e = .returned v ∧ OwnT w' W.heap.size v q ∧ Below W.heap.size W w') := Lib.hid (fun W h => clone_any A c q W (by omega) h)
  have HCK : Hid (∀ W, Ts W A q → Calls Try.prog 14 #[.slice A q.length c] W fun e w' => e = .returned (.int .i64 (okE L)) ∧ Below W.heap.size W w') := Lib.hid (fun W h => checkQ_any A c q W (by omega) h L hL)
  obtain ⟨x, hx⟩ : ∃ x, x = n.td often := ⟨_, rfl⟩
  have hxw : n.w = x.w := by rw [hx]; rfl
  have hxi : n.i = x.i := by rw [hx]; rfl
  have hxs : n.s = x.s := by rw [hx]; rfl
  have hxl : often = x.l := by rw [hx]; rfl
  have HNK : Hid (n.k = x.k) := Lib.hid (by rw [hx]; rfl)
  rw [← hx] at hM ⊢
  have HCT : Hid (∀ W, Calls Try.prog 27 #[.agg #[.int .i64 x.w, .int .u64 x.i, .int .i64 x.s, .int .i64 x.l]] W fun e w' => e = .returned (.int .i64 (okE M)) ∧ Below W.heap.size W w') := Lib.hid (fun W => by rw [← hM]; exact checkT_any x W)
  have HOO : Hid (∀ (W : World), Calls Try.prog 26 #[.slice (some ⟨W.heap.size, 0, none⟩) 2 2] (W.alloc (.cells #[.int .i64 (okE L), .int .i64 (okE M)] 31))
      fun e w' => e = .returned (.int .i64 (firstN [okE L, okE M])) ∧ (W.alloc (.cells #[.int .i64 (okE L), .int .i64 (okE M)] 31)) = w') := Lib.hid fun W =>
    orE_any ⟨W.heap.size, 0, none⟩ [okE L, okE M] 2 _ (Nat.le_of_ble_eq_true rfl) (two_new W _ _ _)
  have HE : Hid (firstN [okE L, okE M] = if (L && M) = true then 0 else 1) := Lib.hid (by cases L <;> cases M <;> rfl)
  obtain ⟨YS, hYS⟩ : ∃ YS, YS = if (L && M) = true then addQ q x else q := ⟨_, rfl⟩
  obtain ⟨ER, hER⟩ : ∃ ER : Int, ER = if (L && M) = true then 0 else 1 := ⟨_, rfl⟩
  have HY : Hid (L = true → M = true → YS = addQ q x ∧ ER = 0) := Lib.hid (fun h1 h2 => by rw [hYS, hER, h1, h2]; exact ⟨rfl, rfl⟩)
  have HYN : Hid (¬(L = true ∧ M = true) → YS = q ∧ ER = 1) := Lib.hid (fun h1 => by
    have : ¬(L && M) = true := by rw [Bool.and_eq_true]; exact h1
    rw [hYS, hER, if_neg this, if_neg this]; exact ⟨rfl, rfl⟩)
  rw [← hYS, ← hER]
  rw [← hER] at HE
  have HEE : Hid (firstN [okE L, okE M] = ER) := HE
  clear hYS hER HE
  have HSE : Hid (L = true → ∀ (A' : Option Addr) (c' : Nat) (W : World), Ts W A' q → Calls Try.prog 28 #[.slice A' q.length c', .agg #[.int .i64 x.w, .int .u64 x.i, .int .i64 x.s, .int .i64 x.l], .func (.func 29) #[] #[]] W fun e w' => e = .returned (.tuple #[.int .i64 ((posQ q x.w : Nat) : Int), .bool (hitQ q x.w)]) ∧ Below W.heap.size W w') :=
    Lib.hid (fun hl A' c' W h => search_any A' c' q x W (by omega) (mayQ_rise (by rw [hL, hl])) h)
  have HA : Hid (L = true → addQ q x = if hitQ q x.w = true then (if beatsB x.k (td q (posQ q x.w)).k = true then q.set (posQ q x.w) x else q) else q.take (posQ q x.w) ++ x :: q.drop (posQ q x.w)) := Lib.hid (fun hl => by
    rw [addQ_eq (mayQ_rise (by rw [hL, hl])) x]
    unfold hitQ
    by_cases h1 : posQ q x.w < q.length ∧ (td q (posQ q x.w)).w = x.w
    · have h2 : (decide (posQ q x.w < q.length) && decide ((td q (posQ q x.w)).w = x.w)) = true := by rw [Bool.and_eq_true, decide_eq_true_iff, decide_eq_true_iff]; exact h1
      rw [if_pos h1, if_pos h2]
    · have h2 : ¬(decide (posQ q x.w < q.length) && decide ((td q (posQ q x.w)).w = x.w)) = true := by rw [Bool.and_eq_true, decide_eq_true_iff, decide_eq_true_iff]; exact h1
      rw [if_neg h1, if_neg h2])
  have HIT : Hid (hitQ q x.w = true → posQ q x.w < q.length) := Lib.hid (fun h => by unfold hitQ at h; rw [Bool.and_eq_true, decide_eq_true_iff] at h; exact h.1)
  have HPL := Lib.hid (posQ_le q x.w)
  have HTS := Lib.hid h
  have HNN := Lib.hid hn
  have HBT := Lib.hid (fun (y : Td) (W : World) => beats_any x.k y.k W)
  have hkk : ∀ y : Td, y.k.i = y.i ∧ y.k.s = y.s := fun _ => ⟨rfl, rfl⟩
  rw [hxw, hxi, hxs, hxl]
  obtain ⟨n', hn'⟩ : ∃ n' : Nw, n' = ⟨x.w, x.i, x.s⟩ := ⟨_, rfl⟩
  have BN0 : Hid (Bn (w.alloc (.cells #[.int .i64 x.w, .int .u64 x.i, .int .i64 x.s] 27)) w.heap.size n') := Lib.hid (by rw [hn']; exact Bn.new w ⟨x.w, x.i, x.s⟩ _)
  have HB0 : Hid (Below w.heap.size w (w.alloc (.cells #[.int .i64 x.w, .int .u64 x.i, .int .i64 x.s] 27))) := Lib.hid ((Below.refl _ w).alloc (Nat.le_refl _) _)
  have hnw : n'.w = x.w := by rw [hn']
  have hni : n'.i = x.i := by rw [hn']
  have hns : n'.s = x.s := by rw [hn']
  have HNW := Lib.hid (show n'.w = x.w ∧ n'.i = x.i ∧ n'.s = x.s from ⟨hnw, hni, hns⟩)
  clear hn' hnw hni hns hxw hxi hxs hxl hx hL hM h hn HNK
  generalize okE L = eL at *
  generalize okE M = eM at *
  generalize firstN [eL, eM] = E at *
  obtain rfl : E = ER := HEE.out
  clear HEE
  generalize hpp : posQ q x.w = pp at *
  generalize hhh : hitQ q x.w = hh at *
  clear hpp hhh
  go_enter Try.func12, Try.ntmps12
  go_upto_region 1 with (fail)
  have HT1 := Lib.hid (HTS.out.on HB0.out)
  generalize w.alloc (.cells #[.int .i64 x.w, .int .u64 x.i, .int .i64 x.s] 27) = w1 at *
  go_wp2_with fail
  refine (HCL.out w1 HT1.out).mono ?_
  rintro e w2 ⟨v, rfl, ho2, hb2⟩
  have HB2 : Hid (Below w.heap.size w w2) := Lib.hid (HB0.out.trans (hb2.mono HB0.out.size))
  have BN2 := Lib.hid (BN0.out.on hb2)
  have HO2 := Lib.hid (ho2.mono HB0.out.size)
  clear ho2 hb2 HT1 HB0 BN0 HCL
  obtain ⟨n0, n1, n2⟩ := BN2.out
  rw [HNW.out.1] at n0
  rw [HNW.out.2.1] at n1
  rw [HNW.out.2.2] at n2
  go_upto_region 3 with (fail)
  have hbb : Below w2.heap.size w2 (w2.alloc (.cells #[.int .i64 x.w, .int .u64 x.i, .int .i64 x.s, .int .i64 x.l] 59)) := (Below.refl _ _).alloc (Nat.le_refl _) _
  have HB3 : Hid (Below w.heap.size w (w2.alloc (.cells #[.int .i64 x.w, .int .u64 x.i, .int .i64 x.s, .int .i64 x.l] 59))) := Lib.hid (HB2.out.trans (hbb.mono HB2.out.size))
  have BN3 := Lib.hid (BN2.out.on hbb)
  have HO3 := Lib.hid (HO2.out.on hbb)
  have BT3 : Hid (Bt (w2.alloc (.cells #[.int .i64 x.w, .int .u64 x.i, .int .i64 x.s, .int .i64 x.l] 59)) w2.heap.size x) := Lib.hid (Bt.new w2 x _)
  clear HB2 BN2 HO2 hbb n0 n1 n2
  generalize w2.alloc (.cells #[.int .i64 x.w, .int .u64 x.i, .int .i64 x.s, .int .i64 x.l] 59) = w3 at *
  generalize w2.heap.size = bt at *
  refine z_enter [(0, true), (2, true), (1, false), (3, false), (4, false), (5, false), (6, true)] (fun w' => Bt w' bt x) (by kernel_rfl) (by kernel_rfl) (by kernel_rfl) (fun _ _ d _ _ h => by cases d <;> exact h) BT3.out ?_
  simp only [pickL, List.drop_succ_cons, List.drop_zero]
  have HB4 : Hid (Below w.heap.size w w3.drew) := Lib.hid HB3.out.drew
  have BN4 : Hid (Bn w3.drew w.heap.size n') := Lib.hid BN3.out
  have HO4 : Hid (OwnT w3.drew w.heap.size v q) := Lib.hid HO3.out
  have BT4 : Hid (Bt w3.drew bt x) := Lib.hid BT3.out
  clear HB3 BN3 HO3 BT3
  generalize w3.drew = w4 at *
  iterate 2 (first | (refine' z_yes ?_ (by rfl) ?_ ?_; rotate_left; (intro w' hS; (try dsimp only at hS); obtain ⟨t0, t1, t2, t3⟩ := hS; go_simp; try (with_reducible rfl)); simp only [Act.put, List.setIfInBounds_toArray, List.set_cons_zero, List.set_cons_succ]) | (refine z_no (by rfl) ?_; simp only [Act.put, List.setIfInBounds_toArray, List.set_cons_zero, List.set_cons_succ]))
  refine z_mem ?_
  intro K hK
  go_simp
  refine (HCK.out w4 (HTS.out.on HB4.out)).mono ?_
  rintro e w5 ⟨rfl, hb5⟩
  have HB5 : Hid (Below w.heap.size w w5) := Lib.hid (HB4.out.trans (hb5.mono HB4.out.size))
  have BN5 := Lib.hid (BN4.out.on hb5)
  have HO5 := Lib.hid (HO4.out.on hb5)
  have BT5 := Lib.hid (BT4.out.on hb5)
  clear HB4 BN4 HO4 BT4 hb5 HCK
  refine hK.out _ _ BT5.out ?_
  clear hK
  refine z_mem ?_
  intro K hK
  go_simp
  refine (HCT.out w5).mono ?_
  rintro e w6 ⟨rfl, hb6⟩
  have HB6 : Hid (Below w.heap.size w w6) := Lib.hid (HB5.out.trans (hb6.mono HB5.out.size))
  have BN6 := Lib.hid (BN5.out.on hb6)
  have HO6 := Lib.hid (HO5.out.on hb6)
  have BT6 := Lib.hid (BT5.out.on hb6)
  clear HB5 BN5 HO5 BT5 hb6 HCT
  refine hK.out _ _ BT6.out ?_
  clear hK
  refine z_mem ?_
  intro K hK
  go_simp
  have hO := HOO.out w6
  have hbb : Below w6.heap.size w6 (w6.alloc (.cells #[.int .i64 eL, .int .i64 eM] 31)) := (Below.refl _ _).alloc (Nat.le_refl _) _
  have HB7 : Hid (Below w.heap.size w (w6.alloc (.cells #[.int .i64 eL, .int .i64 eM] 31))) := Lib.hid (HB6.out.trans (hbb.mono HB6.out.size))
  have BN7 := Lib.hid (BN6.out.on hbb)
  have HO7 := Lib.hid (HO6.out.on hbb)
  have BT7 := Lib.hid (BT6.out.on hbb)
  clear HB6 BN6 HO6 BT6 hbb HOO
  generalize w6.alloc (.cells #[.int .i64 eL, .int .i64 eM] 31) = w7 at *
  refine hK.out _ _ BT7.out ?_
  clear hK
  refine z_mem ?_
  intro K hK
  go_simp
  refine hO.mono ?_
  rintro e w8 ⟨rfl, rfl⟩
  refine hK.out _ _ BT7.out ?_
  clear hK hO
  iterate 1 (first | (refine' z_yes ?_ (by rfl) ?_ ?_; rotate_left; (intro w' hS; (try dsimp only at hS); go_simp; try (with_reducible rfl)); simp only [Act.put, List.setIfInBounds_toArray, List.set_cons_zero, List.set_cons_succ]) | (refine z_no (by rfl) ?_; simp only [Act.put, List.setIfInBounds_toArray, List.set_cons_zero, List.set_cons_succ]))
  refine z_nil ?_
  by_cases hLM : L = true ∧ M = true
  · obtain ⟨hLt, hMt⟩ := hLM
    obtain ⟨rfl, rfl⟩ := HY.out hLt hMt
    have HSE' := Lib.hid (HSE.out hLt)
    have HA' := Lib.hid (HA.out hLt)
    clear HY HYN HSE HA hLt hMt
    obtain ⟨A', c', rfl, hqc, HL7⟩ := HO7.out.lst
    go_upto_region 6 with (fail)
    obtain ⟨t0, t1, t2, t3⟩ := BT7.out
    go_upto_region 7 with (go_at_call 28; refine (HSE'.out A' c' w7 HL7).mono ?_; rintro e w8 ⟨rfl, hb8⟩)
    have HB8 : Hid (Below w.heap.size w w8) := Lib.hid (HB7.out.trans (hb8.mono HB7.out.size))
    have BN8 := Lib.hid (BN7.out.on hb8)
    have HO8 := Lib.hid (HO7.out.on hb8)
    have BT8 := Lib.hid (BT7.out.on hb8)
    have hz8 := HB8.out.size
    clear HB7 BN7 HO7 BT7 hb8 HSE' t0 t1 t2 t3 HL7
    rcases hh with _ | _
    · rw [if_neg (by simp)] at HA'
      obtain ⟨t0, t1, t2, t3⟩ := BT8.out
      have hbb : Below w8.heap.size w8 (w8.alloc (.cells #[.int .i64 x.w, .int .u64 x.i, .int .i64 x.s, .int .i64 x.l] 59)) := (Below.refl _ _).alloc (Nat.le_refl _) _
      have HI : Hid (Calls Try.prog 30 #[.slice A' q.length c', .int .i64 ((pp : Nat) : Int), .slice (some ⟨w8.heap.size, 0, none⟩) 1 1] (w8.alloc (.cells #[.int .i64 x.w, .int .u64 x.i, .int .i64 x.s, .int .i64 x.l] 59)) (Inserts (w8.alloc (.cells #[.int .i64 x.w, .int .u64 x.i, .int .i64 x.s, .int .i64 x.l] 59)) w.heap.size (q.take pp ++ x :: q.drop pp))) :=
        Lib.hid (insert_any q x w.heap.size A' pp c' w8.heap.size _ (by have := HNN.out; omega) (HO8.out.on hbb) (by simp; omega) HPL.out (One1.new w8 x) (fun ad e => by
          subst e
          have := (HO8.out.ge ad.block rfl).2
          omega))
      have HB9 : Hid (Below w.heap.size w (w8.alloc (.cells #[.int .i64 x.w, .int .u64 x.i, .int .i64 x.s, .int .i64 x.l] 59))) := Lib.hid (HB8.out.trans (hbb.mono HB8.out.size))
      clear HIT HBT hbb HPL
      generalize hYS : q.take pp ++ x :: q.drop pp = YS at *
      clear hYS
      go_wp2_with (go_at_call 30; refine HI.out.mono ?_; rintro e w10 ⟨v', rfl, ho10, hb10⟩)
      refine bodyPost_ret (v := .tuple #[v', .int .i64 0]) (by simp [results, Try.results12, go_sem]) rfl ?_
      rw [HA'.out]
      exact givesQ ho10 (HB9.out.trans hb10)
    · rw [if_pos rfl] at HA'
      have hp1 := HIT.out rfl
      obtain ⟨g, c2, e, hg, hlt, hc2, hm2, hfz⟩ := HO8.out.opened (by omega)
      injection e with e1 _ e3
      subst e1; subst e3
      obtain ⟨o0, o1, o2, o3⟩ := HO8.out.cell pp hp1
      obtain ⟨m0, m1, m2⟩ := BN8.out
      rw [HNW.out.1] at m0
      rw [HNW.out.2.1] at m1
      rw [HNW.out.2.2] at m2
      have O1 : ∀ p : Regrown, (grow (redrawn w8 p.d) p.os).cell? ⟨g, pp * 4 + 1, none⟩ = some (.int .u64 (td q pp).i) := fun p => cell_regrown o1 p.d p.os
      have O2 : ∀ p : Regrown, (grow (redrawn w8 p.d) p.os).cell? ⟨g, pp * 4 + 2, none⟩ = some (.int .i64 (td q pp).s) := fun p => cell_regrown o2 p.d p.os
      have M1 : ∀ p : Regrown, (grow (redrawn w8 p.d) p.os).cell? ⟨w.heap.size, 1, none⟩ = some (.int .u64 x.i) := fun p => cell_regrown m1 p.d p.os
      have M2 : ∀ p : Regrown, (grow (redrawn w8 p.d) p.os).cell? ⟨w.heap.size, 2, none⟩ = some (.int .i64 x.s) := fun p => cell_regrown m2 p.d p.os
      have HBp : Hid (∀ p : Regrown, Calls Try.prog 31 #[.agg #[.int .u64 x.i, .int .i64 x.s], .agg #[.int .u64 (td q pp).i, .int .i64 (td q pp).s]] (grow (redrawn w8 p.d) p.os) fun e w' => e = .returned (.bool (beatsB x.k (td q pp).k)) ∧ Below (grow (redrawn w8 p.d) p.os).heap.size (grow (redrawn w8 p.d) p.os) w') := Lib.hid (fun p => HBT.out (td q pp) _)
      have HP := Lib.hid (show pp < q.length ∧ w.heap.size ≤ g ∧ g < w8.heap.size from ⟨hp1, hg, hlt⟩)
      have k0 : (0 : Int) ≤ (pp : Int) := by omega
      have k1 : (pp : Int) < (q.length : Int) := by omega
      have HF8 := Lib.hid hfz
      clear o0 o1 o2 o3 m0 m1 m2 HBT HIT HPL hg hlt hc2 hm2 hfz
      generalize td q pp = y at *
      generalize hbe : beatsB x.k y.k = be at *
      clear hbe
      go_upto_region 9 with (fail)
      refine q_enter (by kernel_rfl) (by kernel_rfl) ?_
      iterate 9 (refine q_step ?_; intro K hK; go_simp; first | (refine hK _ ?_; clear hK K) | (refine ⟨_, fun p => Calls.regrown_of (by with_reducible exact HBp.out p), hK _ ?_⟩; clear hK K))
      refine q_nil ?_
      intro w9 hb9
      have HB9 : Hid (Below w.heap.size w w9) := Lib.hid (HB8.out.trans (hb9.mono HB8.out.size))
      have HO9 := Lib.hid (HO8.out.on hb9)
      have BT9 := Lib.hid (BT8.out.on hb9)
      have hfz : ∀ o : Nat, w9.frozen? ⟨g, o, none⟩ = false := fun o => (World.frozen?_of_block (a := ⟨g, o, none⟩) (hb9.block g HP.out.2.2)).trans (HF8.out o)
      clear HB8 HO8 BT8 BN8 hb9 HBp O1 O2 M1 M2 HF8
      rcases be with _ | _
      · rw [if_neg (by simp)] at HA'
        clear hfz
        go_wp2_with fail
        refine bodyPost_ret (v := .tuple #[.slice (some ⟨g, 0, none⟩) q.length c', .int .i64 0]) (by simp [results, Try.results12, go_sem]) rfl ?_
        rw [HA'.out]
        exact givesQ HO9.out HB9.out
      · rw [if_pos rfl] at HA'
        obtain ⟨t0, t1, t2, t3⟩ := BT9.out
        obtain ⟨o0, o1, o2, o3⟩ := HO9.out.cell pp hp1
        have HOS := Lib.hid (HO9.out.set (i := pp) x)
        have HBS : Hid (Below w.heap.size w ((((w9.setCell ⟨g, pp * 4, none⟩ (.int .i64 x.w)).setCell ⟨g, pp * 4 + 1, none⟩ (.int .u64 x.i)).setCell ⟨g, pp * 4 + 2, none⟩ (.int .i64 x.s)).setCell ⟨g, pp * 4 + 3, none⟩ (.int .i64 x.l))) := Lib.hid ((((HB9.out.setCell (p := ⟨g, pp * 4, none⟩) HP.out.2.1 _).setCell (p := ⟨g, pp * 4 + 1, none⟩) HP.out.2.1 _).setCell (p := ⟨g, pp * 4 + 2, none⟩) HP.out.2.1 _).setCell (p := ⟨g, pp * 4 + 3, none⟩) HP.out.2.1 _)
        have HLS : Hid ((q.set pp x).length = q.length) := Lib.hid List.length_set
        clear HO9 HB9 BT9
        generalize hYS : q.set pp x = YS at *
        clear hYS
        go_upto_region 11 with (fail)
        generalize (((w9.setCell ⟨g, pp * 4, none⟩ (.int .i64 x.w)).setCell ⟨g, pp * 4 + 1, none⟩ (.int .u64 x.i)).setCell ⟨g, pp * 4 + 2, none⟩ (.int .i64 x.s)).setCell ⟨g, pp * 4 + 3, none⟩ (.int .i64 x.l) = w10 at *
        clear t0 t1 t2 t3 o0 o1 o2 o3 hfz
        go_wp2_with fail
        refine bodyPost_ret (v := .tuple #[.slice (some ⟨g, 0, none⟩) q.length c', .int .i64 0]) (by simp [results, Try.results12, go_sem]) rfl ?_
        rw [HA'.out]
        exact givesQ HOS.out HBS.out
  · obtain ⟨rfl, rfl⟩ := HYN.out hLM
    clear HY HYN HSE HA hLM
    go_wp2_with fail
    refine bodyPost_ret (v := .tuple #[v, .int .i64 1]) (by simp [results, Try.results12, go_sem]) rfl ?_
    exact givesQ HO7.out HB7.out
end Go.Proofs.Ytipepmnnjhhjbaa
