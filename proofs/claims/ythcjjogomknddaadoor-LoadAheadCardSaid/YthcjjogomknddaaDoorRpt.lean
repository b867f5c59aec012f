/-
  The walk of the document's Points.
-/
import Derived.Test.YthcjjogomknddaaDoorRef
namespace Go.Proofs.YthcjjogomknddaaDoor
open Go.Sort Go.RowKit Go.Proofs.YthcjjogomknddaaDoor.Pure

/-- The cells of block b hold x; they may be written. -/
def Vp (w : World) (b : Nat) (x : Pt) : Prop := Bt w b x ∧ ∀ o : Nat, w.frozen? ⟨b, o, none⟩ = false
section
variable {w w' : World} {b : Nat} {x : Pt}
theorem Vp.lt (h : Vp w b x) : b < w.heap.size := h.1.lt
theorem Vp.on (h : Vp w b x) (hb : Below w.heap.size w w') : Vp w' b x := ⟨h.1.on hb, fun o => (World.frozen?_of_block (a := ⟨b, o, none⟩) (hb.block b h.lt)).trans (h.2 o)⟩
theorem Vp.zero (w : World) : Vp (w.alloc (.cells #[.int .u64 0, .int .i64 0, .int .i64 0] 67)) w.heap.size z3 := ⟨Bt.new w z3 _, fun o => World.frozen?_alloc_new w _ _ o⟩
theorem Vp.set (h : Vp w b x) (y : Pt) : Vp (((w.setCell ⟨b, 0, none⟩ (.int .u64 y.h)).setCell ⟨b, 1, none⟩ (.int .i64 y.n)).setCell ⟨b, 2, none⟩ (.int .i64 y.i)) b y := by
  obtain ⟨⟨h0, h1, h2⟩, hf⟩ := h
  exact ⟨⟨by go_simp, by go_simp, by go_simp⟩, fun o => by go_simp⟩
end
theorem ps_rest {w : World} {A : Option Addr} {l : List Pt} (h : Ps w A l) (a c : Nat) (hc : l.length ≤ c) : Ps w (if c = a then A else Option.map (fun x => x.add (a * 3)) A) (l.drop a) := by
  by_cases he : c = a
  · rw [List.drop_of_length_le (by omega)]
    exact Ps.nil _ _
  · rw [if_neg he]
    rcases A with _ | ad
    · obtain rfl := h.none_nil
      rw [List.drop_nil]
      exact Ps.nil _ _
    · exact h.drop a
theorem ps_grown {w w' : World} {g : Nat} {l : List Pt} {row : Option Nat} (h : Ps w (some ⟨g, 0, none⟩) l) (hg : w.grownBy w' row) (hne : row ≠ some g) : Ps w' (some ⟨g, 0, none⟩) l := fun j hj => by
  obtain ⟨ad, e, h1, h2⟩ := h j hj
  injection e with e
  subst e
  exact ⟨_, rfl, Nat.lt_of_lt_of_le h1 hg.size, h2.keep fun p hp => World.cell?_of_block (by rw [hp, block_add]; exact hg.block _ h1 (fun e => hne e.symm))⟩
theorem run_appendPt (w : World) (ty : TypeId) (B : Nat) (v : Value) (xs : List Pt) (hown : OwnP w B v xs) (A : Option Addr) (c : Nat) (ys : List Pt) (hh : Ps w A ys) (hlen : xs.length + ys.length ≤ 100000) (hB : B ≤ w.heap.size) :
    ∃ v' w', (Builtin.append_ #[49, 49] ty #[v, .slice A ys.length c]).run Tryd.prog w = .ok v' w' ∧ OwnP w' B v' (xs ++ ys) ∧ w.grownBy w' v.ownBlock := by
  obtain ⟨i0, hi0, hz0, hz1, hz2⟩ := info_parts Tryd.infoPt
  rcases A with _ | ad
  · obtain rfl := hh.none_nil
    exact ⟨v, w, run_append_nothingPt w ty B v xs hown c i0 hi0, by simpa using hown, World.grownBy.refl _ _⟩
  · obtain ⟨v', w', h1, h2, h3, _⟩ := run_append_own (P := Tryd.prog) w B 49 ty 67 i0 (.agg #[.int .u64 0, .int .i64 0, .int .i64 0]) 3 24 Tryd.underlying49 hi0 hz0 hz1 hz2 rfl (by decide) v _ _ hown ad ys.length c (pss ys) (pss_len ys) hh.cells (pss_one ys) (by unfold maxLen; omega) (by omega) hB
    exact ⟨v', w', h1, by simpa [OwnP, pss_append] using h2, h3⟩
theorem wp_appendPt {w : World} {o : Oper} {a : Act} {K : Act → World → Prop} {Q : Exit → Act → World → Prop} (s x : Operand)
    (ho : o.op = .call { callee := .builtin .append, args := #[s, x], argTypes := #[49, 49] })
    (B : Nat) (v : Value) (xs : List Pt) (hs : a.eval s = v) (hown : OwnP w B v xs) (A : Option Addr) (c : Nat) (ys : List Pt) (hx : a.eval x = .slice A ys.length c) (hh : Ps w A ys)
    (hlen : xs.length + ys.length ≤ 100000) (hB : B ≤ w.heap.size)
    (h : ∀ v' w', OwnP w' B v' (xs ++ ys) → w.grownBy w' v.ownBlock → K (a.put o.dst v') w') : o.wp Tryd.prog a w K Q := by
  obtain ⟨v', w', hr, h2, h3⟩ := run_appendPt w o.type B v xs hown A c ys hh hlen hB
  unfold Oper.wp execOp
  simp only [ho, resolve, invoke, builtin, Sem.run_bind, Sem.run_pure, Result.andThen_ok, List.map_toArray, List.map_cons, List.map_nil, hs, hx, hr]
  exact h v' w' h2 h3
/-- The document's text of a point has the sum. -/
theorem rsum_point (g : Nat) (n i : Nat) (t : ByteArray) (ht : t = digS n ++ ⟨#[47]⟩ ++ digS i) (w : World) (h : w.cell? ⟨g, 0, none⟩ = some (.string t)) :
    Calls Tryd.prog 38 #[.slice (some ⟨g, 0, none⟩) 1 1] w fun e w' => e = .returned (.int .u64 (hashP n i)) ∧ w = w' := by
  have ha := dig_size n
  have hb := dig_size i
  have := rsum_key g t w h (by
    rw [ht, ByteArray.size_append, ByteArray.size_append]
    have e : (⟨#[47]⟩ : ByteArray).size = 1 := rfl
    omega)
  have e : sumK t = hashP n i := by
    unfold sumK hashP
    rw [ht, F.cat_flat, F.cat_flat, List.append_assoc]
    simp [digS, keyP]
  rw [e] at this
  exact this

set_option maxRecDepth 100000 in
set_option maxHeartbeats 4000000 in
theorem rpoints_any (A : Option Addr) (c lo hi : Nat) (xs : List Int) (s : Nat) (w : World) (h : Has w lo hi A xs) (hh : hi ≤ w.heap.size) (hL : numsB xs = true) (hs2 : s ≤ 32) :
    Calls Tryd.prog 27 #[.slice A xs.length c, .int .i64 (s : Int)] w fun e w' => ∃ v, e = .returned v ∧ OwnP w' w.heap.size v (foldI (rawP xs s)) ∧ Below w.heap.size w w' := by
  have hlen := nums_len xs hL
  have H := Lib.hid h
  have HX : Hid (∀ k, k < xs.length → ∃ n : Nat, xs.getD k 0 = (n : Int) ∧ n < 100) := Lib.hid fun k hk => by
    have := ((numsB_iff _).1 hL).1 _ (getD_mem xs k hk)
    exact ⟨(xs.getD k 0).toNat, by omega, by omega⟩
  have HR1 : Hid (foldI (rawAt xs s 0 0) = []) := Lib.hid (by rw [rawAt_zero]; rfl)
  have HR2 : Hid (∀ k i, foldI (rawAt xs s k (i + 1)) = insP (foldI (rawAt xs s k i)) (mkP (xs.getD k 0) i)) := Lib.hid (fun k i => by rw [rawAt_snoc, foldI_snoc])
  have HR3 : Hid (∀ k, k < xs.length → foldI (rawAt xs s k s) = foldI (rawAt xs s (k + 1) 0)) := Lib.hid (fun k hk => by rw [rawAt_next xs s k hk])
  have HR4 : Hid (foldI (rawAt xs s xs.length 0) = foldI (rawP xs s)) := Lib.hid (by rw [rawAt_all])
  have HR5 : Hid (∀ k i, k ≤ xs.length → i ≤ s → (foldI (rawAt xs s k i)).length ≤ 3000) := Lib.hid fun k i hk hi => by
    rw [foldI_len, rawAt_len xs s k i hk]
    have := Nat.mul_le_mul (Nat.le_trans hk hlen) hs2
    omega
  generalize foldI (rawP xs s) = R at *
  obtain ⟨RA, hRA⟩ : ∃ RA : Nat → Nat → List Pt, RA = fun k i => foldI (rawAt xs s k i) := ⟨_, rfl⟩
  have HRA : ∀ k i, foldI (rawAt xs s k i) = RA k i := fun k i => by rw [hRA]
  simp only [HRA] at HR1 HR2 HR3 HR4 HR5
  clear h hL HRA hRA
  go_enter Tryd.func27, Tryd.ntmps27
  go_wp2_with fail
  go_loopw [5, 6] (fun v i wr => ∃ k : Nat, i = .int .i64 k ∧ k ≤ xs.length ∧ Hid (OwnP wr w.heap.size v (RA k 0)) ∧ Hid (Below w.heap.size w wr)) (fun _ i _ => xs.length - (intOf i).toNat)
  case atStart => exact ⟨0, rfl, Nat.zero_le _, Lib.hid (by rw [HR1.out]; exact OwnP.nil _ _), Lib.hid (Below.refl _ _)⟩
  case round =>
    obtain ⟨k, rfl, hk, HO, HB⟩ := hrel
    by_cases hlt : k < xs.length
    · have k0 : (0 : Int) ≤ (k : Int) := by omega
      have k1 : (k : Int) < (xs.length : Int) := by omega
      obtain ⟨n, hxn, hn100⟩ := HX.out k hlt
      have HXN := Lib.hid hxn
      have HR2k := Lib.hid (fun i => HR2.out k i)
      have HR3k := Lib.hid (HR3.out k hlt)
      rw [hxn] at HR2k
      clear hxn
      go_wp2_with fail
      obtain ⟨wq, eq⟩ : ∃ wq, wq = wr := ⟨_, rfl⟩
      subst eq
      go_loopw [5, 7] (fun v i wr => ∃ j : Nat, i = .int .i64 j ∧ j ≤ s ∧ Hid (OwnP wr w.heap.size v (RA k j)) ∧ Hid (Below w.heap.size w wr)) (fun _ i _ => s - (intOf i).toNat)
      case atStart => exact ⟨0, rfl, Nat.zero_le _, HO, HB⟩
      case round =>
        clear HO HB
        obtain ⟨j, rfl, hj, HO, HB⟩ := hrel
        by_cases hjs : j < s
        · have j1 : (j : Int) < (s : Int) := by omega
          go_upto_region 8 with (fail)
          obtain ⟨ad, rfl, _, _, hc⟩ := (H.out.on HB.out hh) k hlt
          rw [HXN.out] at hc
          have HD1 := Lib.hid (fun W => rdig_any n W hn100)
          have HD2 := Lib.hid (fun W => rdig_any j W (by omega))
          have HSM := Lib.hid (fun g W => rsum_point g n j _ rfl W)
          have hsn := dig_size n
          have hsj := dig_size j
          have HM : Hid (mkP (n : Int) j = ⟨hashP n j, n, j⟩) := Lib.hid (by unfold mkP; simp)
          have HRj := Lib.hid (HR2k.out j)
          rw [HM.out] at HRj
          clear HM
          have HL5 := Lib.hid (HR5.out k j hk hj)
          generalize hashP n j = hz at *
          generalize digS n = sn at *
          generalize digS j = sj at *
          have z1 : sn.size + 1 ≤ 9223372036854775807 := by omega
          have z2 : ¬ 9223372036854775807 < sn.size + 1 := by omega
          have z3 : sn.size + 1 + sj.size ≤ 9223372036854775807 := by omega
          have z4 : ¬ 9223372036854775807 < sn.size + 1 + sj.size := by omega
          go_cut [8] from 21 to 37 (fun p wx => ∃ gp, p = .pointer (some ⟨gp, 0, none⟩) ∧ Hid (Vp wx gp ⟨hz, n, j⟩) ∧ Hid (Below wr.heap.size wr wx))
          case first =>
            have hS : ∀ w', Below wr.heap.size wr w' → w'.cell? (ad.add k) = some (.int .i64 (n : Int)) := fun w' hb => (hb.cell (World.block_lt_of_cell? _ _ hc)).trans hc
            refine p3_enter (.take 0 (.take 1 (.take 2 (.take 3 (.take 6 (.take 11 (.take 12 (.take 13 (.take 14 (.take 15 (.two 4 (.take 5 (.two 7 (.take 8 (.two 9 (.two 10 (.take 16 (.one 17 (.one 18 .done))) 17 (.one 10 (.take 16 (.one 18 .done)))) 17 (.one 9 (.one 10 (.take 16 (.one 18 .done)))))) 17 (.one 7 (.take 8 (.one 9 (.one 10 (.take 16 (.one 18 .done)))))))) 17 (.one 4 (.take 5 (.one 7 (.take 8 (.one 9 (.one 10 (.take 16 (.one 18 .done))))))))))))))))))) (fun w' => w'.cell? (ad.add k) = some (.int .i64 (n : Int))) (by kernel_rfl) (by kernel_rfl) (by kernel_rfl) (fun _ _ d _ _ h => by cases d <;> exact h) (hS _ (Below.refl _ _).drew) ?_
            simp only [pick3, opAt, List.drop_succ_cons, List.drop_zero]
            have hB_0 := Lib.hid ((Below.refl wr.heap.size wr).drew)
            have hz_0 : wr.heap.size ≤ wr.drew.heap.size := hB_0.out.size
            generalize wr.drew = wd at *
            clear hc
            iterate 10 (first | (refine' p3_yes ?_ (by rfl) ?_ ?_; rotate_left; (intro w' hS; (try dsimp only at hS); go_simp; try (with_reducible rfl)); simp only [Act.put, List.setIfInBounds_toArray, List.set_cons_zero, List.set_cons_succ]) | (refine p3_no (by rfl) ?_; simp only [Act.put, List.setIfInBounds_toArray, List.set_cons_zero, List.set_cons_succ]))
            refine p3_two ?_ ?_
            · intro KK hK
              go_simp
              refine (HD1.out _).mono ?_
              rintro e wc1 ⟨rfl, hbx⟩
              have hB_1 := Lib.hid (hB_0.out.trans (hbx.mono hz_0))
              have hz_1 : wr.heap.size ≤ wc1.heap.size := hB_1.out.size
              clear hbx hB_0
              refine hK.out _ _ (hS _ hB_1.out) ?_
              clear hK
              iterate 1 (first | (refine' p3_yes ?_ (by rfl) ?_ ?_; rotate_left; (intro w' hS; (try dsimp only at hS); go_simp; try (with_reducible rfl)); simp only [Act.put, List.setIfInBounds_toArray, List.set_cons_zero, List.set_cons_succ]) | (refine p3_no (by rfl) ?_; simp only [Act.put, List.setIfInBounds_toArray, List.set_cons_zero, List.set_cons_succ]))
              refine p3_two ?_ ?_
              · intro KK hK
                go_simp
                refine (HD2.out _).mono ?_
                rintro e wc2 ⟨rfl, hbx⟩
                have hB_2 := Lib.hid (hB_1.out.trans (hbx.mono hz_1))
                have hz_2 : wr.heap.size ≤ wc2.heap.size := hB_2.out.size
                clear hbx hB_1
                refine hK.out _ _ (hS _ hB_2.out) ?_
                clear hK
                iterate 1 (first | (refine' p3_yes ?_ (by rfl) ?_ ?_; rotate_left; (intro w' hS; (try dsimp only at hS); go_simp; try (with_reducible rfl)); simp only [Act.put, List.setIfInBounds_toArray, List.set_cons_zero, List.set_cons_succ]) | (refine p3_no (by rfl) ?_; simp only [Act.put, List.setIfInBounds_toArray, List.set_cons_zero, List.set_cons_succ]))
                refine p3_two ?_ ?_
                · intro KK hK
                  go_simp
                  have hbx : Below wc2.heap.size wc2 (wc2.alloc (.cells #[.string (sn ++ ⟨#[47]⟩ ++ sj)] 9)) := (Below.refl _ _).alloc (Nat.le_refl _) _
                  have hB_3 := Lib.hid (hB_2.out.trans (hbx.mono hz_2))
                  have hz_3 : wr.heap.size ≤ (wc2.alloc (.cells #[.string (sn ++ ⟨#[47]⟩ ++ sj)] 9)).heap.size := hB_3.out.size
                  have hs_3 : Hid ((wc2.alloc (.cells #[.string (sn ++ ⟨#[47]⟩ ++ sj)] 9)).cell? ⟨wc2.heap.size, 0, none⟩ = some (.string (sn ++ ⟨#[47]⟩ ++ sj))) := Lib.hid (by go_simp)
                  clear hbx hB_2
                  generalize wc2.alloc (.cells #[.string (sn ++ ⟨#[47]⟩ ++ sj)] 9) = wc3 at *
                  generalize wc2.heap.size = gs at *
                  refine hK.out _ _ (hS _ hB_3.out) ?_
                  clear hK
                  refine p3_two ?_ ?_
                  · intro KK hK
                    go_simp
                    refine (HSM.out _ _ hs_3.out).mono ?_
                    rintro e _ ⟨rfl, rfl⟩
                    have hB_4 := hB_3
                    have hz_4 := hz_3
                    clear hs_3
                    refine hK.out _ _ (hS _ hB_4.out) ?_
                    clear hK
                    iterate 1 (first | (refine' p3_yes ?_ (by rfl) ?_ ?_; rotate_left; (intro w' hS; (try dsimp only at hS); go_simp; try (with_reducible rfl)); simp only [Act.put, List.setIfInBounds_toArray, List.set_cons_zero, List.set_cons_succ]) | (refine p3_no (by rfl) ?_; simp only [Act.put, List.setIfInBounds_toArray, List.set_cons_zero, List.set_cons_succ]))
                    refine p3_one ?_
                    intro KK hK
                    go_simp
                    have hbx : Below wc3.heap.size wc3 (wc3.alloc (.cells #[.int .u64 0, .int .i64 0, .int .i64 0] 67)) := (Below.refl _ _).alloc (Nat.le_refl _) _
                    have hB_5 := Lib.hid (hB_4.out.trans (hbx.mono hz_4))
                    have hz_5 : wr.heap.size ≤ (wc3.alloc (.cells #[.int .u64 0, .int .i64 0, .int .i64 0] 67)).heap.size := hB_5.out.size
                    have hp_5 := Lib.hid (Vp.zero wc3)
                    clear hbx hB_4
                    have hgp : wr.heap.size ≤ wc3.heap.size := hz_4
                    generalize wc3.alloc (.cells #[.int .u64 0, .int .i64 0, .int .i64 0] 67) = wc5 at *
                    generalize wc3.heap.size = gp at *
                    refine hK.out _ _ (hS _ hB_5.out) ?_
                    clear hK
                    refine p3_one ?_
                    intro KK hK
                    obtain ⟨⟨u0, u1, u2⟩, uf⟩ := hp_5.out
                    have uf0 := uf 0
                    have uf1 := uf 1
                    have uf2 := uf 2
                    go_simp
                    have hp2 := Lib.hid (hp_5.out.set ⟨hz, n, j⟩)
                    have hB2 := Lib.hid (((hB_5.out.setCell (p := ⟨gp, 0, none⟩) hgp (.int .u64 hz)).setCell (p := ⟨gp, 1, none⟩) hgp (.int .i64 (n : Int))).setCell (p := ⟨gp, 2, none⟩) hgp (.int .i64 (j : Int)))
                    refine hK.out _ _ (hS _ hB2.out) ?_
                    clear hK u0 u1 u2 uf uf0 uf1 uf2
                    refine p3_done ?_
                    go_wp2_with fail
                    go_meet
                    exact ⟨gp, rfl, hp2, hB2⟩
                  · intro KK hK
                    go_simp
                    have hbx : Below wc3.heap.size wc3 (wc3.alloc (.cells #[.int .u64 0, .int .i64 0, .int .i64 0] 67)) := (Below.refl _ _).alloc (Nat.le_refl _) _
                    have hB_4 := Lib.hid (hB_3.out.trans (hbx.mono hz_3))
                    have hz_4 : wr.heap.size ≤ (wc3.alloc (.cells #[.int .u64 0, .int .i64 0, .int .i64 0] 67)).heap.size := hB_4.out.size
                    have hs_4 : Hid ((wc3.alloc (.cells #[.int .u64 0, .int .i64 0, .int .i64 0] 67)).cell? ⟨gs, 0, none⟩ = some (.string (sn ++ ⟨#[47]⟩ ++ sj))) := Lib.hid ((hbx.cell (World.block_lt_of_cell? _ _ hs_3.out)).trans hs_3.out)
                    have hp_4 := Lib.hid (Vp.zero wc3)
                    clear hbx hB_3 hs_3
                    have hgp : wr.heap.size ≤ wc3.heap.size := hz_3
                    generalize wc3.alloc (.cells #[.int .u64 0, .int .i64 0, .int .i64 0] 67) = wc4 at *
                    generalize wc3.heap.size = gp at *
                    refine hK.out _ _ (hS _ hB_4.out) ?_
                    clear hK
                    refine p3_one ?_
                    intro KK hK
                    go_simp
                    refine (HSM.out _ _ hs_4.out).mono ?_
                    rintro e _ ⟨rfl, rfl⟩
                    have hB_5 := hB_4
                    have hz_5 := hz_4
                    have hp_5 := hp_4
                    clear hs_4
                    refine hK.out _ _ (hS _ hB_5.out) ?_
                    clear hK
                    iterate 1 (first | (refine' p3_yes ?_ (by rfl) ?_ ?_; rotate_left; (intro w' hS; (try dsimp only at hS); go_simp; try (with_reducible rfl)); simp only [Act.put, List.setIfInBounds_toArray, List.set_cons_zero, List.set_cons_succ]) | (refine p3_no (by rfl) ?_; simp only [Act.put, List.setIfInBounds_toArray, List.set_cons_zero, List.set_cons_succ]))
                    refine p3_one ?_
                    intro KK hK
                    obtain ⟨⟨u0, u1, u2⟩, uf⟩ := hp_5.out
                    have uf0 := uf 0
                    have uf1 := uf 1
                    have uf2 := uf 2
                    go_simp
                    have hp2 := Lib.hid (hp_5.out.set ⟨hz, n, j⟩)
                    have hB2 := Lib.hid (((hB_5.out.setCell (p := ⟨gp, 0, none⟩) hgp (.int .u64 hz)).setCell (p := ⟨gp, 1, none⟩) hgp (.int .i64 (n : Int))).setCell (p := ⟨gp, 2, none⟩) hgp (.int .i64 (j : Int)))
                    refine hK.out _ _ (hS _ hB2.out) ?_
                    clear hK u0 u1 u2 uf uf0 uf1 uf2
                    refine p3_done ?_
                    go_wp2_with fail
                    go_meet
                    exact ⟨gp, rfl, hp2, hB2⟩
                · intro KK hK
                  go_simp
                  have hbx : Below wc2.heap.size wc2 (wc2.alloc (.cells #[.int .u64 0, .int .i64 0, .int .i64 0] 67)) := (Below.refl _ _).alloc (Nat.le_refl _) _
                  have hB_3 := Lib.hid (hB_2.out.trans (hbx.mono hz_2))
                  have hz_3 : wr.heap.size ≤ (wc2.alloc (.cells #[.int .u64 0, .int .i64 0, .int .i64 0] 67)).heap.size := hB_3.out.size
                  have hp_3 := Lib.hid (Vp.zero wc2)
                  clear hbx hB_2
                  have hgp : wr.heap.size ≤ wc2.heap.size := hz_2
                  generalize wc2.alloc (.cells #[.int .u64 0, .int .i64 0, .int .i64 0] 67) = wc3 at *
                  generalize wc2.heap.size = gp at *
                  refine hK.out _ _ (hS _ hB_3.out) ?_
                  clear hK
                  refine p3_one ?_
                  intro KK hK
                  go_simp
                  have hbx : Below wc3.heap.size wc3 (wc3.alloc (.cells #[.string (sn ++ ⟨#[47]⟩ ++ sj)] 9)) := (Below.refl _ _).alloc (Nat.le_refl _) _
                  have hB_4 := Lib.hid (hB_3.out.trans (hbx.mono hz_3))
                  have hz_4 : wr.heap.size ≤ (wc3.alloc (.cells #[.string (sn ++ ⟨#[47]⟩ ++ sj)] 9)).heap.size := hB_4.out.size
                  have hp_4 := Lib.hid (hp_3.out.on hbx)
                  have hs_4 : Hid ((wc3.alloc (.cells #[.string (sn ++ ⟨#[47]⟩ ++ sj)] 9)).cell? ⟨wc3.heap.size, 0, none⟩ = some (.string (sn ++ ⟨#[47]⟩ ++ sj))) := Lib.hid (by go_simp)
                  clear hbx hB_3 hp_3
                  generalize wc3.alloc (.cells #[.string (sn ++ ⟨#[47]⟩ ++ sj)] 9) = wc4 at *
                  generalize wc3.heap.size = gs at *
                  refine hK.out _ _ (hS _ hB_4.out) ?_
                  clear hK
                  refine p3_one ?_
                  intro KK hK
                  go_simp
                  refine (HSM.out _ _ hs_4.out).mono ?_
                  rintro e _ ⟨rfl, rfl⟩
                  have hB_5 := hB_4
                  have hz_5 := hz_4
                  have hp_5 := hp_4
                  clear hs_4
                  refine hK.out _ _ (hS _ hB_5.out) ?_
                  clear hK
                  iterate 1 (first | (refine' p3_yes ?_ (by rfl) ?_ ?_; rotate_left; (intro w' hS; (try dsimp only at hS); go_simp; try (with_reducible rfl)); simp only [Act.put, List.setIfInBounds_toArray, List.set_cons_zero, List.set_cons_succ]) | (refine p3_no (by rfl) ?_; simp only [Act.put, List.setIfInBounds_toArray, List.set_cons_zero, List.set_cons_succ]))
                  refine p3_one ?_
                  intro KK hK
                  obtain ⟨⟨u0, u1, u2⟩, uf⟩ := hp_5.out
                  have uf0 := uf 0
                  have uf1 := uf 1
                  have uf2 := uf 2
                  go_simp
                  have hp2 := Lib.hid (hp_5.out.set ⟨hz, n, j⟩)
                  have hB2 := Lib.hid (((hB_5.out.setCell (p := ⟨gp, 0, none⟩) hgp (.int .u64 hz)).setCell (p := ⟨gp, 1, none⟩) hgp (.int .i64 (n : Int))).setCell (p := ⟨gp, 2, none⟩) hgp (.int .i64 (j : Int)))
                  refine hK.out _ _ (hS _ hB2.out) ?_
                  clear hK u0 u1 u2 uf uf0 uf1 uf2
                  refine p3_done ?_
                  go_wp2_with fail
                  go_meet
                  exact ⟨gp, rfl, hp2, hB2⟩
              · intro KK hK
                go_simp
                have hbx : Below wc1.heap.size wc1 (wc1.alloc (.cells #[.int .u64 0, .int .i64 0, .int .i64 0] 67)) := (Below.refl _ _).alloc (Nat.le_refl _) _
                have hB_2 := Lib.hid (hB_1.out.trans (hbx.mono hz_1))
                have hz_2 : wr.heap.size ≤ (wc1.alloc (.cells #[.int .u64 0, .int .i64 0, .int .i64 0] 67)).heap.size := hB_2.out.size
                have hp_2 := Lib.hid (Vp.zero wc1)
                clear hbx hB_1
                have hgp : wr.heap.size ≤ wc1.heap.size := hz_1
                generalize wc1.alloc (.cells #[.int .u64 0, .int .i64 0, .int .i64 0] 67) = wc2 at *
                generalize wc1.heap.size = gp at *
                refine hK.out _ _ (hS _ hB_2.out) ?_
                clear hK
                refine p3_one ?_
                intro KK hK
                go_simp
                refine (HD2.out _).mono ?_
                rintro e wc3 ⟨rfl, hbx⟩
                have hB_3 := Lib.hid (hB_2.out.trans (hbx.mono hz_2))
                have hz_3 : wr.heap.size ≤ wc3.heap.size := hB_3.out.size
                have hp_3 := Lib.hid (hp_2.out.on hbx)
                clear hbx hB_2 hp_2
                refine hK.out _ _ (hS _ hB_3.out) ?_
                clear hK
                iterate 1 (first | (refine' p3_yes ?_ (by rfl) ?_ ?_; rotate_left; (intro w' hS; (try dsimp only at hS); go_simp; try (with_reducible rfl)); simp only [Act.put, List.setIfInBounds_toArray, List.set_cons_zero, List.set_cons_succ]) | (refine p3_no (by rfl) ?_; simp only [Act.put, List.setIfInBounds_toArray, List.set_cons_zero, List.set_cons_succ]))
                refine p3_one ?_
                intro KK hK
                go_simp
                have hbx : Below wc3.heap.size wc3 (wc3.alloc (.cells #[.string (sn ++ ⟨#[47]⟩ ++ sj)] 9)) := (Below.refl _ _).alloc (Nat.le_refl _) _
                have hB_4 := Lib.hid (hB_3.out.trans (hbx.mono hz_3))
                have hz_4 : wr.heap.size ≤ (wc3.alloc (.cells #[.string (sn ++ ⟨#[47]⟩ ++ sj)] 9)).heap.size := hB_4.out.size
                have hp_4 := Lib.hid (hp_3.out.on hbx)
                have hs_4 : Hid ((wc3.alloc (.cells #[.string (sn ++ ⟨#[47]⟩ ++ sj)] 9)).cell? ⟨wc3.heap.size, 0, none⟩ = some (.string (sn ++ ⟨#[47]⟩ ++ sj))) := Lib.hid (by go_simp)
                clear hbx hB_3 hp_3
                generalize wc3.alloc (.cells #[.string (sn ++ ⟨#[47]⟩ ++ sj)] 9) = wc4 at *
                generalize wc3.heap.size = gs at *
                refine hK.out _ _ (hS _ hB_4.out) ?_
                clear hK
                refine p3_one ?_
                intro KK hK
                go_simp
                refine (HSM.out _ _ hs_4.out).mono ?_
                rintro e _ ⟨rfl, rfl⟩
                have hB_5 := hB_4
                have hz_5 := hz_4
                have hp_5 := hp_4
                clear hs_4
                refine hK.out _ _ (hS _ hB_5.out) ?_
                clear hK
                iterate 1 (first | (refine' p3_yes ?_ (by rfl) ?_ ?_; rotate_left; (intro w' hS; (try dsimp only at hS); go_simp; try (with_reducible rfl)); simp only [Act.put, List.setIfInBounds_toArray, List.set_cons_zero, List.set_cons_succ]) | (refine p3_no (by rfl) ?_; simp only [Act.put, List.setIfInBounds_toArray, List.set_cons_zero, List.set_cons_succ]))
                refine p3_one ?_
                intro KK hK
                obtain ⟨⟨u0, u1, u2⟩, uf⟩ := hp_5.out
                have uf0 := uf 0
                have uf1 := uf 1
                have uf2 := uf 2
                go_simp
                have hp2 := Lib.hid (hp_5.out.set ⟨hz, n, j⟩)
                have hB2 := Lib.hid (((hB_5.out.setCell (p := ⟨gp, 0, none⟩) hgp (.int .u64 hz)).setCell (p := ⟨gp, 1, none⟩) hgp (.int .i64 (n : Int))).setCell (p := ⟨gp, 2, none⟩) hgp (.int .i64 (j : Int)))
                refine hK.out _ _ (hS _ hB2.out) ?_
                clear hK u0 u1 u2 uf uf0 uf1 uf2
                refine p3_done ?_
                go_wp2_with fail
                go_meet
                exact ⟨gp, rfl, hp2, hB2⟩
            · intro KK hK
              go_simp
              have hbx : Below wd.heap.size wd (wd.alloc (.cells #[.int .u64 0, .int .i64 0, .int .i64 0] 67)) := (Below.refl _ _).alloc (Nat.le_refl _) _
              have hB_1 := Lib.hid (hB_0.out.trans (hbx.mono hz_0))
              have hz_1 : wr.heap.size ≤ (wd.alloc (.cells #[.int .u64 0, .int .i64 0, .int .i64 0] 67)).heap.size := hB_1.out.size
              have hp_1 := Lib.hid (Vp.zero wd)
              clear hbx hB_0
              have hgp : wr.heap.size ≤ wd.heap.size := hz_0
              generalize wd.alloc (.cells #[.int .u64 0, .int .i64 0, .int .i64 0] 67) = wc1 at *
              generalize wd.heap.size = gp at *
              refine hK.out _ _ (hS _ hB_1.out) ?_
              clear hK
              refine p3_one ?_
              intro KK hK
              go_simp
              refine (HD1.out _).mono ?_
              rintro e wc2 ⟨rfl, hbx⟩
              have hB_2 := Lib.hid (hB_1.out.trans (hbx.mono hz_1))
              have hz_2 : wr.heap.size ≤ wc2.heap.size := hB_2.out.size
              have hp_2 := Lib.hid (hp_1.out.on hbx)
              clear hbx hB_1 hp_1
              refine hK.out _ _ (hS _ hB_2.out) ?_
              clear hK
              iterate 1 (first | (refine' p3_yes ?_ (by rfl) ?_ ?_; rotate_left; (intro w' hS; (try dsimp only at hS); go_simp; try (with_reducible rfl)); simp only [Act.put, List.setIfInBounds_toArray, List.set_cons_zero, List.set_cons_succ]) | (refine p3_no (by rfl) ?_; simp only [Act.put, List.setIfInBounds_toArray, List.set_cons_zero, List.set_cons_succ]))
              refine p3_one ?_
              intro KK hK
              go_simp
              refine (HD2.out _).mono ?_
              rintro e wc3 ⟨rfl, hbx⟩
              have hB_3 := Lib.hid (hB_2.out.trans (hbx.mono hz_2))
              have hz_3 : wr.heap.size ≤ wc3.heap.size := hB_3.out.size
              have hp_3 := Lib.hid (hp_2.out.on hbx)
              clear hbx hB_2 hp_2
              refine hK.out _ _ (hS _ hB_3.out) ?_
              clear hK
              iterate 1 (first | (refine' p3_yes ?_ (by rfl) ?_ ?_; rotate_left; (intro w' hS; (try dsimp only at hS); go_simp; try (with_reducible rfl)); simp only [Act.put, List.setIfInBounds_toArray, List.set_cons_zero, List.set_cons_succ]) | (refine p3_no (by rfl) ?_; simp only [Act.put, List.setIfInBounds_toArray, List.set_cons_zero, List.set_cons_succ]))
              refine p3_one ?_
              intro KK hK
              go_simp
              have hbx : Below wc3.heap.size wc3 (wc3.alloc (.cells #[.string (sn ++ ⟨#[47]⟩ ++ sj)] 9)) := (Below.refl _ _).alloc (Nat.le_refl _) _
              have hB_4 := Lib.hid (hB_3.out.trans (hbx.mono hz_3))
              have hz_4 : wr.heap.size ≤ (wc3.alloc (.cells #[.string (sn ++ ⟨#[47]⟩ ++ sj)] 9)).heap.size := hB_4.out.size
              have hp_4 := Lib.hid (hp_3.out.on hbx)
              have hs_4 : Hid ((wc3.alloc (.cells #[.string (sn ++ ⟨#[47]⟩ ++ sj)] 9)).cell? ⟨wc3.heap.size, 0, none⟩ = some (.string (sn ++ ⟨#[47]⟩ ++ sj))) := Lib.hid (by go_simp)
              clear hbx hB_3 hp_3
              generalize wc3.alloc (.cells #[.string (sn ++ ⟨#[47]⟩ ++ sj)] 9) = wc4 at *
              generalize wc3.heap.size = gs at *
              refine hK.out _ _ (hS _ hB_4.out) ?_
              clear hK
              refine p3_one ?_
              intro KK hK
              go_simp
              refine (HSM.out _ _ hs_4.out).mono ?_
              rintro e _ ⟨rfl, rfl⟩
              have hB_5 := hB_4
              have hz_5 := hz_4
              have hp_5 := hp_4
              clear hs_4
              refine hK.out _ _ (hS _ hB_5.out) ?_
              clear hK
              iterate 1 (first | (refine' p3_yes ?_ (by rfl) ?_ ?_; rotate_left; (intro w' hS; (try dsimp only at hS); go_simp; try (with_reducible rfl)); simp only [Act.put, List.setIfInBounds_toArray, List.set_cons_zero, List.set_cons_succ]) | (refine p3_no (by rfl) ?_; simp only [Act.put, List.setIfInBounds_toArray, List.set_cons_zero, List.set_cons_succ]))
              refine p3_one ?_
              intro KK hK
              obtain ⟨⟨u0, u1, u2⟩, uf⟩ := hp_5.out
              have uf0 := uf 0
              have uf1 := uf 1
              have uf2 := uf 2
              go_simp
              have hp2 := Lib.hid (hp_5.out.set ⟨hz, n, j⟩)
              have hB2 := Lib.hid (((hB_5.out.setCell (p := ⟨gp, 0, none⟩) hgp (.int .u64 hz)).setCell (p := ⟨gp, 1, none⟩) hgp (.int .i64 (n : Int))).setCell (p := ⟨gp, 2, none⟩) hgp (.int .i64 (j : Int)))
              refine hK.out _ _ (hS _ hB2.out) ?_
              clear hK u0 u1 u2 uf uf0 uf1 uf2
              refine p3_done ?_
              go_wp2_with fail
              go_meet
              exact ⟨gp, rfl, hp2, hB2⟩
          case rest =>
            obtain ⟨gp, rfl, HV, HC⟩ := hcut
            obtain ⟨we, ewe⟩ : ∃ we, we = wc := ⟨_, rfl⟩
            subst ewe
            have HO2 := Lib.hid (HO.out.on HC.out)
            have HB2 := Lib.hid (HB.out.trans (HC.out.mono HB.out.size))
            clear HO HB HC HSM HD1 HD2 z1 z2 z3 z4 hsn hsj
            generalize hX : RA k j = X at *
            clear hX
            obtain ⟨AX, cX, rfl, hcX, hXs⟩ := HO2.out.lst
            have HXs := Lib.hid hXs
            clear hXs
            have HPI : Hid (posI X ⟨hz, n, j⟩ ≤ X.length ∧ (∀ a, a < posI X ⟨hz, n, j⟩ → ltP (pt X a) ⟨hz, n, j⟩ = true) ∧ (posI X ⟨hz, n, j⟩ < X.length → ltP (pt X (posI X ⟨hz, n, j⟩)) ⟨hz, n, j⟩ = false)) := Lib.hid ⟨posI_le _ _, fun a => posI_lt _ _, posI_at _ _⟩
            have HIN : Hid (insP X ⟨hz, n, j⟩ = X.take (posI X ⟨hz, n, j⟩) ++ ([⟨hz, n, j⟩] ++ X.drop (posI X ⟨hz, n, j⟩))) := Lib.hid rfl
            have HLS := Lib.hid (fun (y : Pt) (W : World) => rless_any y ⟨hz, n, j⟩ W)
            generalize posI X ⟨hz, n, j⟩ = pi at *
            generalize hpv : (⟨hz, n, j⟩ : Pt) = pv at HIN HPI HLS HRj
            have HPV := Lib.hid hpv
            clear hpv
            go_wp2_with fail
            obtain ⟨wt, et⟩ : ∃ wt, wt = wr := ⟨_, rfl⟩
            subst et
            go_loopw [9] (fun i wr => ∃ a : Nat, i = .int .i64 a ∧ a ≤ pi ∧ Hid (Below we.heap.size we wr)) (fun i _ => X.length - (intOf i).toNat)
            case atStart => exact ⟨0, rfl, Nat.zero_le _, Lib.hid (Below.refl _ _)⟩
            case round =>
              obtain ⟨a, rfl, ha, HBA⟩ := hrel
              obtain ⟨T, hT⟩ : ∃ T : Bool, decide (a < pi) = T := ⟨_, rfl⟩
              have HVA := Lib.hid (HV.out.on HBA.out)
              have HTT : Hid (∀ h : a < X.length, ltP (pt X a) pv = T) := Lib.hid (fun h => by
                rw [← hT]
                rcases Nat.lt_or_ge a pi with h2 | h2
                · rw [HPI.out.2.1 a h2]; simpa using h2
                · obtain rfl : a = pi := by omega
                  rw [HPI.out.2.2 h]; simp)
              have hpl := HPI.out.1
              go_upto_region 10 with (fail)
              go_cut [49] from 38 to 49 (fun b wx => b = .bool T ∧ Hid (Below wr.heap.size wr wx))
              case first =>
                by_cases hlt2 : a < X.length
                · have a0 : (0 : Int) ≤ (a : Int) := by omega
                  have a1 : (a : Int) < (X.length : Int) := by omega
                  have e0 : decide ((a : Int) < (X.length : Int)) = true := decide_eq_true a1
                  have e0' : decide (a < X.length) = true := decide_eq_true hlt2
                  obtain ⟨ad2, rfl, hlo2, h2⟩ := (HXs.out.on HBA.out) a hlt2
                  obtain ⟨c0, c1, c2⟩ := h2.flat
                  obtain ⟨b0, b1, b2⟩ := HVA.out.1
                  have HLp := Lib.hid (fun p : Regrown => HLS.out (pt X a) (grow (redrawn wr p.d) p.os))
                  rw [HTT.out hlt2] at HLp
                  have HPE : Hid (pv.h = hz ∧ pv.n = (n : Int) ∧ pv.i = (j : Int)) := Lib.hid (by rw [← HPV.out]; exact ⟨rfl, rfl, rfl⟩)
                  rw [HPE.out.1, HPE.out.2.1, HPE.out.2.2] at HLp
                  generalize pt X a = y at *
                  clear h2 HPE
                  have C0 : ∀ p : Regrown, (grow (redrawn wr p.d) p.os).cell? (ad2.add (a * 3)) = some (.int .u64 y.h) := fun p => cell_regrown c0 p.d p.os
                  have C1 : ∀ p : Regrown, (grow (redrawn wr p.d) p.os).cell? ⟨(ad2.add (a * 3)).block, (ad2.add (a * 3)).off + 1, none⟩ = some (.int .i64 y.n) := fun p => cell_regrown c1 p.d p.os
                  have C2 : ∀ p : Regrown, (grow (redrawn wr p.d) p.os).cell? ⟨(ad2.add (a * 3)).block, (ad2.add (a * 3)).off + 2, none⟩ = some (.int .i64 y.i) := fun p => cell_regrown c2 p.d p.os
                  have B0 : ∀ p : Regrown, (grow (redrawn wr p.d) p.os).cell? ⟨gp, 0, none⟩ = some (.int .u64 hz) := fun p => cell_regrown b0 p.d p.os
                  have B1 : ∀ p : Regrown, (grow (redrawn wr p.d) p.os).cell? ⟨gp, 1, none⟩ = some (.int .i64 (n : Int)) := fun p => cell_regrown b1 p.d p.os
                  have B2 : ∀ p : Regrown, (grow (redrawn wr p.d) p.os).cell? ⟨gp, 2, none⟩ = some (.int .i64 (j : Int)) := fun p => cell_regrown b2 p.d p.os
                  clear c0 c1 c2 b0 b1 b2
                  refine q_enter (by kernel_rfl) (by kernel_rfl) ?_
                  iterate 12 (refine q_step ?_; intro K hK; go_simp; first | (refine hK _ ?_; clear hK K) | (refine ⟨_, fun p => Calls.regrown_of (by with_reducible exact HLp.out p), hK _ ?_⟩; clear hK K))
                  refine q_nil ?_
                  intro wz hbz
                  go_wp2_with fail
                  go_meet
                  exact ⟨rfl, Lib.hid hbz⟩
                · have e0 : decide ((a : Int) < (X.length : Int)) = false := decide_eq_false (by omega)
                  have e0' : decide (a < X.length) = false := decide_eq_false hlt2
                  have hTf : T = false := by rw [← hT]; simp; omega
                  subst hTf
                  refine q_enter (by kernel_rfl) (by kernel_rfl) ?_
                  iterate 12 (refine q_step ?_; intro K hK; go_simp; refine hK _ ?_; clear hK K)
                  refine q_nil ?_
                  intro wz hbz
                  go_wp2_with fail
                  go_meet
                  exact ⟨rfl, Lib.hid hbz⟩
              case rest =>
                obtain ⟨rfl, hbq⟩ := hcut
                have HBC : Hid (Below we.heap.size we wc) := Lib.hid (HBA.out.trans (hbq.out.mono HBA.out.size))
                clear HBA hbq HVA HTT HLS
                rcases T with _ | _
                · obtain rfl : a = pi := by simp at hT; omega
                  clear hT
                  have HV3 := Lib.hid (HV.out.on HBC.out)
                  have HO3 := Lib.hid (HO2.out.on HBC.out)
                  have HX3 := Lib.hid (HXs.out.on HBC.out)
                  have HB3 := Lib.hid (HB2.out.trans (HBC.out.mono HB2.out.size))
                  clear HV HO2 HXs HB2 HBC
                  have hl5 := HL5.out
                  have a0 : (0 : Int) ≤ (a : Int) := by omega
                  have a1 : (a : Int) ≤ (cX : Int) := by omega
                  have a2 : (a : Int) ≤ (X.length : Int) := by omega
                  go_upto_region 12 with (fail)
                  obtain ⟨b0, b1, b2⟩ := HV3.out.1
                  refine p3_enter (.take 1 (.take 2 (.take 3 (.take 5 (.take 8 (.take 9 (.take 10 (.two 0 (.two 4 (.one 6 (.one 7 (.one 11 (.take 12 .done)))) 6 (.one 4 (.one 7 (.one 11 (.take 12 .done))))) 6 (.one 0 (.one 4 (.one 7 (.one 11 (.take 12 .done))))))))))))) (fun w' => w'.cell? ⟨gp, 0, none⟩ = some (.int .u64 hz) ∧ w'.cell? ⟨gp, 1, none⟩ = some (.int .i64 (n : Int)) ∧ w'.cell? ⟨gp, 2, none⟩ = some (.int .i64 (j : Int))) (by kernel_rfl) (by kernel_rfl) (by kernel_rfl) (fun _ _ d _ _ h => by cases d <;> exact h) ⟨b0, b1, b2⟩ ?_
                  simp only [pick3, opAt, List.drop_succ_cons, List.drop_zero]
                  have HX4 : Hid (Ps wc.drew AX X) := Lib.hid HX3.out
                  have HB4 : Hid (Below w.heap.size w wc.drew) := Lib.hid HB3.out.drew
                  have HV4 : Hid (Bt wc.drew gp ⟨hz, n, j⟩) := Lib.hid HV3.out.1
                  have HPD : Hid (Ps wc.drew (if cX = a then AX else Option.map (fun x => x.add (a * 3)) AX) (X.drop a)) := Lib.hid (ps_rest HX4.out a cX hcX)
                  have HTK : Hid ((X.take a).length = a) := Lib.hid (by simp; omega)
                  have HDL : Hid ((X.drop a).length = X.length - a) := Lib.hid (by simp)
                  have hS : ∀ w', Below wc.drew.heap.size wc.drew w' → w'.cell? ⟨gp, 0, none⟩ = some (.int .u64 hz) ∧ w'.cell? ⟨gp, 1, none⟩ = some (.int .i64 (n : Int)) ∧ w'.cell? ⟨gp, 2, none⟩ = some (.int .i64 (j : Int)) := fun w' hb => HV4.out.on hb
                  clear HX3 HB3 HV3 HO3 b0 b1 b2
                  generalize wc.drew = wd at *
                  have HXc : Hid (∀ w', Below wd.heap.size wd w' → Ps w' AX X) := Lib.hid (fun w' hb => HX4.out.on hb)
                  have HPc : Hid (∀ w', Below wd.heap.size wd w' → Ps w' (if cX = a then AX else Option.map (fun x => x.add (a * 3)) AX) (X.drop a)) := Lib.hid (fun w' hb => HPD.out.on hb)
                  have HBc : Hid (∀ w', Below wd.heap.size wd w' → Below w.heap.size w w') := Lib.hid (fun w' hb => HB4.out.trans (hb.mono HB4.out.size))
                  have HSc : Hid (w.heap.size ≤ wd.heap.size) := Lib.hid HB4.out.size
                  obtain ⟨B0, hB0⟩ : ∃ B0, wd.heap.size = B0 := ⟨_, rfl⟩
                  rw [hB0] at HXc HPc HBc HSc hS
                  have hB_0 : Hid (Below B0 wd wd) := Lib.hid (Below.refl B0 wd)
                  have hz_0 : B0 ≤ wd.heap.size := Nat.le_of_eq hB0.symm
                  clear HX4 HPD HB4 HV4 hB0
                  iterate 7 (first | (refine' p3_yes ?_ (by rfl) ?_ ?_; rotate_left; (intro w' hS; (try dsimp only at hS); go_simp; try (with_reducible rfl)); simp only [Act.put, List.setIfInBounds_toArray, List.set_cons_zero, List.set_cons_succ]) | (refine p3_no (by rfl) ?_; simp only [Act.put, List.setIfInBounds_toArray, List.set_cons_zero, List.set_cons_succ]))
                  generalize hAD : (if cX = a then AX else Option.map (fun x => x.add (a * 3)) AX) = AD at *
                  clear hAD
                  refine p3_two ?_ ?_
                  · intro KK hK
                    go_simp
                    have hbx : Below wd.heap.size wd (wd.alloc (.cells #[] 67)) := (Below.refl _ _).alloc (Nat.le_refl _) _
                    have hB_1 := Lib.hid (hB_0.out.trans (hbx.mono hz_0))
                    have hz_1 : B0 ≤ (wd.alloc (.cells #[] 67)).heap.size := Nat.le_trans hz_0 hbx.size
                    have ho_1 : Hid (OwnP (wd.alloc (.cells #[] 67)) B0 (.slice (some ⟨wd.heap.size, 0, none⟩) 0 0) []) := Lib.hid (World.ownsRow_made wd #[] 0 hz_0 (Nat.zero_le _) rfl)
                    clear hbx hB_0
                    generalize wd.alloc (.cells #[] 67) = we1 at *
                    generalize wd.heap.size = ge at *
                    refine hK.out _ _ (hS _ hB_1.out) ?_
                    clear hK
                    refine p3_two ?_ ?_
                    · intro KK hK
                      rw [if_pos (by rfl)]
                      refine wp_appendPt _ _ rfl B0 (.slice (some ⟨ge, 0, none⟩) 0 0) [] rfl ho_1.out AX cX (X.take a) (by rw [HTK.out]; rfl) (((HXc.out _ hB_1.out).take a)) (by have := HL5.out; simp; omega) hz_1 ?_
                      intro v2 we2 hown hgrow
                      have hB_2 := Lib.hid (below_grownP hB_1.out ho_1.out hgrow hz_1)
                      have hz_2 : B0 ≤ we2.heap.size := Nat.le_trans hz_1 hgrow.size
                      rw [List.nil_append] at hown
                      have ho_2 := Lib.hid hown
                      clear hown hgrow hB_1 ho_1
                      refine hK.out _ _ (hS _ hB_2.out) ?_
                      clear hK
                      simp only [Act.put, List.setIfInBounds_toArray, List.set_cons_zero, List.set_cons_succ]
                      refine p3_one ?_
                      intro KK hK
                      go_simp
                      have hbx : Below we2.heap.size we2 (we2.alloc (.cells #[.int .u64 hz, .int .i64 (n : Int), .int .i64 (j : Int)] 67)) := (Below.refl _ _).alloc (Nat.le_refl _) _
                      have hB_3 := Lib.hid (hB_2.out.trans (hbx.mono hz_2))
                      have hz_3 : B0 ≤ (we2.alloc (.cells #[.int .u64 hz, .int .i64 (n : Int), .int .i64 (j : Int)] 67)).heap.size := Nat.le_trans hz_2 hbx.size
                      have ho_3 := Lib.hid (ho_2.out.on hbx)
                      have hp_3 : Hid (Ps (we2.alloc (.cells #[.int .u64 hz, .int .i64 (n : Int), .int .i64 (j : Int)] 67)) (some ⟨we2.heap.size, 0, none⟩) [⟨hz, n, j⟩]) := Lib.hid (Ps.one we2 ⟨hz, n, j⟩ _)
                      clear hbx hB_2 ho_2
                      generalize we2.alloc (.cells #[.int .u64 hz, .int .i64 (n : Int), .int .i64 (j : Int)] 67) = we3 at *
                      generalize we2.heap.size = gb at *
                      refine hK.out _ _ (hS _ hB_3.out) ?_
                      clear hK
                      refine p3_one ?_
                      intro KK hK
                      rw [if_pos (by rfl)]
                      refine wp_appendPt _ _ rfl B0 (v2) (X.take a) rfl ho_3.out (some ⟨gb, 0, none⟩) 1 [⟨hz, n, j⟩] rfl hp_3.out (by have := HL5.out; simp; omega) hz_3 ?_
                      intro v4 we4 hown hgrow
                      have hB_4 := Lib.hid (below_grownP hB_3.out ho_3.out hgrow hz_3)
                      have hz_4 : B0 ≤ we4.heap.size := Nat.le_trans hz_3 hgrow.size
                      have ho_4 := Lib.hid hown
                      clear hown hgrow hB_3 ho_3 hp_3
                      refine hK.out _ _ (hS _ hB_4.out) ?_
                      clear hK
                      simp only [Act.put, List.setIfInBounds_toArray, List.set_cons_zero, List.set_cons_succ]
                      refine p3_one ?_
                      intro KK hK
                      rw [if_pos (by rfl)]
                      refine wp_appendPt _ _ rfl B0 (v4) ((X.take a) ++ [⟨hz, n, j⟩]) rfl ho_4.out AD (cX - a) (X.drop a) (by rw [HDL.out]; rfl) (HPc.out _ hB_4.out) (by have := HL5.out; simp; omega) hz_4 ?_
                      intro v5 we5 hown hgrow
                      have hB_5 := Lib.hid (below_grownP hB_4.out ho_4.out hgrow hz_4)
                      have hz_5 : B0 ≤ we5.heap.size := Nat.le_trans hz_4 hgrow.size
                      have ho_5 := Lib.hid hown
                      clear hown hgrow hB_4 ho_4
                      refine hK.out _ _ (hS _ hB_5.out) ?_
                      clear hK
                      simp only [Act.put, List.setIfInBounds_toArray, List.set_cons_zero, List.set_cons_succ]
                      iterate 1 (first | (refine' p3_yes ?_ (by rfl) ?_ ?_; rotate_left; (intro w' hS; (try dsimp only at hS); go_simp; try (with_reducible rfl)); simp only [Act.put, List.setIfInBounds_toArray, List.set_cons_zero, List.set_cons_succ]) | (refine p3_no (by rfl) ?_; simp only [Act.put, List.setIfInBounds_toArray, List.set_cons_zero, List.set_cons_succ]))
                      refine p3_done ?_
                      go_wp2_with fail
                      go_roundw
                      case rel => exact ⟨j + 1, by go_num, by omega, Lib.hid (by rw [HRj.out, HIN.out, ← HPV.out, ← List.append_assoc]; exact ho_5.out.mono HSc.out), Lib.hid (HBc.out _ hB_5.out)⟩
                      case measure => simp [intOf]; omega
                    · intro KK hK
                      go_simp
                      have hbx : Below we1.heap.size we1 (we1.alloc (.cells #[.int .u64 hz, .int .i64 (n : Int), .int .i64 (j : Int)] 67)) := (Below.refl _ _).alloc (Nat.le_refl _) _
                      have hB_2 := Lib.hid (hB_1.out.trans (hbx.mono hz_1))
                      have hz_2 : B0 ≤ (we1.alloc (.cells #[.int .u64 hz, .int .i64 (n : Int), .int .i64 (j : Int)] 67)).heap.size := Nat.le_trans hz_1 hbx.size
                      have hne : Hid (ge ≠ we1.heap.size) := Lib.hid (Nat.ne_of_lt (ho_1.out.ge ge rfl).2)
                      have ho_2 := Lib.hid (ho_1.out.on hbx)
                      have hp_2 : Hid (Ps (we1.alloc (.cells #[.int .u64 hz, .int .i64 (n : Int), .int .i64 (j : Int)] 67)) (some ⟨we1.heap.size, 0, none⟩) [⟨hz, n, j⟩]) := Lib.hid (Ps.one we1 ⟨hz, n, j⟩ _)
                      clear hbx hB_1 ho_1
                      generalize we1.alloc (.cells #[.int .u64 hz, .int .i64 (n : Int), .int .i64 (j : Int)] 67) = we2 at *
                      generalize we1.heap.size = gb at *
                      refine hK.out _ _ (hS _ hB_2.out) ?_
                      clear hK
                      refine p3_one ?_
                      intro KK hK
                      rw [if_pos (by rfl)]
                      refine wp_appendPt _ _ rfl B0 (.slice (some ⟨ge, 0, none⟩) 0 0) [] rfl ho_2.out AX cX (X.take a) (by rw [HTK.out]; rfl) (((HXc.out _ hB_2.out).take a)) (by have := HL5.out; simp; omega) hz_2 ?_
                      intro v3 we3 hown hgrow
                      have hB_3 := Lib.hid (below_grownP hB_2.out ho_2.out hgrow hz_2)
                      have hz_3 : B0 ≤ we3.heap.size := Nat.le_trans hz_2 hgrow.size
                      have hp_3 : Hid (Ps we3 (some ⟨gb, 0, none⟩) [⟨hz, n, j⟩]) := Lib.hid (ps_grown hp_2.out hgrow (by show some ge ≠ some gb; intro e; injection e with e; exact hne.out e))
                      rw [List.nil_append] at hown
                      have ho_3 := Lib.hid hown
                      clear hown hgrow hB_2 ho_2 hp_2
                      refine hK.out _ _ (hS _ hB_3.out) ?_
                      clear hK
                      simp only [Act.put, List.setIfInBounds_toArray, List.set_cons_zero, List.set_cons_succ]
                      refine p3_one ?_
                      intro KK hK
                      rw [if_pos (by rfl)]
                      refine wp_appendPt _ _ rfl B0 (v3) (X.take a) rfl ho_3.out (some ⟨gb, 0, none⟩) 1 [⟨hz, n, j⟩] rfl hp_3.out (by have := HL5.out; simp; omega) hz_3 ?_
                      intro v4 we4 hown hgrow
                      have hB_4 := Lib.hid (below_grownP hB_3.out ho_3.out hgrow hz_3)
                      have hz_4 : B0 ≤ we4.heap.size := Nat.le_trans hz_3 hgrow.size
                      have ho_4 := Lib.hid hown
                      clear hown hgrow hB_3 ho_3 hp_3
                      refine hK.out _ _ (hS _ hB_4.out) ?_
                      clear hK
                      simp only [Act.put, List.setIfInBounds_toArray, List.set_cons_zero, List.set_cons_succ]
                      refine p3_one ?_
                      intro KK hK
                      rw [if_pos (by rfl)]
                      refine wp_appendPt _ _ rfl B0 (v4) ((X.take a) ++ [⟨hz, n, j⟩]) rfl ho_4.out AD (cX - a) (X.drop a) (by rw [HDL.out]; rfl) (HPc.out _ hB_4.out) (by have := HL5.out; simp; omega) hz_4 ?_
                      intro v5 we5 hown hgrow
                      have hB_5 := Lib.hid (below_grownP hB_4.out ho_4.out hgrow hz_4)
                      have hz_5 : B0 ≤ we5.heap.size := Nat.le_trans hz_4 hgrow.size
                      have ho_5 := Lib.hid hown
                      clear hown hgrow hB_4 ho_4
                      refine hK.out _ _ (hS _ hB_5.out) ?_
                      clear hK
                      simp only [Act.put, List.setIfInBounds_toArray, List.set_cons_zero, List.set_cons_succ]
                      iterate 1 (first | (refine' p3_yes ?_ (by rfl) ?_ ?_; rotate_left; (intro w' hS; (try dsimp only at hS); go_simp; try (with_reducible rfl)); simp only [Act.put, List.setIfInBounds_toArray, List.set_cons_zero, List.set_cons_succ]) | (refine p3_no (by rfl) ?_; simp only [Act.put, List.setIfInBounds_toArray, List.set_cons_zero, List.set_cons_succ]))
                      refine p3_done ?_
                      go_wp2_with fail
                      go_roundw
                      case rel => exact ⟨j + 1, by go_num, by omega, Lib.hid (by rw [HRj.out, HIN.out, ← HPV.out, ← List.append_assoc]; exact ho_5.out.mono HSc.out), Lib.hid (HBc.out _ hB_5.out)⟩
                      case measure => simp [intOf]; omega
                  · intro KK hK
                    go_simp
                    have hbx : Below wd.heap.size wd (wd.alloc (.cells #[.int .u64 hz, .int .i64 (n : Int), .int .i64 (j : Int)] 67)) := (Below.refl _ _).alloc (Nat.le_refl _) _
                    have hB_1 := Lib.hid (hB_0.out.trans (hbx.mono hz_0))
                    have hz_1 : B0 ≤ (wd.alloc (.cells #[.int .u64 hz, .int .i64 (n : Int), .int .i64 (j : Int)] 67)).heap.size := Nat.le_trans hz_0 hbx.size
                    have hp_1 : Hid (Ps (wd.alloc (.cells #[.int .u64 hz, .int .i64 (n : Int), .int .i64 (j : Int)] 67)) (some ⟨wd.heap.size, 0, none⟩) [⟨hz, n, j⟩]) := Lib.hid (Ps.one wd ⟨hz, n, j⟩ _)
                    clear hbx hB_0
                    generalize wd.alloc (.cells #[.int .u64 hz, .int .i64 (n : Int), .int .i64 (j : Int)] 67) = we1 at *
                    generalize wd.heap.size = gb at *
                    refine hK.out _ _ (hS _ hB_1.out) ?_
                    clear hK
                    refine p3_one ?_
                    intro KK hK
                    go_simp
                    have hbx : Below we1.heap.size we1 (we1.alloc (.cells #[] 67)) := (Below.refl _ _).alloc (Nat.le_refl _) _
                    have hB_2 := Lib.hid (hB_1.out.trans (hbx.mono hz_1))
                    have hz_2 : B0 ≤ (we1.alloc (.cells #[] 67)).heap.size := Nat.le_trans hz_1 hbx.size
                    have hne : Hid (we1.heap.size ≠ gb) := Lib.hid (by obtain ⟨ad2, e2, h2, _⟩ := hp_1.out 0 (by simp); injection e2 with e2; subst e2; exact Nat.ne_of_gt h2)
                    have hp_2 := Lib.hid (hp_1.out.on hbx)
                    have ho_2 : Hid (OwnP (we1.alloc (.cells #[] 67)) B0 (.slice (some ⟨we1.heap.size, 0, none⟩) 0 0) []) := Lib.hid (World.ownsRow_made we1 #[] 0 hz_1 (Nat.zero_le _) rfl)
                    clear hbx hB_1 hp_1
                    generalize we1.alloc (.cells #[] 67) = we2 at *
                    generalize we1.heap.size = ge at *
                    refine hK.out _ _ (hS _ hB_2.out) ?_
                    clear hK
                    refine p3_one ?_
                    intro KK hK
                    rw [if_pos (by rfl)]
                    refine wp_appendPt _ _ rfl B0 (.slice (some ⟨ge, 0, none⟩) 0 0) [] rfl ho_2.out AX cX (X.take a) (by rw [HTK.out]; rfl) (((HXc.out _ hB_2.out).take a)) (by have := HL5.out; simp; omega) hz_2 ?_
                    intro v3 we3 hown hgrow
                    have hB_3 := Lib.hid (below_grownP hB_2.out ho_2.out hgrow hz_2)
                    have hz_3 : B0 ≤ we3.heap.size := Nat.le_trans hz_2 hgrow.size
                    have hp_3 : Hid (Ps we3 (some ⟨gb, 0, none⟩) [⟨hz, n, j⟩]) := Lib.hid (ps_grown hp_2.out hgrow (by show some ge ≠ some gb; intro e; injection e with e; exact hne.out e))
                    rw [List.nil_append] at hown
                    have ho_3 := Lib.hid hown
                    clear hown hgrow hB_2 ho_2 hp_2
                    refine hK.out _ _ (hS _ hB_3.out) ?_
                    clear hK
                    simp only [Act.put, List.setIfInBounds_toArray, List.set_cons_zero, List.set_cons_succ]
                    refine p3_one ?_
                    intro KK hK
                    rw [if_pos (by rfl)]
                    refine wp_appendPt _ _ rfl B0 (v3) (X.take a) rfl ho_3.out (some ⟨gb, 0, none⟩) 1 [⟨hz, n, j⟩] rfl hp_3.out (by have := HL5.out; simp; omega) hz_3 ?_
                    intro v4 we4 hown hgrow
                    have hB_4 := Lib.hid (below_grownP hB_3.out ho_3.out hgrow hz_3)
                    have hz_4 : B0 ≤ we4.heap.size := Nat.le_trans hz_3 hgrow.size
                    have ho_4 := Lib.hid hown
                    clear hown hgrow hB_3 ho_3 hp_3
                    refine hK.out _ _ (hS _ hB_4.out) ?_
                    clear hK
                    simp only [Act.put, List.setIfInBounds_toArray, List.set_cons_zero, List.set_cons_succ]
                    refine p3_one ?_
                    intro KK hK
                    rw [if_pos (by rfl)]
                    refine wp_appendPt _ _ rfl B0 (v4) ((X.take a) ++ [⟨hz, n, j⟩]) rfl ho_4.out AD (cX - a) (X.drop a) (by rw [HDL.out]; rfl) (HPc.out _ hB_4.out) (by have := HL5.out; simp; omega) hz_4 ?_
                    intro v5 we5 hown hgrow
                    have hB_5 := Lib.hid (below_grownP hB_4.out ho_4.out hgrow hz_4)
                    have hz_5 : B0 ≤ we5.heap.size := Nat.le_trans hz_4 hgrow.size
                    have ho_5 := Lib.hid hown
                    clear hown hgrow hB_4 ho_4
                    refine hK.out _ _ (hS _ hB_5.out) ?_
                    clear hK
                    simp only [Act.put, List.setIfInBounds_toArray, List.set_cons_zero, List.set_cons_succ]
                    iterate 1 (first | (refine' p3_yes ?_ (by rfl) ?_ ?_; rotate_left; (intro w' hS; (try dsimp only at hS); go_simp; try (with_reducible rfl)); simp only [Act.put, List.setIfInBounds_toArray, List.set_cons_zero, List.set_cons_succ]) | (refine p3_no (by rfl) ?_; simp only [Act.put, List.setIfInBounds_toArray, List.set_cons_zero, List.set_cons_succ]))
                    refine p3_done ?_
                    go_wp2_with fail
                    go_roundw
                    case rel => exact ⟨j + 1, by go_num, by omega, Lib.hid (by rw [HRj.out, HIN.out, ← HPV.out, ← List.append_assoc]; exact ho_5.out.mono HSc.out), Lib.hid (HBc.out _ hB_5.out)⟩
                    case measure => simp [intOf]; omega
                · have hap : a < pi := by simpa using hT
                  have hl5 := HL5.out
                  clear hT HPI
                  go_wp2_with fail
                  go_roundw
                  case rel => exact ⟨a + 1, by go_num, by omega, HBC⟩
                  case measure => simp [intOf]; omega
        · obtain rfl : j = s := by omega
          clear HX HR2k
          go_wp2_with fail
          go_roundw
          case rel => exact ⟨k + 1, by go_num, by omega, Lib.hid (by rw [← HR3k.out]; exact HO.out), HB⟩
          case measure => simp [intOf]; omega
    · obtain rfl : k = xs.length := by omega
      rw [HR4.out] at HO
      clear HX HR2 HR3
      go_wp2_with fail
      go_ret
      exact ⟨_, rfl, HO.out, HB.out⟩
end Go.Proofs.YthcjjogomknddaaDoor
