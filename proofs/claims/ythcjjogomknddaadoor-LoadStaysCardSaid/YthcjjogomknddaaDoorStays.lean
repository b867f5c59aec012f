/-
  LoadStays: what is put hangs on the nodes, the spots and the tasks alone; a task's node is found, and no other task is: the law returns true for every input.
-/
import Derived.Test.YthcjjogomknddaaDoorLp
import Derived.Deep.LoopGhost
import Derived.Test.YthcjjogomknddaaDoorCards
import Derived.Test.YthcjjogomknddaaDoorTie
namespace Go.Proofs.YthcjjogomknddaaDoor.lawStays
open Go.ChangeMaps (open_string)
open Go.Sort Go.ChangeShapes Go.WideShapes Go.ChangeAt Go.RowKit Go.Joins Go.Proofs.YthcjjogomknddaaDoor.Pure

theorem run_append_nothingS (w : World) (ty : TypeId) (B : Nat) (v : Value) (xs : List ByteArray) (hown : F.Own w B v xs) (c : Nat) (i0 : TypeInfo) (hi0 : Tryd.prog.info? 9 = some i0) :
    (Builtin.append_ #[23, 23] ty #[v, .slice none 0 c]).run Tryd.prog w = .ok v w := by
  have ht := Tryd.underlying23
  rcases hown.2 with ⟨rfl, _⟩ | ⟨g, cap, cur, rfl, _, _, hnc, _⟩
  · simp [Builtin.append_, run_underlying ht, sizeOf, typeInfo, hi0, Builtin.lenOf, Builtin.firstCells]
  · simp [Builtin.append_, run_underlying ht, sizeOf, typeInfo, hi0, Builtin.lenOf, Builtin.firstCells, hnc, storeCells]
theorem ss_cells {w : World} {ad : Addr} {xs : List ByteArray} (h : Ss w (some ad) xs) (j : Nat) (u : Value) (hu : (F.strs xs)[j]? = some u) : w.cell? (ad.add j) = some u := by
  obtain ⟨hj, rfl⟩ := F.strs_at xs j u hu
  obtain ⟨ad', e, _, c⟩ := h j hj
  obtain rfl := Option.some.inj e
  exact c
theorem ss_nil {w : World} {xs : List ByteArray} (h : Ss w none xs) : xs = [] := by
  rcases xs with _ | ⟨x, r⟩
  · rfl
  · obtain ⟨ad, e, _⟩ := h 0 (by simp)
    cases e
theorem run_appendS (w : World) (ty : TypeId) (B : Nat) (v : Value) (xs : List ByteArray) (hown : F.Own w B v xs) (A : Option Addr) (c : Nat) (ys : List ByteArray) (hh : Ss w A ys) (hlen : xs.length + ys.length ≤ 100000) (hB : B ≤ w.heap.size) :
    ∃ v' w', (Builtin.append_ #[23, 23] ty #[v, .slice A ys.length c]).run Tryd.prog w = .ok v' w' ∧ F.Own w' B v' (xs ++ ys) ∧ w.grownBy w' v.ownBlock ∧ (v'.ownBlock = v.ownBlock ∨ v'.ownBlock = some w.heap.size) := by
  obtain ⟨i0, hi0, hz0, hz1, hz2⟩ := info_parts F.Tryd.infoStr
  rcases A with _ | ad
  · obtain rfl := ss_nil hh
    exact ⟨v, w, run_append_nothingS w ty B v xs hown c i0 hi0, by simpa using hown, World.grownBy.refl _ _, Or.inl rfl⟩
  · obtain ⟨v', w', h1, h2, h3, _, h5⟩ := run_append_own_at (P := Tryd.prog) (w := w) B 23 ty 9 i0 (.string ByteArray.empty) 1 16 Tryd.underlying23 hi0 hz0 hz1 hz2 rfl (by decide) v _ _ hown ad ys.length c (F.strs ys) (by simp [F.strs]) (ss_cells hh) (F.strs_one ys) (by unfold maxLen; omega) (by omega) hB
    exact ⟨v', w', h1, by simpa [F.Own, F.strs] using h2, h3, h5⟩
theorem wp_appendS {w : World} {o : Oper} {a : Act} {K : Act → World → Prop} {Q : Exit → Act → World → Prop} (s x : Operand)
    (ho : o.op = .call { callee := .builtin .append, args := #[s, x], argTypes := #[23, 23] })
    (B : Nat) (v : Value) (xs : List ByteArray) (hs : a.eval s = v) (hown : F.Own w B v xs) (A : Option Addr) (c : Nat) (ys : List ByteArray) (hx : a.eval x = .slice A ys.length c) (hh : Ss w A ys)
    (hlen : xs.length + ys.length ≤ 100000) (hB : B ≤ w.heap.size)
    (h : ∀ v' w', F.Own w' B v' (xs ++ ys) → w.grownBy w' v.ownBlock → (v'.ownBlock = v.ownBlock ∨ v'.ownBlock = some w.heap.size) → K (a.put o.dst v') w') : o.wp Tryd.prog a w K Q := by
  obtain ⟨v', w', hr, h2, h3, h4⟩ := run_appendS w o.type B v xs hown A c ys hh hlen hB
  unfold Oper.wp execOp
  simp only [ho, resolve, invoke, builtin, Sem.run_bind, Sem.run_pure, Result.andThen_ok, List.map_toArray, List.map_cons, List.map_nil, hs, hx, hr]
  exact h v' w' h2 h3 h4
theorem run_appendN (w : World) (ty : TypeId) (B : Nat) (v : Value) (xs : List Int) (hown : Own w B v xs) (A : Option Addr) (c lo hi : Nat) (ys : List Int) (hh : Has w lo hi A ys) (hlen : xs.length + ys.length ≤ 100000) (hB : B ≤ w.heap.size) :
    ∃ v' w', (Builtin.append_ #[22, 22] ty #[v, .slice A ys.length c]).run Tryd.prog w = .ok v' w' ∧ Own w' B v' (xs ++ ys) ∧ w.grownBy w' v.ownBlock ∧ (v'.ownBlock = v.ownBlock ∨ v'.ownBlock = some w.heap.size) := by
  obtain ⟨i0, hi0, hz0, hz1, hz2⟩ := info_parts Tryd.infoInt
  rcases A with _ | ad
  · obtain rfl := hh.none_nil
    exact ⟨v, w, run_append_nothing w ty B v xs hown c i0 hi0, by simpa using hown, World.grownBy.refl _ _, Or.inl rfl⟩
  · obtain ⟨v', w', h1, h2, h3, _, h5⟩ := run_append_own_at (P := Tryd.prog) (w := w) B 22 ty 3 i0 (.int .i64 0) 1 8 Tryd.underlying22 hi0 hz0 hz1 hz2 rfl (by decide) v _ _ hown ad ys.length c (ints ys) (by simp [ints]) hh.cells (ints_one ys) (by unfold maxLen; omega) (by omega) hB
    exact ⟨v', w', h1, by simpa [Own, ints] using h2, h3, h5⟩
theorem wp_appendN {w : World} {o : Oper} {a : Act} {K : Act → World → Prop} {Q : Exit → Act → World → Prop} (s x : Operand)
    (ho : o.op = .call { callee := .builtin .append, args := #[s, x], argTypes := #[22, 22] })
    (B : Nat) (v : Value) (xs : List Int) (hs : a.eval s = v) (hown : Own w B v xs) (A : Option Addr) (c lo hi : Nat) (ys : List Int) (hx : a.eval x = .slice A ys.length c) (hh : Has w lo hi A ys)
    (hlen : xs.length + ys.length ≤ 100000) (hB : B ≤ w.heap.size)
    (h : ∀ v' w', Own w' B v' (xs ++ ys) → w.grownBy w' v.ownBlock → (v'.ownBlock = v.ownBlock ∨ v'.ownBlock = some w.heap.size) → K (a.put o.dst v') w') : o.wp Tryd.prog a w K Q := by
  obtain ⟨v', w', hr, h2, h3, h4⟩ := run_appendN w o.type B v xs hown A c lo hi ys hh hlen hB
  unfold Oper.wp execOp
  simp only [ho, resolve, invoke, builtin, Sem.run_bind, Sem.run_pure, Result.andThen_ok, List.map_toArray, List.map_cons, List.map_nil, hs, hx, hr]
  exact h v' w' h2 h3 h4
theorem dis_new {w : World} {u v v' : Value} (h : ∀ k, u.ownBlock = some k → k < w.heap.size) (hd : Dis u v) (he : v'.ownBlock = v.ownBlock ∨ v'.ownBlock = some w.heap.size) : Dis u v' := fun k hk => by
  rcases he with e | e
  · rw [e]; exact hd k hk
  · rw [e]; intro e2; injection e2 with e2; have := h k hk; omega
theorem dis_fresh {w : World} {u : Value} (h : ∀ k, u.ownBlock = some k → k < w.heap.size) {n c : Nat} : Dis u (.slice (some ⟨w.heap.size, 0, none⟩) n c) := fun k hk e => by
  have h1 := h k hk
  have e2 : some w.heap.size = some k := e
  injection e2 with e2
  omega
theorem below_grownN {B C : Nat} {w0 w w' : World} {v : Value} {xs : List Int} (hb : Below B w0 w) (ho : Own w C v xs) (hg : w.grownBy w' v.ownBlock) (hB : B ≤ w.heap.size) (hC : B ≤ C) : Below B w0 w' :=
  hb.grown hg hB (fun k hk => Nat.le_trans hC (ho.ge k hk).1)

set_option maxRecDepth 100000 in
set_option maxHeartbeats 4000000 in
theorem walk (A B C : Option Addr) (c d e k : Nat) (xs : List Int) (s t : Int) (l : List ByteArray) (nm : ByteArray) (w : World) (hc : xs.length ≤ c) (hm : c ≤ maxLen) (hx : Has w 0 w.heap.size A xs) (hd : l.length ≤ d) (hmd : d ≤ maxLen) (hl : Ss w B l) (hsh : Shrt l) (hnm : nm.size ≤ maxLen) :
    Calls Tryd.prog 8 #[.agg #[.slice A xs.length c, .int .i64 s, .slice B l.length d, .slice C k e, .int .i64 t], .string nm] w fun e w' => e = .returned (.bool true) ∧ Below w.heap.size w w' := by
  have HX : Hid (∀ W, Below w.heap.size w W → Has W 0 w.heap.size A xs) := Lib.hid (fun W hb => hx.on hb (Nat.le_refl _))
  have HL : Hid (∀ W, Below w.heap.size w W → Ss W B l) := Lib.hid (fun W hb => hl.on hb)
  have HB1 : Hid (Below w.heap.size w (w.alloc (.cells #[.slice A xs.length c, .int .i64 s, .slice B l.length d, .slice C k e, .int .i64 t] 26))) := Lib.hid ((Below.refl _ w).alloc (Nat.le_refl _) _)
  have HQ1 : Hid (Ab (w.alloc (.cells #[.slice A xs.length c, .int .i64 s, .slice B l.length d, .slice C k e, .int .i64 t] 26)) w.heap.size (.slice A xs.length c) (.int .i64 s) (.slice B l.length d) (.slice C k e) (.int .i64 t)) := Lib.hid (Ab.new w A B C xs.length l.length k c d e s t)
  have HLA : Hid (∀ (L : Bool), (L = true ↔ Lgt xs s l) → ∀ W, Below w.heap.size w W → Calls Tryd.prog 24 #[.agg #[.slice A xs.length c, .int .i64 s, .slice B l.length d, .slice C k e, .int .i64 t]] W fun e w' => e = .returned (.bool L) ∧ Below W.heap.size W w') := Lib.hid (fun L hL W hb => light_any A B C c d e k xs s t l W ((hx.on hb (Nat.le_refl _)).wide (Nat.zero_le _) hb.size) (hl.on hb) hsh L hL)
  by_cases hg : Lgt xs s l
  rotate_left
  · have HLT := Lib.hid (HLA.out false ⟨fun e => (by cases e), fun h => absurd h hg⟩)
    clear hx hl hsh HX HL hg HLA
    go_enter Tryd.func8, Tryd.ntmps8
    go_upto_region 1 with (fail)
    generalize w.alloc (.cells #[.slice A xs.length c, .int .i64 s, .slice B l.length d, .slice C k e, .int .i64 t] 26) = w1 at *
    obtain ⟨a0, a1, a2, a3, a4⟩ := HQ1.out
    go_wp2_with fail
    refine (HLT.out _ HB1.out).mono ?_
    rintro e w2 ⟨rfl, hb2⟩
    obtain ⟨a0, a1, a2, a3, a4⟩ := HQ1.out.on hb2
    have HB2 := Lib.hid (HB1.out.trans (hb2.mono HB1.out.size))
    go_wp2_with fail
    refine (awake_any _).mono ?_
    rintro e w9 ⟨rfl, hb9⟩
    go_wp2_with fail
    go_ret
    exact ⟨rfl, HB2.out.trans (hb9.mono HB2.out.size)⟩
  have HLT := Lib.hid (HLA.out true (iff_of_true rfl hg))
  obtain ⟨s, rfl⟩ := Int.eq_ofNat_of_zero_le (show 0 ≤ s by have := hg.s1; omega)
  have hs1 : 1 ≤ s := by have := hg.s1; omega
  have hs8 : s ≤ 8 := by have := hg.s8; omega
  have hx1 := hg.x1
  have hx6 := hg.x6
  have hl20 := hg.l20
  have hle : l.length ≤ 100 := by omega
  have HAS := Lib.hid (fun (W : World) (hb : Below w.heap.size w W) => assign_yes A B c d 0 w.heap.size xs s l W (hx.on hb (Nat.le_refl _)) hb.size (hl.on hb) hsh hg.nod hg.x1 hs1 (by omega) hg.tsk)
  clear hx hl HLA
  go_enter Tryd.func8, Tryd.ntmps8
  go_upto_region 1 with (fail)
  generalize w.alloc (.cells #[.slice A xs.length c, .int .i64 s, .slice B l.length d, .slice C k e, .int .i64 t] 26) = w1 at *
  obtain ⟨a0, a1, a2, a3, a4⟩ := HQ1.out
  go_wp2_with fail
  refine (HLT.out _ HB1.out).mono ?_
  rintro e w2 ⟨rfl, hb⟩
  have B_1 := Lib.hid (HB1.out.trans (hb.mono HB1.out.size))
  have Q_1 := Lib.hid (HQ1.out.on hb)
  clear HB1 HQ1
  clear hb HLT a0 a1 a2 a3 a4
  obtain ⟨a0, a1, a2, a3, a4⟩ := Q_1.out
  by_cases h0 : 30 < nm.size
  · have e1 : decide ((30 : Int) < (nm.size : Int)) = true := decide_eq_true (by omega)
    have e1' : decide (30 < nm.size) = true := decide_eq_true h0
    clear h0 HAS
    go_wp2_with fail
    refine (awake_any _).mono ?_
    rintro e w9 ⟨rfl, hb9⟩
    go_wp2_with fail
    go_ret
    exact ⟨rfl, B_1.out.trans (hb9.mono B_1.out.size)⟩
  have e1 : decide ((30 : Int) < (nm.size : Int)) = false := decide_eq_false (by omega)
  have e1' : decide (30 < nm.size) = false := decide_eq_false h0
  have HASg := Lib.hid (fun (A' : Option Addr) (c' lo hi : Nat) (B' : Option Addr) (d' : Nat) (W : World) (h1 : Has W lo hi A' xs) (h2 : hi ≤ W.heap.size) (h3 : Ss W B' l) => assign_yes A' B' c' d' lo hi xs s l W h1 h2 h3 hsh hg.nod hg.x1 hs1 (by omega) hg.tsk)
  have hRlen : (asgA2 xs s l).length ≤ 100000 := by rw [lb_len]; omega
  have hRs : Shrt ((asgA2 xs s l).map Pu.t) := by rw [lb_map]; exact hsh
  obtain ⟨e0, he0⟩ : ∃ e0, ofE (asgA2 xs s l) nm = e0 := ⟨_, rfl⟩
  obtain ⟨n0, hn0⟩ : ∃ n0, (if e0 = 0 then ofI (asgA2 xs s l) nm else 0) = n0 := ⟨_, rfl⟩
  have HOF := Lib.hid (fun (A : Option Addr) (c : Nat) (W : World) (h : Us W A (asgA2 xs s l)) => of_any A c (asgA2 xs s l) nm W hRlen h hRs n0 e0 he0 hn0)
  have HCS : Hid ((nm ∈ l ∧ e0 = 0) ∨ (nm ∉ l ∧ e0 = 6 ∧ n0 = 0)) := Lib.hid (by
    by_cases hm : nm ∈ l
    · exact Or.inl ⟨hm, by rw [← he0]; exact lb_there hg hm⟩
    · have h2 := (lb_none hg hm).2
      have h3 : e0 = 6 := by rw [← he0]; exact h2
      exact Or.inr ⟨hm, h3, by rw [← hn0, h3]; rfl⟩)
  generalize asgA2 xs s l = R at *
  clear hg hsh h0 he0 hn0 hRs hnm
  go_wp2_with fail
  refine (HAS.out _ B_1.out).mono ?_
  rintro e w4 ⟨v4, rfl, ho, hb⟩
  have B_2 := Lib.hid (B_1.out.trans (hb.mono B_1.out.size))
  have Q_2 := Lib.hid (Q_1.out.on hb)
  clear B_1 Q_1
  obtain ⟨AR, cR, rfl, hcR, huR⟩ := ho.lst
  have UR_3 := Lib.hid (huR)
  clear ho huR hb a0 a1 a2 a3 a4
  obtain ⟨a0, a1, a2, a3, a4⟩ := Q_2.out
  have hS : ∀ W, Below w4.heap.size w4 W → W.cell? ⟨w.heap.size, 0, none⟩ = some (.slice A xs.length c) ∧ W.cell? ⟨w.heap.size, 1, none⟩ = some (.int .i64 (s : Int)) ∧ W.cell? ⟨w.heap.size, 2, none⟩ = some (.slice B l.length d) := fun W hb => ⟨(Q_2.out.on hb).1, (Q_2.out.on hb).2.1, (Q_2.out.on hb).2.2.1⟩
  have HBw : Hid (∀ W, Below w4.heap.size w4 W → Below w.heap.size w W) := Lib.hid (fun W hb => B_2.out.trans (hb.mono B_2.out.size))
  go_upto_region 4 with (fail)
  go_cut [7, 8] from 32 to 45 (fun v e wx => ∃ A5 c5, v = .slice A5 R.length c5 ∧ e = .int .i64 0 ∧ Hid (Us wx A5 R) ∧ Hid (Below w4.heap.size w4 wx))
  case first =>
    refine p3_enter (.take 1 (.take 2 (.take 4 (.take 5 (.take 7 (.take 8 (.two 0 (.two 3 (.one 6 (.one 9 (.one 10 (.take 11 (.take 12 (.take 13 (.take 14 (.take 15 .done)))))))) 6 (.one 3 (.one 9 (.one 10 (.take 11 (.take 12 (.take 13 (.take 14 (.take 15 .done))))))))) 6 (.one 0 (.one 3 (.one 9 (.one 10 (.take 11 (.take 12 (.take 13 (.take 14 (.take 15 .done)))))))))))))))) (fun W => W.cell? ⟨w.heap.size, 0, none⟩ = some (.slice A xs.length c) ∧ W.cell? ⟨w.heap.size, 1, none⟩ = some (.int .i64 (s : Int)) ∧ W.cell? ⟨w.heap.size, 2, none⟩ = some (.slice B l.length d)) (by kernel_rfl) (by kernel_rfl) (by kernel_rfl) (fun _ _ d _ _ h => by cases d <;> exact h) (hS _ (Below.refl _ _).drew) ?_
    simp only [pick3, opAt, List.drop_succ_cons, List.drop_zero]
    have hB_0 := Lib.hid ((Below.refl w4.heap.size w4).drew)
    have hz_0 : w4.heap.size ≤ w4.drew.heap.size := hB_0.out.size
    generalize w4.drew = wd at *
    obtain ⟨B0, hB0⟩ : ∃ B0, B0 = w4.heap.size := ⟨_, rfl⟩
    rw [← hB0] at hB_0 hz_0 hS HBw
    have HB0 := Lib.hid hB0
    clear hB0 a0 a1 a2 a3 a4 HOF HCS B_2 Q_2 UR_3
    iterate 6 (first | (refine' p3_yes ?_ (by rfl) ?_ ?_; rotate_left; (intro w' hS; (try dsimp only at hS); go_simp; try (with_reducible rfl)); simp only [Act.put, List.setIfInBounds_toArray, List.set_cons_zero, List.set_cons_succ]) | (refine p3_no (by rfl) ?_; simp only [Act.put, List.setIfInBounds_toArray, List.set_cons_zero, List.set_cons_succ]))
    refine p3_two ?_ ?_
    · intro KK hK
      go_simp
      have hbx : Below wd.heap.size wd (wd.alloc (.cells #[] 3)) := (Below.refl _ _).alloc (Nat.le_refl _) _
      have hB_1 := Lib.hid (hB_0.out.trans (hbx.mono hz_0))
      have hz_1 : B0 ≤ (wd.alloc (.cells #[] 3)).heap.size := Nat.le_trans hz_0 hbx.size
      have hn_1 : Hid (Own (wd.alloc (.cells #[] 3)) B0 (.slice (some ⟨wd.heap.size, 0, none⟩) 0 0) []) := Lib.hid (World.ownsRow_made wd #[] 0 hz_0 (Nat.zero_le _) rfl)
      clear hbx hB_0
      generalize wd.alloc (.cells #[] 3) = we1 at *
      generalize wd.heap.size = gn at *
      refine hK.out _ _ (hS _ hB_1.out) ?_
      clear hK
      refine p3_two ?_ ?_
      · intro KK hK
        rw [if_pos (by rfl)]
        refine wp_appendN _ _ rfl B0 (.slice (some ⟨gn, 0, none⟩) 0 0) [] rfl hn_1.out A c 0 w.heap.size xs rfl (HX.out _ (HBw.out _ hB_1.out)) (by simp; omega) hz_1 ?_
        intro v2 we2 hown hgrow hat
        rw [List.nil_append] at hown
        have hB_2 := Lib.hid (below_grownN hB_1.out hn_1.out hgrow hz_1 (Nat.le_refl _))
        have hz_2 : B0 ≤ we2.heap.size := Nat.le_trans hz_1 hgrow.size
        clear hat
        have hn_2 := Lib.hid hown
        clear hown hgrow hB_1 hn_1
        refine hK.out _ _ (hS _ hB_2.out) ?_
        clear hK
        simp only [Act.put, List.setIfInBounds_toArray, List.set_cons_zero, List.set_cons_succ]
        refine p3_one ?_
        intro KK hK
        go_simp
        have hbx : Below we2.heap.size we2 (we2.alloc (.cells #[] 9)) := (Below.refl _ _).alloc (Nat.le_refl _) _
        have hB_3 := Lib.hid (hB_2.out.trans (hbx.mono hz_2))
        have hz_3 : B0 ≤ (we2.alloc (.cells #[] 9)).heap.size := Nat.le_trans hz_2 hbx.size
        have hn_3 := Lib.hid (hn_2.out.on hbx)
        have hs_3 : Hid (F.Own (we2.alloc (.cells #[] 9)) B0 (.slice (some ⟨we2.heap.size, 0, none⟩) 0 0) []) := Lib.hid (World.ownsRow_made we2 #[] 0 hz_2 (Nat.zero_le _) rfl)
        have hdx : Hid (Dis (v2) (.slice (some ⟨we2.heap.size, 0, none⟩) 0 0)) := Lib.hid (dis_fresh (fun k hk => (hn_2.out.ge k hk).2))
        clear hbx hB_2 hn_2
        generalize we2.alloc (.cells #[] 9) = we3 at *
        generalize we2.heap.size = gs at *
        have hd := Lib.hid (hdx.out)
        clear hdx
        refine hK.out _ _ (hS _ hB_3.out) ?_
        clear hK
        refine p3_one ?_
        intro KK hK
        rw [if_pos (by rfl)]
        refine wp_appendS _ _ rfl B0 (.slice (some ⟨gs, 0, none⟩) 0 0) [] rfl hs_3.out B d l rfl (HL.out _ (HBw.out _ hB_3.out)) (by simp; omega) hz_3 ?_
        intro v4 we4 hown hgrow hat
        rw [List.nil_append] at hown
        have hB_4 := Lib.hid (below_grownS hB_3.out hs_3.out hgrow hz_3 (Nat.le_refl _))
        have hz_4 : B0 ≤ we4.heap.size := Nat.le_trans hz_3 hgrow.size
        have hn_4 := Lib.hid (hn_3.out.keepB (fun k hk => hgrow.block k (hn_3.out.ge k hk).2 (fun e => (hd.out) k hk e.symm)))
        have hd2 := Lib.hid (dis_new (fun k hk => (hn_3.out.ge k hk).2) (hd.out) hat)
        clear hd
        have hd := Lib.hid (hd2.out)
        clear hd2
        clear hat
        have hs_4 := Lib.hid hown
        clear hown hgrow hB_3 hs_3 hn_3
        refine hK.out _ _ (hS _ hB_4.out) ?_
        clear hK
        simp only [Act.put, List.setIfInBounds_toArray, List.set_cons_zero, List.set_cons_succ]
        refine p3_one ?_
        intro KK hK
        obtain ⟨A2, c2, rfl, hc2, hN2⟩ := hn_4.out.has
        obtain ⟨B2, d2, rfl, hd2, hS2⟩ := Ss.of hs_4.out
        go_simp
        refine (HASg.out _ _ _ _ _ _ _ hN2 (Nat.le_refl _) hS2).mono ?_
        rintro e w5 ⟨v5, rfl, ho, hb⟩
        have hB_5 := Lib.hid (hB_4.out.trans (hb.mono hz_4))
        obtain ⟨A5, c5, rfl, hc5, hu5⟩ := ho.lst
        have hU5 := Lib.hid hu5
        clear ho hu5 hb hN2 hS2 hn_4 hs_4 hB_4
        refine hK.out _ _ (hS _ hB_5.out) ?_
        clear hK
        iterate 5 (first | (refine' p3_yes ?_ (by rfl) ?_ ?_; rotate_left; (intro w' hS; (try dsimp only at hS); go_simp; try (with_reducible rfl)); simp only [Act.put, List.setIfInBounds_toArray, List.set_cons_zero, List.set_cons_succ]) | (refine p3_no (by rfl) ?_; simp only [Act.put, List.setIfInBounds_toArray, List.set_cons_zero, List.set_cons_succ]))
        refine p3_done ?_
        go_wp2_with fail
        go_meet
        case rel => exact ⟨A5, c5, rfl, rfl, hU5, HB0.out ▸ hB_5⟩
      · intro KK hK
        go_simp
        have hbx : Below we1.heap.size we1 (we1.alloc (.cells #[] 9)) := (Below.refl _ _).alloc (Nat.le_refl _) _
        have hB_2 := Lib.hid (hB_1.out.trans (hbx.mono hz_1))
        have hz_2 : B0 ≤ (we1.alloc (.cells #[] 9)).heap.size := Nat.le_trans hz_1 hbx.size
        have hn_2 := Lib.hid (hn_1.out.on hbx)
        have hs_2 : Hid (F.Own (we1.alloc (.cells #[] 9)) B0 (.slice (some ⟨we1.heap.size, 0, none⟩) 0 0) []) := Lib.hid (World.ownsRow_made we1 #[] 0 hz_1 (Nat.zero_le _) rfl)
        have hdx : Hid (Dis (.slice (some ⟨gn, 0, none⟩) 0 0) (.slice (some ⟨we1.heap.size, 0, none⟩) 0 0)) := Lib.hid (dis_fresh (fun k hk => (hn_1.out.ge k hk).2))
        clear hbx hB_1 hn_1
        generalize we1.alloc (.cells #[] 9) = we2 at *
        generalize we1.heap.size = gs at *
        have hd := Lib.hid (hdx.out)
        clear hdx
        refine hK.out _ _ (hS _ hB_2.out) ?_
        clear hK
        refine p3_one ?_
        intro KK hK
        rw [if_pos (by rfl)]
        refine wp_appendN _ _ rfl B0 (.slice (some ⟨gn, 0, none⟩) 0 0) [] rfl hn_2.out A c 0 w.heap.size xs rfl (HX.out _ (HBw.out _ hB_2.out)) (by simp; omega) hz_2 ?_
        intro v3 we3 hown hgrow hat
        rw [List.nil_append] at hown
        have hB_3 := Lib.hid (below_grownN hB_2.out hn_2.out hgrow hz_2 (Nat.le_refl _))
        have hz_3 : B0 ≤ we3.heap.size := Nat.le_trans hz_2 hgrow.size
        have hs_3 := Lib.hid (hs_2.out.keepB (fun k hk => hgrow.block k (hs_2.out.ge k hk).2 (fun e => (hd.out.symm) k hk e.symm)))
        have hd2 := Lib.hid (dis_new (fun k hk => (hs_2.out.ge k hk).2) (hd.out.symm) hat)
        clear hd
        have hd := Lib.hid (hd2.out.symm)
        clear hd2
        clear hat
        have hn_3 := Lib.hid hown
        clear hown hgrow hB_2 hn_2 hs_2
        refine hK.out _ _ (hS _ hB_3.out) ?_
        clear hK
        simp only [Act.put, List.setIfInBounds_toArray, List.set_cons_zero, List.set_cons_succ]
        refine p3_one ?_
        intro KK hK
        rw [if_pos (by rfl)]
        refine wp_appendS _ _ rfl B0 (.slice (some ⟨gs, 0, none⟩) 0 0) [] rfl hs_3.out B d l rfl (HL.out _ (HBw.out _ hB_3.out)) (by simp; omega) hz_3 ?_
        intro v4 we4 hown hgrow hat
        rw [List.nil_append] at hown
        have hB_4 := Lib.hid (below_grownS hB_3.out hs_3.out hgrow hz_3 (Nat.le_refl _))
        have hz_4 : B0 ≤ we4.heap.size := Nat.le_trans hz_3 hgrow.size
        have hn_4 := Lib.hid (hn_3.out.keepB (fun k hk => hgrow.block k (hn_3.out.ge k hk).2 (fun e => (hd.out) k hk e.symm)))
        have hd2 := Lib.hid (dis_new (fun k hk => (hn_3.out.ge k hk).2) (hd.out) hat)
        clear hd
        have hd := Lib.hid (hd2.out)
        clear hd2
        clear hat
        have hs_4 := Lib.hid hown
        clear hown hgrow hB_3 hs_3 hn_3
        refine hK.out _ _ (hS _ hB_4.out) ?_
        clear hK
        simp only [Act.put, List.setIfInBounds_toArray, List.set_cons_zero, List.set_cons_succ]
        refine p3_one ?_
        intro KK hK
        obtain ⟨A2, c2, rfl, hc2, hN2⟩ := hn_4.out.has
        obtain ⟨B2, d2, rfl, hd2, hS2⟩ := Ss.of hs_4.out
        go_simp
        refine (HASg.out _ _ _ _ _ _ _ hN2 (Nat.le_refl _) hS2).mono ?_
        rintro e w5 ⟨v5, rfl, ho, hb⟩
        have hB_5 := Lib.hid (hB_4.out.trans (hb.mono hz_4))
        obtain ⟨A5, c5, rfl, hc5, hu5⟩ := ho.lst
        have hU5 := Lib.hid hu5
        clear ho hu5 hb hN2 hS2 hn_4 hs_4 hB_4
        refine hK.out _ _ (hS _ hB_5.out) ?_
        clear hK
        iterate 5 (first | (refine' p3_yes ?_ (by rfl) ?_ ?_; rotate_left; (intro w' hS; (try dsimp only at hS); go_simp; try (with_reducible rfl)); simp only [Act.put, List.setIfInBounds_toArray, List.set_cons_zero, List.set_cons_succ]) | (refine p3_no (by rfl) ?_; simp only [Act.put, List.setIfInBounds_toArray, List.set_cons_zero, List.set_cons_succ]))
        refine p3_done ?_
        go_wp2_with fail
        go_meet
        case rel => exact ⟨A5, c5, rfl, rfl, hU5, HB0.out ▸ hB_5⟩
    · intro KK hK
      go_simp
      have hbx : Below wd.heap.size wd (wd.alloc (.cells #[] 9)) := (Below.refl _ _).alloc (Nat.le_refl _) _
      have hB_1 := Lib.hid (hB_0.out.trans (hbx.mono hz_0))
      have hz_1 : B0 ≤ (wd.alloc (.cells #[] 9)).heap.size := Nat.le_trans hz_0 hbx.size
      have hs_1 : Hid (F.Own (wd.alloc (.cells #[] 9)) B0 (.slice (some ⟨wd.heap.size, 0, none⟩) 0 0) []) := Lib.hid (World.ownsRow_made wd #[] 0 hz_0 (Nat.zero_le _) rfl)
      clear hbx hB_0
      generalize wd.alloc (.cells #[] 9) = we1 at *
      generalize wd.heap.size = gs at *
      refine hK.out _ _ (hS _ hB_1.out) ?_
      clear hK
      refine p3_one ?_
      intro KK hK
      go_simp
      have hbx : Below we1.heap.size we1 (we1.alloc (.cells #[] 3)) := (Below.refl _ _).alloc (Nat.le_refl _) _
      have hB_2 := Lib.hid (hB_1.out.trans (hbx.mono hz_1))
      have hz_2 : B0 ≤ (we1.alloc (.cells #[] 3)).heap.size := Nat.le_trans hz_1 hbx.size
      have hs_2 := Lib.hid (hs_1.out.on hbx)
      have hn_2 : Hid (Own (we1.alloc (.cells #[] 3)) B0 (.slice (some ⟨we1.heap.size, 0, none⟩) 0 0) []) := Lib.hid (World.ownsRow_made we1 #[] 0 hz_1 (Nat.zero_le _) rfl)
      have hdx : Hid (Dis (.slice (some ⟨gs, 0, none⟩) 0 0) (.slice (some ⟨we1.heap.size, 0, none⟩) 0 0)) := Lib.hid (dis_fresh (fun k hk => (hs_1.out.ge k hk).2))
      clear hbx hB_1 hs_1
      generalize we1.alloc (.cells #[] 3) = we2 at *
      generalize we1.heap.size = gn at *
      have hd := Lib.hid (hdx.out.symm)
      clear hdx
      refine hK.out _ _ (hS _ hB_2.out) ?_
      clear hK
      refine p3_one ?_
      intro KK hK
      rw [if_pos (by rfl)]
      refine wp_appendN _ _ rfl B0 (.slice (some ⟨gn, 0, none⟩) 0 0) [] rfl hn_2.out A c 0 w.heap.size xs rfl (HX.out _ (HBw.out _ hB_2.out)) (by simp; omega) hz_2 ?_
      intro v3 we3 hown hgrow hat
      rw [List.nil_append] at hown
      have hB_3 := Lib.hid (below_grownN hB_2.out hn_2.out hgrow hz_2 (Nat.le_refl _))
      have hz_3 : B0 ≤ we3.heap.size := Nat.le_trans hz_2 hgrow.size
      have hs_3 := Lib.hid (hs_2.out.keepB (fun k hk => hgrow.block k (hs_2.out.ge k hk).2 (fun e => (hd.out.symm) k hk e.symm)))
      have hd2 := Lib.hid (dis_new (fun k hk => (hs_2.out.ge k hk).2) (hd.out.symm) hat)
      clear hd
      have hd := Lib.hid (hd2.out.symm)
      clear hd2
      clear hat
      have hn_3 := Lib.hid hown
      clear hown hgrow hB_2 hn_2 hs_2
      refine hK.out _ _ (hS _ hB_3.out) ?_
      clear hK
      simp only [Act.put, List.setIfInBounds_toArray, List.set_cons_zero, List.set_cons_succ]
      refine p3_one ?_
      intro KK hK
      rw [if_pos (by rfl)]
      refine wp_appendS _ _ rfl B0 (.slice (some ⟨gs, 0, none⟩) 0 0) [] rfl hs_3.out B d l rfl (HL.out _ (HBw.out _ hB_3.out)) (by simp; omega) hz_3 ?_
      intro v4 we4 hown hgrow hat
      rw [List.nil_append] at hown
      have hB_4 := Lib.hid (below_grownS hB_3.out hs_3.out hgrow hz_3 (Nat.le_refl _))
      have hz_4 : B0 ≤ we4.heap.size := Nat.le_trans hz_3 hgrow.size
      have hn_4 := Lib.hid (hn_3.out.keepB (fun k hk => hgrow.block k (hn_3.out.ge k hk).2 (fun e => (hd.out) k hk e.symm)))
      have hd2 := Lib.hid (dis_new (fun k hk => (hn_3.out.ge k hk).2) (hd.out) hat)
      clear hd
      have hd := Lib.hid (hd2.out)
      clear hd2
      clear hat
      have hs_4 := Lib.hid hown
      clear hown hgrow hB_3 hs_3 hn_3
      refine hK.out _ _ (hS _ hB_4.out) ?_
      clear hK
      simp only [Act.put, List.setIfInBounds_toArray, List.set_cons_zero, List.set_cons_succ]
      refine p3_one ?_
      intro KK hK
      obtain ⟨A2, c2, rfl, hc2, hN2⟩ := hn_4.out.has
      obtain ⟨B2, d2, rfl, hd2, hS2⟩ := Ss.of hs_4.out
      go_simp
      refine (HASg.out _ _ _ _ _ _ _ hN2 (Nat.le_refl _) hS2).mono ?_
      rintro e w5 ⟨v5, rfl, ho, hb⟩
      have hB_5 := Lib.hid (hB_4.out.trans (hb.mono hz_4))
      obtain ⟨A5, c5, rfl, hc5, hu5⟩ := ho.lst
      have hU5 := Lib.hid hu5
      clear ho hu5 hb hN2 hS2 hn_4 hs_4 hB_4
      refine hK.out _ _ (hS _ hB_5.out) ?_
      clear hK
      iterate 5 (first | (refine' p3_yes ?_ (by rfl) ?_ ?_; rotate_left; (intro w' hS; (try dsimp only at hS); go_simp; try (with_reducible rfl)); simp only [Act.put, List.setIfInBounds_toArray, List.set_cons_zero, List.set_cons_succ]) | (refine p3_no (by rfl) ?_; simp only [Act.put, List.setIfInBounds_toArray, List.set_cons_zero, List.set_cons_succ]))
      refine p3_done ?_
      go_wp2_with fail
      go_meet
      case rel => exact ⟨A5, c5, rfl, rfl, hU5, HB0.out ▸ hB_5⟩
  case rest =>
    obtain ⟨A5, c5, rfl, rfl, HU5, HC⟩ := hcut
    obtain ⟨w5, ew5⟩ : ∃ w5, w5 = wc := ⟨_, rfl⟩
    subst ew5
    have hb := HC.out
    have B_4 := Lib.hid (B_2.out.trans (hb.mono B_2.out.size))
    have Q_4 := Lib.hid (Q_2.out.on hb)
    have UR_4 := Lib.hid (UR_3.out.on hb)
    clear B_2 Q_2 UR_3
    clear hb HC hS HBw HASg a0 a1 a2 a3 a4
    obtain ⟨a0, a1, a2, a3, a4⟩ := Q_4.out
    have HSM := Lib.hid (same_puts AR A5 cR c5 R R w5 hRlen UR_4.out HU5.out true (by simp))
    go_wp2_with fail
    refine HSM.out.mono ?_
    rintro e w6 ⟨rfl, hb⟩
    have B_5 := Lib.hid (B_4.out.trans (hb.mono B_4.out.size))
    have Q_5 := Lib.hid (Q_4.out.on hb)
    have UR_5 := Lib.hid (UR_4.out.on hb)
    have U5_5 := Lib.hid (HU5.out.on hb)
    clear B_4 Q_4 UR_4 HU5
    clear U5_5
    clear hb HSM a0 a1 a2 a3 a4
    obtain ⟨a0, a1, a2, a3, a4⟩ := Q_5.out
    go_wp2_with fail
    refine (HOF.out _ _ _ UR_5.out).mono ?_
    rintro e w7 ⟨rfl, hb⟩
    have B_6 := Lib.hid (B_5.out.trans (hb.mono B_5.out.size))
    have Q_6 := Lib.hid (Q_5.out.on hb)
    have UR_6 := Lib.hid (UR_5.out.on hb)
    clear B_5 Q_5 UR_5
    clear UR_6
    clear hb HOF a0 a1 a2 a3 a4
    obtain ⟨a0, a1, a2, a3, a4⟩ := Q_6.out
    go_wp2_with fail
    go_loopw [11, 12] (fun tv i wr => ∃ (q : Nat) (T : Bool), i = .int .i64 q ∧ tv = .bool T ∧ q ≤ l.length ∧ Hid (T = true ↔ nm ∈ l.take q) ∧ w7 = wr) (fun _ i _ => l.length - (intOf i).toNat)
    case atStart => exact ⟨0, false, rfl, rfl, Nat.zero_le _, Lib.hid (by simp), rfl⟩
    case round =>
      obtain ⟨q, T, rfl, rfl, hq, hT, rfl⟩ := hrel
      by_cases hlt : q < l.length
      · have q0 : (0 : Int) ≤ (q : Int) := by omega
        have q1 : (q : Int) < (l.length : Int) := by omega
        obtain ⟨aB, rfl, hlo, b0⟩ := (HL.out _ B_6.out) q hlt
        have hTn : Hid (nm ∈ l.take (q + 1) ↔ nm ∈ l.take q ∨ ba l q = nm) := Lib.hid (by rw [List.take_succ_eq_append_getElem hlt, List.mem_append, List.mem_singleton, ba_lt l hlt]; constructor <;> (rintro (h | h); exact Or.inl h; exact Or.inr h.symm))
        have heq := eq_is (ba l q) nm
        generalize ba l q = x at *
        rcases T with _ | _
        · by_cases hx : x = nm
          · rw [decide_eq_true hx] at heq
            have hT2 : Hid (true = true ↔ nm ∈ l.take (q + 1)) := Lib.hid (by rw [hTn.out]; simp [hx])
            clear hx hT hTn
            go_wp2_with fail
            go_roundw
            case rel => exact ⟨q + 1, true, by go_num, rfl, by omega, hT2, trivial⟩
            case measure => simp [intOf]; omega
          · rw [decide_eq_false hx] at heq
            have hT2 : Hid (false = true ↔ nm ∈ l.take (q + 1)) := Lib.hid (by rw [hTn.out, ← hT.out]; simp [hx])
            clear hx hT hTn
            go_wp2_with fail
            go_roundw
            case rel => exact ⟨q + 1, false, by go_num, rfl, by omega, hT2, trivial⟩
            case measure => simp [intOf]; omega
        · have hT2 : Hid (true = true ↔ nm ∈ l.take (q + 1)) := Lib.hid (by rw [hTn.out, ← hT.out]; simp)
          clear hT hTn heq
          go_wp2_with fail
          go_roundw
          case rel => exact ⟨q + 1, true, by go_num, rfl, by omega, hT2, trivial⟩
          case measure => simp [intOf]; omega
      · obtain rfl : q = l.length := by omega
        rw [List.take_length] at hT
        have x0 : decide ((l.length : Int) < (l.length : Int)) = false := by simp
        rcases HCS.out with ⟨hm, rfl⟩ | ⟨hm, rfl, rfl⟩
        · obtain rfl : T = true := hT.out.2 hm
          clear hT hm HCS
          go_wp2_with fail
          refine (awake_any _).mono ?_
          rintro e w9 ⟨rfl, hb9⟩
          go_wp2_with fail
          go_ret
          exact ⟨rfl, B_6.out.trans (hb9.mono B_6.out.size)⟩
        · obtain rfl : T = false := by cases T with | false => rfl | true => exact absurd (hT.out.1 rfl) hm
          clear hT hm HCS
          go_wp2_with fail
          refine (awake_any _).mono ?_
          rintro e w9 ⟨rfl, hb9⟩
          go_wp2_with fail
          go_ret
          exact ⟨rfl, B_6.out.trans (hb9.mono B_6.out.size)⟩

theorem parOk : ∀ t ∈ (#[26, 9] : Array TypeId).toList, Tryd.prog.readableRec t = true ∧ t < Tryd.prog.types.size := by
  have hall : ([26, 9].all fun t => Tryd.prog.readableRec t && decide (t < Tryd.prog.types.size)) = true := by kernel_rfl
  intro t ht
  simpa using List.all_eq_true.1 hall t ht

set_option maxRecDepth 100000 in
/-- What the walk gives, for every argument and every world that holds the table. -/
theorem contract (H : Type) (enc : TypeId × Value → H) (W : World) (base : Nat) (args : Array Value) (ds gs : List (DataW H)) (before : List MemPlace)
    (hval : ∀ (j : Nat) t v, Tryd.f8.params[j]? = some t → args[j]? = some v → Value.okWide Tryd.prog W .any base t v)
    (hW : DataW.Whole enc Tryd.prog Tryd.f8.params.toList Rows.loadStaysSpec.vars false W args.toList ds gs before) (_ : laidMetH Tryd.prog Rows.loadStaysRow.laid W) :
    Calls Tryd.prog 8 args W fun e W' => ∃ v, e = .returned v ∧ Rows.loadStaysSpec.post enc Tryd.prog Tryd.f8 false true false false W args v W' := by
  have hW' := hW
  obtain ⟨p, q, hA0, hV, rfl, hfz, hnd⟩ := hW
  have hA : DataW.TrodAll enc Tryd.prog W 0 (fun _ => true) true Tryd.f8.params.toList args.toList ds p := hA0
  rw [Tryd.params8] at hA hval
  obtain ⟨v0, vs0, d0, ds0, p0, q0, hargs, rfl, rfl, h0, r0⟩ := trodAll_cons hA
  obtain ⟨v1, vs1, d1, ds1, p1, q1, rfl, rfl, rfl, h1, r1⟩ := trodAll_cons r0
  obtain ⟨rfl, rfl, rfl⟩ := trodAll_nil r1
  obtain rfl : args = #[v0, v1] := by cases args; simp_all
  obtain ⟨rfl, rfl⟩ := trodVars_none hV
  obtain ⟨A, c, xs, s, B, d, l, C, e, u, t, rfl, hc, hm, hx, hd, hmd, hl, hsh, _, _, _, _, _, _⟩ := open_ask (hval 0 26 v0 rfl rfl) h0
  obtain ⟨nm, rfl, hnm⟩ := open_text (hval 1 9 v1 rfl rfl) h1
  clear hA0
  refine (walk A B C c d e u.length xs s t l nm W hc hm hx hd hmd hl hsh hnm).mono fun e W' ⟨he, hb⟩ => ?_
  subst he
  exact ⟨_, rfl, law_post rfl (by rw [Tryd.params8]; exact parOk) rfl hW' rfl rfl rfl hb⟩

set_option maxRecDepth 100000 in
theorem laid_met (os : Os) : laidMet Tryd.prog Rows.loadStaysRow.laid ((laidWorld os).forCall (fun _ _ => 0) ⟨#[], #[.agg #[.slice none 0 0, .int .i64 0, .slice none 0 0, .slice none 0 0, .int .i64 0], .string ⟨#[]⟩], []⟩).memory :=
  laidMet_of_run' 8 (by kernel_rfl) (by kernel_rfl)
set_option maxRecDepth 100000 in
theorem reads (os : Os) {H : Type} (enc : TypeId × Value → H) : ∃ places, DataW.whole enc Tryd.prog ((laidWorld os).forCall (fun _ _ => 0) ⟨#[], #[.agg #[.slice none 0 0, .int .i64 0, .slice none 0 0, .slice none 0 0, .int .i64 0], .string ⟨#[]⟩], []⟩).memory Tryd.f8.params.toList Rows.loadStaysSpec.vars false (#[.agg #[.slice none 0 0, .int .i64 0, .slice none 0 0, .slice none 0 0, .int .i64 0], .string ⟨#[]⟩] : Array Value).toList 8 = some ([.agg [.nil, .lit (.int .i64 0), .nil, .nil, .lit (.int .i64 0)], .lit (.string [])], [], places) :=
  ⟨[], by kernel_rfl⟩

set_option maxRecDepth 100000 in
theorem lifted (os : Os) (started : os.Started) (H : Type) (enc : TypeId × Value → H) (F : Stop.Interp) :
    ReturnsInHanded {} Tryd.checked os 8 .any ((OpenSpec.ofChange Rows.loadStaysSpec).preRow enc Tryd.prog Tryd.f8 Rows.loadStaysRow.domain false Rows.loadStaysRow.laid) (((OpenSpec.ofChange Rows.loadStaysSpec).at F).post enc Tryd.prog Tryd.f8 false true false false) := by
  obtain ⟨places, hx⟩ := reads os enc
  refine returnsInHanded_of_row (C := Tryd.checked) (s := OpenSpec.ofChange Rows.loadStaysSpec) own started (by kernel_rfl) Tryd.func8
    (witness_row_at (enc := enc) (C := Tryd.checked) false (laidWorld os) #[.agg #[.slice none 0 0, .int .i64 0, .slice none 0 0, .slice none 0 0, .int .i64 0], .string ⟨#[]⟩] rfl (by kernel_rfl) (by kernel_rfl) (by kernel_rfl)
      (OpenSpec.preRow_of_cond 8 hx (by kernel_rfl) (fun k hk => by cases hk) (by kernel_rfl) (laid_met os))) ?_
  intro W base args ds gs before hval hW _ _ _ hL _ _
  exact contract H enc W base args ds gs before hval hW hL

theorem said : Rows.LoadStaysSaid :=
  OpenClaim.holds_of_cond 8 Tryd.f8 rfl rfl rfl rfl rfl rfl rfl ⟨rfl, rfl, rfl, rfl, rfl⟩ rfl rfl rfl rfl rfl (by kernel_rfl) Tryd.func8 (by kernel_rfl)
    (of_decide_eq_true (by kernel_rfl)) (by unfold Func.isWrapper; first | (rw [if_pos (by decide +kernel)]; kernel_rfl) | (rw [if_neg (by decide +kernel)]; exact ⟨rfl, rfl⟩))
    (fun os started H enc _ F => by rw [OpenClaim.pre_eq_preRow]; exact lifted os started H enc F)

set_option maxRecDepth 100000 in
/-- No parameter wants a stand-in; the program's own looks are off. -/
theorem plain (f : FuncId) (fn : Func) (hf : Tryd.pinned.checked.prog.funcNamed "tattle/tattlelaw14.LoadStays" = some f) (hfn : Tryd.pinned.checked.prog.funcs[f]? = some fn) :
    false = Tryd.pinned.checked.prog.looks [] ∧ ∀ (j : Nat) t, fn.params[j]? = some t → Tryd.pinned.checked.prog.wantsStandIn t = false := by
  obtain rfl : f = 8 := Option.some.inj ((show Tryd.prog.funcNamed "tattle/tattlelaw14.LoadStays" = some 8 by kernel_rfl).symm.trans hf) |>.symm
  obtain rfl : fn = Tryd.f8 := (Option.some.inj (Tryd.func8.symm.trans hfn)).symm
  refine ⟨by kernel_rfl, fun j t ht => ?_⟩
  rw [Tryd.params8] at ht
  have hm : t ∈ [26, 9] := by simpa using Array.mem_of_getElem? ht
  have hall : ([26, 9].all fun u => !Tryd.prog.wantsStandIn u) = true := by kernel_rfl
  exact (show Tryd.prog.wantsStandIn t = false by simpa using List.all_eq_true.1 hall t hm)

/-- THE CARD. -/
theorem card : Rows.LoadStaysCardSaid :=
  Claim7.holds_tied_plain_at .later [] _ _ _ _ said (fun _ h => by cases h) (by kernel_rfl) (fun _ h => by cases h) loadStays_row_tie rfl ⟨rfl, rfl⟩ (by kernel_rfl) rfl plain (by kernel_rfl)
end Go.Proofs.YthcjjogomknddaaDoor.lawStays
