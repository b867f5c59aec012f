/-
  TimerComes: what is added comes again, each as often as it was added, in order, whatever comes between: the law returns true for every input.
-/
import Derived.Test.YtbhpinmdpngbkaaEq
import Derived.Maps.AppendAt
namespace Go.Proofs.Ytbhpinmdpngbkaa.lawComes
open Go.ChangeShapes Go.WideShapes Go.ChangeAt Go.RowKit Go.Proofs.Ytbhpinmdpngbkaa.Pure

/-- append onto a slice of the call's own, and where the new slice lies. -/
theorem wpList_append_at {w : World} {ops : Array Oper} {rest : List Oper} {o : Oper} {a : Act} {Q : Exit → Act → World → Prop} (hgd : o.guard = none) (s x : Operand)
    (ho : o.op = .call { callee := .builtin .append, args := #[s, x], argTypes := #[22, 22] })
    (B : Nat) (v : Value) (xs : List Tm) (hs : a.eval s = v) (hown : Own w B v xs) (A : Option Addr) (c lo hi : Nat) (ys : List Tm) (hx : a.eval x = .slice A ys.length c) (hh : Has w lo hi A ys)
    (hlen : xs.length + ys.length ≤ 100000) (hB : B ≤ w.heap.size)
    (h : ∀ v' w', Own w' B v' (xs ++ ys) → w.grownBy w' v.ownBlock → (v'.ownBlock = v.ownBlock ∨ v'.ownBlock = some w.heap.size) → wpList Try.prog ops Q rest (a.put o.dst v') w') : wpList Try.prog ops Q (o :: rest) a w := by
  obtain ⟨i0, hi0, hz0, hz1, hz2⟩ := info_parts Try.infoTm
  have hrun : ∃ v' w', (Builtin.append_ #[22, 22] o.type #[v, .slice A ys.length c]).run Try.prog w = .ok v' w' ∧ Own w' B v' (xs ++ ys) ∧ w.grownBy w' v.ownBlock ∧ (v'.ownBlock = v.ownBlock ∨ v'.ownBlock = some w.heap.size) := by
    rcases A with _ | ad
    · obtain rfl := hh.none_nil
      exact ⟨v, w, run_append_nothing w o.type B v xs hown c i0 hi0, by simpa using hown, World.grownBy.refl _ _, .inl rfl⟩
    · obtain ⟨v', w', h1, h2, h3, _, h5⟩ := run_append_own_at (P := Try.prog) w B 22 o.type 33 i0 (.agg #[.int .i64 0, .int .i64 0, .int .i64 0, .int .u64 0]) 4 32 Try.underlying22 hi0 hz0 hz1 hz2 rfl (by decide) v _ _ hown ad ys.length c (tms ys) (tms_len ys) hh.cells (tms_one ys) (by unfold maxLen; omega) (by omega) hB
      exact ⟨v', w', h1, by simpa [Own, tms_append] using h2, h3, h5⟩
  obtain ⟨v', w', hr, h2, h3, h4⟩ := hrun
  refine wpList_plain hgd fun K hK => ?_
  unfold Oper.wp execOp
  simp only [ho, resolve, invoke, builtin, Sem.run_bind, Sem.run_pure, Result.andThen_ok, List.map_toArray, List.map_cons, List.map_nil, hs, hx, hr]
  exact hK _ _ (h v' w' h2 h3 h4)

/-- Two slices lie in different blocks. -/
def Apart (u v : Value) : Prop := ∀ k, u.ownBlock = some k → v.ownBlock ≠ some k
theorem Apart.symm {u v : Value} (h : Apart u v) : Apart v u := fun k hk hu => h k hu hk
/-- What one append leaves alone: a slice that lies in another block. -/
theorem stays {w w' : World} {B : Nat} {u v : Value} {xs : List Tm} (h : Own w B u xs) (hg : w.grownBy w' v.ownBlock) (ha : Apart u v) : Own w' B u xs :=
  h.keep fun k hk => hg.block k (h.ge k hk).2 fun e => ha k hk e.symm
theorem apart_moved {w : World} {B z : Nat} {u v v' : Value} {xs : List Tm} (h : Own w B u xs) (ha : Apart u v) (hz : w.heap.size ≤ z) (hat : v'.ownBlock = v.ownBlock ∨ v'.ownBlock = some z) : Apart u v' := fun k hk e => by
  rcases hat with e' | e'
  · exact ha k hk (e'.symm.trans e)
  · have h1 := (h.ge k hk).2
    have h2 : some z = some k := e'.symm.trans e
    injection h2 with h2
    omega
theorem apart_new {w : World} {B : Nat} {u v : Value} {xs : List Tm} (h : Own w B u xs) (hv : ∀ k, v.ownBlock = some k → k < B) : Apart u v := fun k hk e => by
  have h1 := (h.ge k hk).1
  have h2 := hv k e
  omega

/-- What holds between two rounds: what is open, what came, what was added. -/
structure St (w W : World) (xs : List Tm) (j : Nat) (v7 : Value) (os : List Tm) (v8 : Value) (cs : List Tm) (v9 : Value) : Prop where
  open_ : Own W w.heap.size v7 os
  came : Own W w.heap.size v8 cs
  added : Own W w.heap.size v9 (xs.take j)
  perm : (cs ++ os).Perm (xs.take j)
  sorted : Sorted os
  a78 : Apart v7 v8
  a79 : Apart v7 v9
  a89 : Apart v8 v9
  below : Below w.heap.size w W
theorem St.len {w W : World} {xs : List Tm} {j : Nat} {v7 : Value} {os : List Tm} {v8 : Value} {cs : List Tm} {v9 : Value} (h : St w W xs j v7 os v8 cs v9) : cs.length + os.length ≤ j := by
  have := h.perm.length_eq
  rw [List.length_append, List.length_take] at this
  omega
theorem St.fits {w W : World} {xs : List Tm} {j : Nat} {v7 : Value} {os : List Tm} {v8 : Value} {cs : List Tm} {v9 : Value} (h : St w W xs j v7 os v8 cs v9) (hf : Fits xs) : Fits os := fun x hx =>
  hf x (List.mem_of_mem_take (h.perm.subset (List.mem_append_right _ hx)))

set_option maxRecDepth 100000 in
set_option maxHeartbeats 8000000 in
theorem walk60 (A B : Option Addr) (c d n0 : Nat) (xs : List Tm) (is : List Int) (w : World) (hx : Lst w A xs) (fx : Fits xs) (nx : xs.length ≤ 60) (hcut : (n0 = xs.length ∧ n0 ≤ 60) ∨ (60 < n0 ∧ xs.length = 60 ∧ 60 ≤ c ∧ c ≤ 9223372036854775807)) (_hid : is.length ≤ 9223372036854775807)
    (his : ∀ j, j < is.length → ∃ ad, B = some ad ∧ ad.block < w.heap.size ∧ w.cell? (ad.add j) = some (.int .i64 (is.getD j 0))) :
    Calls Try.prog 5 #[.slice A n0 c, .slice B is.length d] w fun e w' => e = .returned (.bool true) ∧ Below w.heap.size w w' := by
  have LX := Lib.hid hx
  have FX := Lib.hid fx
  have HIS := Lib.hid his
  have H0 : Hid (St w w xs 0 (.slice none 0 0) [] (.slice none 0 0) [] (.slice none 0 0)) := Lib.hid ⟨Own.nil _ _, Own.nil _ _, Own.nil _ _, List.Perm.refl _, List.Pairwise.nil, (fun k h => by cases h), (fun k h => by cases h), (fun k h => by cases h), Below.refl _ _⟩
  have HL : Hid (∀ (x y : Tm) (L : Bool) (W : World), lt x y = L → Calls Try.prog 15 #[.agg #[.int .i64 x.a, .int .i64 x.k, .int .i64 x.o, .int .u64 x.n], .agg #[.int .i64 y.a, .int .i64 y.k, .int .i64 y.o, .int .u64 y.n]] W fun e w' => e = .returned (.bool L) ∧ Below W.heap.size W w') := Lib.hid (fun x y L W h => by
    subst h
    exact rless_any x.a x.k x.o x.n y.a y.k y.o y.n W)
  clear hx fx his
  go_enter Try.func5, Try.ntmps5
  go_upto_if 20 with (fail)
  go_cut [0] (fun s wx => s = .slice A xs.length c ∧ w = wx)
  case first =>
    rcases hcut with ⟨rfl, h2⟩ | ⟨h1, h2, h3, h4⟩
    · go_wp2_with fail
      go_meet
      exact ⟨rfl, rfl⟩
    · obtain ⟨ad, rfl, _⟩ := LX.out 0 (by omega)
      have HE := Lib.hid h2
      clear h2
      go_wp2_with fail
      go_meet
      exact ⟨by rw [HE.out], rfl⟩
  case rest =>
    obtain ⟨rfl, rfl⟩ := hcut
    go_wp2_with fail
    go_loopw [5, 7, 8, 9, 10] (fun s5 v7 v8 v9 i wr => ∃ (j : Nat) (nw : Int) (os cs : List Tm), i = .int .i64 j ∧ j ≤ xs.length ∧ s5 = .int .i64 nw ∧ Hid (St w wr xs j v7 os v8 cs v9)) (fun _ _ _ _ i _ => xs.length - (intOf i).toNat)
    case atStart => exact ⟨0, 0, [], [], by go_num, Nat.zero_le _, rfl, H0⟩
    case round =>
      obtain ⟨j, nw, os, cs, rfl, hj, rfl, st⟩ := hrel
      obtain ⟨wq, ewq⟩ : ∃ wq, wq = wr := ⟨_, rfl⟩
      subst ewq
      obtain ⟨Ao, co, rfl, _, hos⟩ := st.out.open_.has
      have HOS := Lib.hid hos
      have hlen := st.out.len
      have hzq : w.heap.size ≤ wq.heap.size := st.out.below.size
      clear hos
      by_cases hlt : j < xs.length
      · have LXq := Lib.hid (LX.out.on st.out.below)
        obtain ⟨ad, rfl, _, hhi, t0⟩ := LXq.out j hlt
        obtain ⟨x, hx⟩ : ∃ x, xs.getD j zt = x := ⟨_, rfl⟩
        rw [hx] at t0
        have HX := Lib.hid hx
        obtain ⟨x1, x2, x3, x4⟩ := t0.flat
        have HT1 : Hid (xs.take j ++ [x] = xs.take (j + 1)) := Lib.hid (by
          rw [List.take_succ_eq_append_getElem hlt, ← hx]
          simp [List.getD, hlt])
        have hxf : x.a ≤ 9223372036854775807 := FX.out x (by rw [← hx]; exact nth_mem hlt)
        obtain ⟨zs, hzs⟩ : ∃ zs, srt (os ++ [x]) = zs := ⟨_, rfl⟩
        have hzl : zs.length = os.length + 1 := by rw [← hzs, srt_len]; simp
        have hzso : Sorted zs := by rw [← hzs]; exact srt_sorted _
        have hzp : zs.Perm (os ++ [x]) := by rw [← hzs]; exact srt_perm _
        have HAdd := Lib.hid (add_yes Ao (some ⟨wq.heap.size, 0, none⟩) co 1 _ _ _ _ os [x] (wq.alloc (.cells #[.int .i64 x.a, .int .i64 x.k, .int .i64 x.o, .int .u64 x.n] 33))
          ((mayB_iff os).2 ⟨by omega, st.out.sorted⟩) (by simp; omega) (fun y hy => by
            rcases List.mem_append.1 hy with h | h
            · exact st.out.fits FX.out y h
            · rw [List.mem_singleton.1 h]; exact hxf) (HOS.out.alloc _ (Nat.le_refl _)) (by simp) (has_one wq x.a x.k x.o x.n _) (by simp))
        rw [hzs] at HAdd
        have HZL := Lib.hid hzl
        have HZSO := Lib.hid hzso
        have HZP := Lib.hid hzp
        have j0 : (0 : Int) ≤ (j : Int) := by omega
        have j1 : (j : Int) < (xs.length : Int) := by omega
        clear hx t0 hzs hzl hzso hzp hlen
        go_wp2_with fail
        refine HAdd.out.mono ?_
        rintro e w1 ⟨vn, rfl, hn1, hb1⟩
        obtain ⟨An, cn, rfl, _, _⟩ := hn1.has
        have hz1 : wq.heap.size + 1 ≤ w1.heap.size := by have := hb1.size; simpa using this
        have hk1 : ∀ k, k < wq.heap.size → w1.heap[k]? = wq.heap[k]? := fun k hk => (hb1.block k (by simp; omega)).trans (Below.heap_alloc wq _ k hk)
        have N1 : Hid (Own w1 (wq.heap.size + 1) (.slice An zs.length cn) zs) := Lib.hid (by simpa using hn1)
        have C1 := Lib.hid (st.out.came.keep fun k hk => hk1 k (st.out.came.ge k hk).2)
        have D1 := Lib.hid (st.out.added.keep fun k hk => hk1 k (st.out.added.ge k hk).2)
        have B1 : Hid (Below w.heap.size w w1) := Lib.hid ((st.out.below.alloc hzq _).trans (hb1.mono (by simp; omega)))
        have K8 : Hid (∀ k, u8.ownBlock = some k → k < wq.heap.size + 1) := Lib.hid fun k hk => by have := (st.out.came.ge k hk).2; omega
        have K9 : Hid (∀ k, u9.ownBlock = some k → k < wq.heap.size + 1) := Lib.hid fun k hk => by have := (st.out.added.ge k hk).2; omega
        have A89 := Lib.hid st.out.a89
        have PM := Lib.hid st.out.perm
        have hlen' : cs.length + os.length ≤ j := st.out.len
        clear hn1 hb1 hk1 HAdd HOS x1 x2 x3 x4 LXq
        obtain ⟨_, _, e9, _, hh9⟩ := N1.out.has
        injection e9 with e9a e9b e9c
        have HNL : Hid (Has w1 (wq.heap.size + 1) w1.heap.size An zs) := Lib.hid (by rw [e9a]; exact hh9)
        have hzl60 : zs.length ≤ 200 := by rw [HZL.out]; omega
        have HCk := Lib.hid (check_any An cn _ _ zs w1 (by omega) HNL.out (Nat.le_refl _) true ((mayB_iff zs).2 ⟨by omega, HZSO.out⟩))
        clear hh9 e9a e9b e9c
        go_wp2_with fail
        refine HCk.out.mono ?_
        rintro e w2 ⟨rfl, hb2⟩
        have hok : okE true = 0 := rfl
        rw [hok]
        have N2 := Lib.hid (N1.out.keep fun k hk => hb2.block k (N1.out.ge k hk).2)
        have C2 := Lib.hid (C1.out.keep fun k hk => hb2.block k (C1.out.ge k hk).2)
        have D2 := Lib.hid (D1.out.keep fun k hk => hb2.block k (D1.out.ge k hk).2)
        have B2 : Hid (Below w.heap.size w w2) := Lib.hid (B1.out.trans (hb2.mono B1.out.size))
        have hz2 : w1.heap.size ≤ w2.heap.size := hb2.size
        clear hb2 hok HCk HNL N1 C1 D1 B1
        obtain ⟨ad', ee, _, _, t0⟩ := (LX.out.on B2.out) j hlt
        obtain rfl := Option.some.inj ee
        rw [HX.out] at t0
        obtain ⟨x1, x2, x3, x4⟩ := t0.flat
        clear t0 ee
        go_wp2_with (at_builtin; refine wpList_append_at rfl _ _ rfl w.heap.size u9 (xs.take j) rfl (D2.out.alloc _) (some ⟨w2.heap.size, 0, none⟩) 1 w2.heap.size (w2.heap.size + 1) [x] rfl (has_one w2 x.a x.k x.o x.n _) ?c3 ?c4 ?_)
        case c3 => rw [List.length_take]; simp; omega
        case c4 => simp; omega
        intro v9 w3 own3 grow3 at3
        rw [HT1.out] at own3
        have hz3 : w2.heap.size + 1 ≤ w3.heap.size := by have := grow3.size; simpa using this
        have AN9 : Apart (.slice An zs.length cn) u9 := apart_new N2.out K9.out
        have N3 : Hid (Own w3 (wq.heap.size + 1) (.slice An zs.length cn) zs) := Lib.hid (stays (N2.out.alloc _) grow3 AN9)
        have C3 : Hid (Own w3 w.heap.size u8 cs) := Lib.hid (stays (C2.out.alloc _) grow3 A89.out)
        have D3 := Lib.hid own3
        have AN9' : Hid (Apart (.slice An zs.length cn) v9) := Lib.hid (apart_moved N2.out AN9 (Nat.le_succ _) at3)
        have A89' : Hid (Apart u8 v9) := Lib.hid (apart_moved C2.out A89.out (Nat.le_succ _) at3)
        have AN8 : Hid (Apart (.slice An zs.length cn) u8) := Lib.hid (apart_new N2.out K8.out)
        have B3 : Hid (Below w.heap.size w w3) := Lib.hid ((B2.out.alloc B2.out.size _).grown grow3 (by have := B2.out.size; simp; omega) (fun k hk => (D2.out.ge k hk).1))
        have K8' : Hid (∀ k, u8.ownBlock = some k → k < w3.heap.size) := Lib.hid fun k hk => (C3.out.ge k hk).2
        have K9' : Hid (∀ k, v9.ownBlock = some k → k < w3.heap.size) := Lib.hid fun k hk => (D3.out.ge k hk).2
        have PM3 : Hid ((cs ++ zs).Perm (xs.take (j + 1))) := Lib.hid (by
          rw [← HT1.out]
          have h1 : (cs ++ zs).Perm (cs ++ (os ++ [x])) := List.Perm.append_left cs HZP.out
          rw [← List.append_assoc] at h1
          exact h1.trans (PM.out.append_right _))
        clear own3 grow3 at3 AN9 N2 C2 D2 B2 K8 K9 A89 PM x1 x2 x3 x4 st HZP
        by_cases hst : j < is.length
        · have d4 : decide (is.length ≤ j) = false := by simp; omega
          obtain ⟨bd, rfl, hbd, hcell⟩ := HIS.out j hst
          have hcj : w3.cell? (bd.add j) = some (.int .i64 (is.getD j 0)) := (B3.out.cell (by rw [block_add]; exact hbd)).trans hcell
          generalize is.getD j 0 = sj at *
          have s1 : (j : Int) < (is.length : Int) := by omega
          clear hcell
          go_upto_region 13 with (fail)
          go_cut [5, 6] (fun s5 s6 wx => ∃ nw' : Int, s5 = .int .i64 nw' ∧ s6 = .int .i64 nw ∧ nw ≤ nw' ∧ w3.drew = wx)
          case first =>
            go_region
            all_goals go_wp2_with fail
            all_goals
              go_meet
              exact ⟨_, rfl, rfl, by omega, rfl⟩
          case rest =>
            obtain ⟨nw', rfl, rfl, hnw, rfl⟩ := hcut
            obtain ⟨_, _, e9, _, hh9⟩ := N3.out.has
            injection e9 with e9a e9b e9c
            have hfz : ∀ y ∈ zs, y.a ≤ 9223372036854775807 := fun y hy => FX.out y (List.mem_of_mem_take (PM3.out.subset (List.mem_append_right _ hy)))
            have HDue := Lib.hid (due_yes An cn _ _ zs nw' w3.drew ((mayB_iff zs).2 ⟨by omega, HZSO.out⟩) hfz (by rw [e9a]; exact hh9.drew) (Nat.le_refl _))
            obtain ⟨dl, has⟩ : ∃ dl, dueL nw' zs = dl := ⟨_, rfl⟩
            obtain ⟨bs, hbs⟩ : ∃ bs, restL nw' zs = bs := ⟨_, rfl⟩
            have hasl : dl.length ≤ 200 := by rw [← has]; exact Nat.le_trans (List.length_filter_le _ _) hzl60
            have hbsl : bs.length ≤ 200 := by rw [← hbs]; exact Nat.le_trans (List.length_filter_le _ _) hzl60
            have HAD : Hid (∀ k, k < dl.length → (nth dl k).a ≤ nw') := Lib.hid fun k hk => by
              have := nth_mem hk
              rw [← has] at this
              rw [has] at this
              have h2 : nth dl k ∈ dueL nw' zs := by rw [has]; exact this
              simpa using (List.mem_filter.1 h2).2
            have HBD : Hid (∀ k, k < bs.length → nw' < (nth bs k).a) := Lib.hid fun k hk => by
              have := nth_mem hk
              have h2 : nth bs k ∈ restL nw' zs := by rw [hbs]; exact this
              have h3 := (List.mem_filter.1 h2).2
              simp at h3
              exact h3
            have HASO : Hid (Sorted dl) := Lib.hid (by rw [← has]; exact HZSO.out.filter _)
            have HBSO : Hid (Sorted bs) := Lib.hid (by rw [← hbs]; exact HZSO.out.filter _)
            have HSPL : Hid (dl ++ bs = zs) := Lib.hid (by rw [← has, ← hbs]; exact due_rest HZSO.out nw')
            rw [has, hbs] at HDue
            clear has hbs e9a e9b e9c hh9 hfz hcj
            go_wp2_with fail
            refine HDue.out.mono ?_
            rintro e w4 ⟨lv, rv, rfl, hl4, hr4, hb4⟩
            obtain ⟨Aa, ca, rfl, _, _⟩ := hl4.has
            obtain ⟨Ab, cb, rfl, _, _⟩ := hr4.has
            have hz4 : w3.heap.size ≤ w4.heap.size := hb4.size
            have L4 : Hid (Own w4 w3.heap.size (.slice Aa dl.length ca) dl) := Lib.hid hl4
            have R4 : Hid (Own w4 w3.heap.size (.slice Ab bs.length cb) bs) := Lib.hid hr4
            have C4 : Hid (Own w4 w.heap.size u8 cs) := Lib.hid (C3.out.keep fun k hk => hb4.block k (C3.out.ge k hk).2)
            have D4 : Hid (Own w4 w.heap.size v9 (xs.take (j + 1))) := Lib.hid (D3.out.keep fun k hk => hb4.block k (D3.out.ge k hk).2)
            have B4 : Hid (Below w.heap.size w w4) := Lib.hid (B3.out.drew.trans (hb4.mono B3.out.size))
            have AR8 : Hid (Apart (.slice Ab bs.length cb) u8) := Lib.hid (apart_new R4.out K8'.out)
            have AR9 : Hid (Apart (.slice Ab bs.length cb) v9) := Lib.hid (apart_new R4.out K9'.out)
            clear hl4 hr4 hb4 HDue N3 C3 D3 B3 K8' K9' AN8 AN9'
            go_wp2_with fail
            go_loopw [16] (fun i wx => ∃ k : Nat, i = .int .i64 k ∧ k ≤ dl.length ∧ Hid (Below w4.heap.size w4 wx)) (fun i _ => dl.length - (intOf i).toNat)
            case atStart => exact ⟨0, by go_num, Nat.zero_le _, Lib.hid (Below.refl _ _)⟩
            case round =>
              obtain ⟨k, rfl, hk, hbx⟩ := hrel
              obtain ⟨wx, ewx⟩ : ∃ wx, wx = wr := ⟨_, rfl⟩
              subst ewx
              by_cases hlk : k < dl.length
              · obtain ⟨_, _, e9, _, hh9⟩ := L4.out.has
                injection e9 with e9a e9b e9c
                rw [← e9a] at hh9
                have hhx := hh9.on hbx.out (Nat.le_refl _)
                obtain ⟨ed, rfl, _, _, t1⟩ := hhx k hlk
                have t1' : At wx (ed.add (k * 4)) (nth dl k) := t1
                have hya := HAD.out k hlk
                have k0 : (0 : Int) ≤ (k : Int) := by omega
                have k1 : (k : Int) < (dl.length : Int) := by omega
                rcases Nat.eq_zero_or_pos k with hk0 | hk0
                · generalize nth dl k = y at *
                  obtain ⟨y1, y2, y3, y4⟩ := t1'.flat
                  have Y1 := fun d os => cell_regrown y1 d os
                  have f1 : decide (nw' < y.a) = false := by simp; omega
                  have f2 : decide ((0 : Int) < (k : Int)) = false := by simp; omega
                  have f3 : decide (0 < k) = false := by simp; omega
                  clear t1 t1' hhx hh9 e9a e9b e9c y1 y2 y3 y4 hk0
                  go_wp2_with fail
                  refine q_enter (by kernel_rfl) (by kernel_rfl) ?_
                  iterate 23 (refine q_step ?_; intro K hK; go_simp; refine hK _ ?_; clear hK K)
                  refine q_nil ?_
                  intro wz hbz
                  have HZ : Hid (Below w4.heap.size w4 wz) := Lib.hid (hbx.out.trans (hbz.mono hbx.out.size))
                  clear hbz
                  go_wp2_with fail
                  go_roundw
                  case rel => exact ⟨k + 1, by go_num, by omega, HZ⟩
                  case measure => simp [intOf]; omega
                · obtain ⟨m, hmk⟩ : ∃ m, m + 1 = k := ⟨k - 1, by omega⟩
                  obtain ⟨ed', ee, _, _, t2⟩ := hhx m (by omega)
                  obtain rfl := Option.some.inj ee
                  have t2' : At wx (ed.add (m * 4)) (nth dl m) := t2
                  have hls : lt (nth dl k) (nth dl m) = false := by
                    have := HASO.out.steps m (by omega)
                    rw [hmk] at this
                    exact this
                  have HLS := Lib.hid hls
                  generalize nth dl k = y at *
                  generalize nth dl m = z at *
                  obtain ⟨y1, y2, y3, y4⟩ := t1'.flat
                  obtain ⟨z1, z2, z3, z4⟩ := t2'.flat
                  have Y1 := fun d os => cell_regrown y1 d os
                  have Y2 := fun d os => cell_regrown y2 d os
                  have Y3 := fun d os => cell_regrown y3 d os
                  have Y4 := fun d os => cell_regrown y4 d os
                  have Z1 := fun d os => cell_regrown z1 d os
                  have Z2 := fun d os => cell_regrown z2 d os
                  have Z3 := fun d os => cell_regrown z3 d os
                  have Z4 := fun d os => cell_regrown z4 d os
                  have f1 : decide (nw' < y.a) = false := by simp; omega
                  have f2 : decide ((0 : Int) < (k : Int)) = true := by simp; omega
                  have f3 : decide (0 < k) = true := by simp; omega
                  have m0 : (0 : Int) ≤ (m : Int) := by omega
                  have m1 : (m : Int) < (dl.length : Int) := by omega
                  have i4 : (k : Int) - 1 = (m : Int) := by omega
                  have i5 : IntKind.i64.wrap (m : Int) = (m : Int) := IntWalk.i64_in _ (by omega)
                  clear t1 t1' t2 t2' hhx hh9 e9a e9b e9c ee hls y1 y2 y3 y4 z1 z2 z3 z4 hk0 hmk
                  go_wp2_with fail
                  refine q_enter (by kernel_rfl) (by kernel_rfl) ?_
                  iterate 20 (refine q_step ?_; intro K hK; go_simp; refine hK _ ?_; clear hK K)
                  refine q_step ?_
                  intro K hK
                  go_simp
                  refine ⟨_, fun p => Calls.regrown_of (HL.out y z false _ HLS.out), hK _ ?_⟩
                  clear hK K
                  iterate 2 (refine q_step ?_; intro K hK; go_simp; refine hK _ ?_; clear hK K)
                  refine q_nil ?_
                  intro wz hbz
                  have HZ : Hid (Below w4.heap.size w4 wz) := Lib.hid (hbx.out.trans (hbz.mono hbx.out.size))
                  clear hbz i4 i5
                  go_wp2_with fail
                  go_roundw
                  case rel => exact ⟨k + 1, by go_num, by omega, HZ⟩
                  case measure => simp [intOf]; omega
              · obtain rfl : k = dl.length := by omega
                have f5 : decide (nw' < nw) = false := by simp; omega
                go_wp2_with fail
                go_loopw [17] (fun i wx => ∃ k : Nat, i = .int .i64 k ∧ k ≤ bs.length ∧ Hid (Below w4.heap.size w4 wx)) (fun i _ => bs.length - (intOf i).toNat)
                case atStart => exact ⟨0, by go_num, Nat.zero_le _, hbx⟩
                case round =>
                  obtain ⟨k, rfl, hk2, hby⟩ := hrel
                  obtain ⟨wy, ewy⟩ : ∃ wy, wy = wr := ⟨_, rfl⟩
                  subst ewy
                  by_cases hlk : k < bs.length
                  · obtain ⟨_, _, e9, _, hh9⟩ := R4.out.has
                    injection e9 with e9a e9b e9c
                    rw [← e9a] at hh9
                    obtain ⟨ed, rfl, _, _, t1⟩ := (hh9.on hby.out (Nat.le_refl _)) k hlk
                    have t1' : At wy (ed.add (k * 4)) (nth bs k) := t1
                    have hyb := HBD.out k hlk
                    have k0 : (0 : Int) ≤ (k : Int) := by omega
                    have k1 : (k : Int) < (bs.length : Int) := by omega
                    generalize nth bs k = y at *
                    obtain ⟨y1, _, _, _⟩ := t1'.flat
                    have f1 : decide (y.a ≤ nw') = false := by simp; omega
                    clear t1 t1' hh9 e9a e9b e9c
                    go_wp2_with fail
                    go_roundw
                    case rel => exact ⟨k + 1, by go_num, by omega, hby⟩
                    case measure => simp [intOf]; omega
                  · obtain rfl : k = bs.length := by omega
                    have C5 := Lib.hid (C4.out.keep fun k hk => hby.out.block k (C4.out.ge k hk).2)
                    have D5 := Lib.hid (D4.out.keep fun k hk => hby.out.block k (D4.out.ge k hk).2)
                    have L5 := Lib.hid (L4.out.keep fun k hk => hby.out.block k (L4.out.ge k hk).2)
                    have R5 := Lib.hid (R4.out.keep fun k hk => hby.out.block k (R4.out.ge k hk).2)
                    have B5 : Hid (Below w.heap.size w wy) := Lib.hid (B4.out.trans (hby.out.mono B4.out.size))
                    obtain ⟨_, _, e9, _, hh9⟩ := L5.out.has
                    injection e9 with e9a e9b e9c
                    rw [← e9a] at hh9
                    have HL5 := Lib.hid hh9
                    clear hh9 e9a e9b e9c hbx hby
                    go_wp2_with (at_builtin; refine wpList_append_at rfl _ _ rfl w.heap.size u8 cs rfl C5.out Aa ca w3.heap.size wy.heap.size dl rfl HL5.out ?c3 B5.out.size ?_)
                    case c3 => omega
                    intro v8 w6 own6 grow6 at6
                    have R6 : Hid (Own w6 w3.heap.size (.slice Ab bs.length cb) bs) := Lib.hid (stays R5.out grow6 AR8.out)
                    have D6 : Hid (Own w6 w.heap.size v9 (xs.take (j + 1))) := Lib.hid (stays D5.out grow6 A89'.out.symm)
                    have HS6 : Hid (St w w6 xs (j + 1) (.slice Ab bs.length cb) bs v8 (cs ++ dl) v9) := Lib.hid ⟨R6.out.mono (by omega), own6, D6.out, by
                        rw [List.append_assoc, HSPL.out]; exact PM3.out, HBSO.out, apart_moved R5.out AR8.out (Nat.le_refl _) at6, AR9.out, (apart_moved D5.out A89'.out.symm (Nat.le_refl _) at6).symm, B5.out.grown grow6 B5.out.size (fun k hk => (C5.out.ge k hk).1)⟩
                    clear own6 grow6 at6
                    go_wp2_with fail
                    go_roundw
                    case rel => exact ⟨j + 1, nw', bs, cs ++ dl, by go_num, by omega, rfl, HS6⟩
                    case measure => simp [intOf]; omega
        · have d4 : decide (is.length ≤ j) = true := by simp; omega
          go_wp2_with fail
          go_roundw
          case rel => exact ⟨j + 1, nw, zs, cs, by go_num, by omega, rfl, Lib.hid ⟨N3.out.mono (by omega), C3.out, D3.out, PM3.out, HZSO.out, AN8.out, AN9'.out, A89'.out, B3.out⟩⟩
          case measure => simp [intOf]; omega
      · obtain rfl : j = xs.length := by omega
        have HLEN : Hid (cs.length + os.length ≤ 60) := Lib.hid (by omega)
        obtain ⟨Ac, cc, e8, _, hcs⟩ := st.out.came.has
        obtain ⟨A9, c9, e9, _, h9⟩ := st.out.added.has
        rw [List.take_length] at e9 h9
        subst e8 e9
        have HC := Lib.hid hcs
        have H9 : Hid (Lst wq A9 xs) := Lib.hid (Lst.of h9 (Nat.le_refl _))
        have HB := Lib.hid st.out.below
        have HPM : Hid ((cs ++ os).Perm xs) := Lib.hid (by have := st.out.perm; rwa [List.take_length] at this)
        clear st hcs h9 H0 hlen
        obtain ⟨ms, hms⟩ : ∃ ms, cs ++ os = ms := ⟨_, rfl⟩
        obtain ⟨S, hS⟩ : ∃ S, srt xs = S := ⟨_, rfl⟩
        have HMS := Lib.hid hms
        have hml : ms.length ≤ 60 := by rw [← hms, HPM.out.length_eq]; exact nx
        have hsl : S.length ≤ 60 := by rw [← hS, srt_len]; exact nx
        have HR1 : Hid (∀ (W : World) (D : Option Addr) (e : Nat), Lst W D ms → Calls Try.prog 18 #[.slice D ms.length e] W (Lists W S)) := Lib.hid fun W D e h => by
          have h2 := l_rsort (c := e) h (by omega)
          have h3 : srt ms = S := by rw [← hS, ← hms]; exact srt_congr HPM.out
          rwa [h3] at h2
        have HR2 : Hid (∀ (W : World) (D : Option Addr) (e : Nat), Lst W D xs → Calls Try.prog 18 #[.slice D xs.length e] W (Lists W S)) := Lib.hid fun W D e h => by
          have h2 := l_rsort (c := e) h (by omega)
          rwa [hS] at h2
        clear hms hS
        go_wp2_with (at_builtin; refine wpList_append_has rfl _ _ rfl wq.heap.size (.slice (some ⟨wq.heap.size, 0, none⟩) 0 0) [] rfl ?c1 Ac cc w.heap.size wq.heap.size cs rfl (HC.out.alloc _ (Nat.le_refl _)) ?c3 ?c4 ?_)
        case c1 => exact World.ownsRow_made wq #[] 0 (Nat.le_refl _) (Nat.zero_le _) rfl
        case c3 => have := HLEN.out; simp; omega
        case c4 => simp
        intro v1 W1 own1 grow1
        have OW1 : Hid (Own W1 wq.heap.size v1 cs) := Lib.hid (by simpa using own1)
        have BW1 : Hid (Below wq.heap.size wq W1) := Lib.hid (((Below.refl _ wq).alloc (Nat.le_refl _) _).grown grow1 (by simp) (by intro k hk; simp [Value.ownBlock] at hk; omega))
        clear own1 grow1
        go_wp2_with (at_builtin; refine wpList_append_has rfl _ _ rfl wq.heap.size v1 cs rfl OW1.out Ao co w.heap.size wq.heap.size os rfl (HOS.out.on BW1.out (Nat.le_refl _)) ?c3 BW1.out.size ?_)
        case c3 => have := HLEN.out; omega
        intro v2 W2 own2 grow2
        have hbW : Below wq.heap.size wq W2 := BW1.out.grown grow2 BW1.out.size (fun k hk => (OW1.out.ge k hk).1)
        rw [HMS.out] at own2
        obtain ⟨A5, c5, rfl, _, hl5⟩ := own2.lst
        have L5 := Lib.hid hl5
        have L9 := Lib.hid (H9.out.on hbW)
        have B5 : Hid (Below w.heap.size w W2) := Lib.hid (HB.out.trans (hbW.mono hzq))
        clear OW1 BW1 own2 grow2 hl5 hbW HC H9 HB HOS
        go_wp2_with fail
        refine (HR1.out _ _ _ L5.out).mono ?_
        rintro e w6 ⟨A6, c6, rfl, hl6, hb6⟩
        have L6 := Lib.hid hl6
        have L9' := Lib.hid (L9.out.on hb6)
        have B6 : Hid (Below w.heap.size w w6) := Lib.hid (B5.out.trans (hb6.mono B5.out.size))
        clear hl6 hb6 L9 L5
        go_wp2_with fail
        refine (HR2.out _ _ _ L9'.out).mono ?_
        rintro e w7 ⟨A7, c7, rfl, hl7, hb7⟩
        have L7 := Lib.hid hl7
        have L6' := Lib.hid (L6.out.on hb7)
        have B7 : Hid (Below w.heap.size w w7) := Lib.hid (B6.out.trans (hb7.mono B6.out.size))
        clear hl7 hb7 L6 L9'
        go_wp2_with fail
        refine (l_same L6'.out L7.out (by omega)).mono ?_
        rintro e w8 ⟨rfl, hb8⟩
        have B8 : Hid (Below w.heap.size w w8) := Lib.hid (B7.out.trans (hb8.mono B7.out.size))
        clear hb8
        go_wp2_with fail
        refine (awake_any _).mono ?_
        rintro e wE ⟨rfl, hbE⟩
        have HE : Hid (Below w.heap.size w wE) := Lib.hid (B8.out.trans (hbE.mono B8.out.size))
        clear hbE
        go_wp2_with fail
        go_ret
        exact ⟨rfl, HE.out⟩

theorem walk (A B : Option Addr) (c d : Nat) (xs0 : List Tm) (is : List Int) (w : World) (hc : xs0.length ≤ c) (hm : c ≤ maxLen) (hl : Lst w A xs0) (hf : Fits xs0) (hid : is.length ≤ d) (hdm : d ≤ maxLen)
    (his : ∀ j, j < is.length → ∃ ad, B = some ad ∧ ad.block < w.heap.size ∧ w.cell? (ad.add j) = some (.int .i64 (is.getD j 0))) :
    Calls Try.prog 5 #[.slice A xs0.length c, .slice B is.length d] w fun e w' => e = .returned (.bool true) ∧ Below w.heap.size w w' := by
  unfold maxLen at hm hdm
  have hx : Lst w A (xs0.take 60) := Has.take hl 60
  have fx : Fits (xs0.take 60) := fun x h => hf x (List.mem_of_mem_take h)
  have hlen : (xs0.take 60).length = min 60 xs0.length := List.length_take
  refine walk60 A B c d xs0.length (xs0.take 60) is w hx fx (by omega) ?_ (by omega) his
  rcases Nat.lt_or_ge 60 xs0.length with h | h
  · exact .inr ⟨h, by omega, by omega, by omega⟩
  · exact .inl ⟨by omega, h⟩

/-! ### the statement -/
theorem parOk : ∀ t ∈ (#[22, 46] : Array TypeId).toList, Try.prog.readableRec t = true ∧ t < Try.prog.types.size := by
  have hall : ([22, 46].all fun t => Try.prog.readableRec t && decide (t < Try.prog.types.size)) = true := by kernel_rfl
  intro t ht
  simpa using List.all_eq_true.1 hall t ht

/-- What the walk gives, for every argument. -/
theorem contract (H : Type) (enc : TypeId × Value → H) (W : World) (base : Nat) (args : Array Value) (ds gs : List (DataW H)) (before : List MemPlace)
    (hval : ∀ (j : Nat) t v, Try.f5.params[j]? = some t → args[j]? = some v → Value.okWide Try.prog W .any base t v)
    (hW : DataW.Whole enc Try.prog Try.f5.params.toList Rows.timerComesSpec.vars false W args.toList ds gs before) :
    Calls Try.prog 5 args W fun e W' => ∃ v, e = .returned v ∧ Rows.timerComesSpec.post enc Try.prog Try.f5 false true false false W args v W' := by
  have hW' := hW
  obtain ⟨p, q, hA0, hV, rfl, hfz, hnd⟩ := hW
  have hA : DataW.TrodAll enc Try.prog W 0 (fun _ => true) true Try.f5.params.toList args.toList ds p := hA0
  rw [Try.params5] at hA hval
  obtain ⟨v0, vs0, d0, ds0, p0, q0, hargs, rfl, rfl, h0, r0⟩ := trodAll_cons hA
  obtain ⟨v1, vs1, d1, ds1, p1, q1, rfl, rfl, rfl, h1, r1⟩ := trodAll_cons r0
  obtain ⟨rfl, rfl, rfl⟩ := trodAll_nil r1
  obtain rfl : args = #[v0, v1] := by cases args; simp_all
  obtain ⟨rfl, rfl⟩ := trodVars_none hV
  obtain ⟨Axs, cxs, xs, rfl, hcxs, hmxs, hlxs, hfxs⟩ := open_tms (hval 0 22 v0 rfl rfl) h0
  obtain ⟨B, d, is, rfl, hcis, hmis, his, hfis⟩ := open_ticks (hval 1 46 v1 rfl rfl) h1
  clear hA0
  refine (walk Axs B cxs d xs is W hcxs hmxs hlxs hfxs hcis hmis his).mono fun e W' ⟨he, hb⟩ => ?_
  subst he
  exact ⟨_, rfl, law_post rfl (by rw [Try.params5]; exact parOk) rfl hW' rfl rfl rfl hb⟩

set_option maxRecDepth 100000 in
theorem lifted (os : Os) (started : os.Started) (H : Type) (enc : TypeId × Value → H) :
    ReturnsInHanded {} Try.checked os 5 .any (Rows.timerComesSpec.pre6 enc Try.prog Try.f5 Rows.timerComesRow.domain false) (Rows.timerComesSpec.post enc Try.prog Try.f5 false true false false) := by
  refine returnsInHanded_of_change (C := Try.checked) own started (by kernel_rfl) Try.func5
    (ChangeSpec.witness6 (enc := enc) (C := Try.checked) false ⟨#[], #[.slice none 0 0, .slice none 0 0], []⟩ 8 (by kernel_rfl) (by kernel_rfl) (by kernel_rfl) (by kernel_rfl)) ?_
  intro W base args ds gs before hval hW _ _
  exact contract H enc W base args ds gs before hval hW

/-- THE STATEMENT. -/
theorem said : Rows.TimerComesSaid :=
  OpenClaim.holds_of_wide 5 Try.f5 rfl rfl rfl rfl rfl rfl rfl ⟨rfl, rfl, rfl, rfl, rfl⟩ rfl rfl rfl rfl rfl (by kernel_rfl) Try.func5 (by kernel_rfl)
    (of_decide_eq_true (by kernel_rfl)) (by unfold Func.isWrapper; first | (rw [if_pos (by decide +kernel)]; kernel_rfl) | (rw [if_neg (by decide +kernel)]; exact ⟨rfl, rfl⟩))
    (fun os started H enc _ => lifted os started H enc)
end Go.Proofs.Ytbhpinmdpngbkaa.lawComes
