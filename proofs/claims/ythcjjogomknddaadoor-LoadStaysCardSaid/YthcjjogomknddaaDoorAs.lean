/-
  The walks of Assign, and of the document's Assign.
-/
import Derived.Test.YthcjjogomknddaaDoorPut
namespace Go.Proofs.YthcjjogomknddaaDoor
open Go.Sort Go.RowKit Go.Proofs.YthcjjogomknddaaDoor.Pure

theorem run_appendPu (w : World) (ty : TypeId) (B : Nat) (v : Value) (xs : List Pu) (hown : OwnU w B v xs) (A : Option Addr) (c : Nat) (ys : List Pu) (hh : Us w A ys) (hlen : xs.length + ys.length ≤ 100000) (hB : B ≤ w.heap.size) :
    ∃ v' w', (Builtin.append_ #[24, 24] ty #[v, .slice A ys.length c]).run Tryd.prog w = .ok v' w' ∧ OwnU w' B v' (xs ++ ys) ∧ w.grownBy w' v.ownBlock := by
  obtain ⟨i0, hi0, hz0, hz1, hz2⟩ := info_parts Tryd.infoPu
  rcases A with _ | ad
  · obtain rfl := hh.none_nil
    exact ⟨v, w, run_append_nothingPu w ty B v xs hown c i0 hi0, by simpa using hown, World.grownBy.refl _ _⟩
  · obtain ⟨v', w', h1, h2, h3, _⟩ := run_append_own (P := Tryd.prog) w B 24 ty 36 i0 (.agg #[.string ByteArray.empty, .int .i64 0]) 2 24 Tryd.underlying24 hi0 hz0 hz1 hz2 rfl (by decide) v _ _ hown ad ys.length c (uss ys) (uss_len ys) hh.cells (uss_one ys) (by unfold maxLen; omega) (by omega) hB
    exact ⟨v', w', h1, by simpa [OwnU, uss_append] using h2, h3⟩
theorem wp_appendPu {w : World} {o : Oper} {a : Act} {K : Act → World → Prop} {Q : Exit → Act → World → Prop} (s x : Operand)
    (ho : o.op = .call { callee := .builtin .append, args := #[s, x], argTypes := #[24, 24] })
    (B : Nat) (v : Value) (xs : List Pu) (hs : a.eval s = v) (hown : OwnU w B v xs) (A : Option Addr) (c : Nat) (ys : List Pu) (hx : a.eval x = .slice A ys.length c) (hh : Us w A ys)
    (hlen : xs.length + ys.length ≤ 100000) (hB : B ≤ w.heap.size)
    (h : ∀ v' w', OwnU w' B v' (xs ++ ys) → w.grownBy w' v.ownBlock → K (a.put o.dst v') w') : o.wp Tryd.prog a w K Q := by
  obtain ⟨v', w', hr, h2, h3⟩ := run_appendPu w o.type B v xs hown A c ys hh hlen hB
  unfold Oper.wp execOp
  simp only [ho, resolve, invoke, builtin, Sem.run_bind, Sem.run_pure, Result.andThen_ok, List.map_toArray, List.map_cons, List.map_nil, hs, hx, hr]
  exact h v' w' h2 h3

/-- What is put by nodes' ring. -/
abbrev wlkA (xs : List Int) (s : Nat) : ByteArray → List Int := fun t => walkP (ptsP xs s) (sumK t)
abbrev asgA2 (xs : List Int) (s : Nat) (l : List ByteArray) : List Pu := asg (wlkA xs s) (boundN l.length xs.length) l
theorem room_of {xs : List Int} (h : nodesB xs = true) (h0 : 0 < xs.length) {s : Nat} (hs : 0 < s) (l l' : List ByteArray) (hl : l'.length ≤ l.length) : Room (wlkA xs s) xs (boundN l.length xs.length) l' where
  nodup := ((numsB_iff _).1 (nodesB_nums h)).2
  walk := fun t _ x => pts_walk_mem hs (sumK t) x
  room := Nat.le_trans hl (bound_holds h0)
theorem nodes_in {xs : List Int} (h : nodesB xs = true) : ∀ x ∈ xs, 0 ≤ x ∧ x < 64 := ((numsB_iff _).1 (nodesB_nums h)).1
theorem two_new (W : World) (a b : Int) (t : TypeId) : ∀ j, j < [a, b].length → (W.alloc (.cells #[.int .i64 a, .int .i64 b] t)).cell? ((⟨W.heap.size, 0, none⟩ : Addr).add j) = some (.int .i64 ([a, b].getD j 0)) := fun j hj => by
  match j, hj with
  | 0, _ => go_simp
  | 1, _ => go_simp

set_option maxRecDepth 100000 in
set_option maxHeartbeats 4000000 in
/-- What may not be. -/
theorem assign_bad (A A' : Option Addr) (c c' lo hi : Nat) (xs : List Int) (s : Int) (l : List ByteArray) (w : World) (hn : xs.length ≤ 100000) (hN : Has w lo hi A xs) (hh : hi ≤ w.heap.size) (hn2 : l.length ≤ 9223372036854775807) (hL : Ss w A' l) (hs : Shrt l)
    (hb : nodesB xs = false ∨ s < 1 ∨ 32 < s ∨ tskB l = false) :
    Calls Tryd.prog 20 #[.slice A xs.length c, .int .i64 s, .slice A' l.length c'] w fun r w' => r = .returned (.tuple #[.slice none 0 0, .int .i64 1]) ∧ Below w.heap.size w w' := by
  have HL := Lib.hid hL
  have HTK := Lib.hid (fun (W : World) (h : Ss W A' l) => tasks_any A' c' l W hn2 h hs _ rfl)
  have HOR := Lib.hid (fun (a b : Int) (W : World) => or_any ⟨W.heap.size, 0, none⟩ [a, b] 2 (W.alloc (.cells #[.int .i64 a, .int .i64 b] 30)) (by simp) (two_new W a b _))
  by_cases hP : nodesB xs = false ∨ s < 1 ∨ 32 < s
  · have HP := Lib.hid (points_no A c lo hi xs s w hn hN hh hP)
    generalize okE (tskB l) = E at *
    generalize xs.length = n at *
    generalize l.length = n' at *
    have HF : Hid (∀ b : Int, firstN [1, b] = 1) := Lib.hid (fun b => rfl)
    clear hL hs hN hb hP
    go_enter Tryd.func20, Tryd.ntmps20
    go_wp2_with fail
    refine HP.out.mono ?_
    rintro e w1 ⟨rfl, hb1⟩
    go_wp2_with fail
    refine (HTK.out _ (HL.out.on hb1)).mono ?_
    rintro e w2 ⟨rfl, hb2⟩
    have HB2 := Lib.hid (hb1.trans (hb2.mono hb1.size))
    clear hb1 hb2
    go_wp2_with fail
    refine (HOR.out 1 E w2).mono ?_
    rintro e w3 ⟨rfl, rfl⟩
    rw [HF.out]
    go_wp2_with fail
    exact bodyPost_ret (v := .tuple #[.slice none 0 0, .int .i64 1]) (by simp [results, Tryd.results20, go_sem]) rfl ⟨rfl, HB2.out.alloc HB2.out.size _⟩
  · have hP' : nodesB xs = true ∧ 1 ≤ s ∧ s ≤ 32 := by
      refine ⟨?_, by omega, by omega⟩
      cases h : nodesB xs with
      | true => rfl
      | false => exact absurd (Or.inl h) hP
    have hT : tskB l = false := by
      rcases hb with h | h | h | h
      · exact absurd (Or.inl h) hP
      · omega
      · omega
      · exact h
    rw [hT] at HTK
    obtain ⟨s, rfl⟩ := Int.eq_ofNat_of_zero_le (show 0 ≤ s by omega)
    have HP := Lib.hid (points_yes A c lo hi xs s w hN hh hP'.1 (by omega) (by omega))
    have hE : okE false = 1 := rfl
    rw [hE] at HTK
    generalize xs.length = n at *
    generalize l.length = n' at *
    have HF : Hid (firstN [0, 1] = 1) := Lib.hid rfl
    clear hL hs hN hb hP hP' hT hE
    go_enter Tryd.func20, Tryd.ntmps20
    go_wp2_with fail
    refine HP.out.mono ?_
    rintro e w1 ⟨v, rfl, ho, hb1⟩
    clear ho
    go_wp2_with fail
    refine (HTK.out _ (HL.out.on hb1)).mono ?_
    rintro e w2 ⟨rfl, hb2⟩
    have HB2 := Lib.hid (hb1.trans (hb2.mono hb1.size))
    clear hb1 hb2
    go_wp2_with fail
    refine (HOR.out 0 1 w2).mono ?_
    rintro e w3 ⟨rfl, rfl⟩
    rw [HF.out]
    go_wp2_with fail
    exact bodyPost_ret (v := .tuple #[.slice none 0 0, .int .i64 1]) (by simp [results, Tryd.results20, go_sem]) rfl ⟨rfl, HB2.out.alloc HB2.out.size _⟩

set_option maxRecDepth 100000 in
set_option maxHeartbeats 4000000 in
/-- No nodes. -/
theorem assign_none (A A' : Option Addr) (c c' lo hi : Nat) (xs : List Int) (s : Nat) (l : List ByteArray) (w : World) (hN : Has w lo hi A xs) (hh : hi ≤ w.heap.size) (hn2 : l.length ≤ 9223372036854775807) (hL : Ss w A' l) (hs : Shrt l)
    (hx : xs = []) (h1 : 1 ≤ s) (h2 : s ≤ 32) (hT : tskB l = true) :
    Calls Tryd.prog 20 #[.slice A 0 c, .int .i64 (s : Int), .slice A' l.length c'] w fun r w' => r = .returned (.tuple #[.slice none 0 0, .int .i64 6]) ∧ Below w.heap.size w w' := by
  subst hx
  have HL := Lib.hid hL
  have HTK := Lib.hid (fun (W : World) (h : Ss W A' l) => tasks_any A' c' l W hn2 h hs _ rfl)
  have HOR := Lib.hid (fun (a b : Int) (W : World) => or_any ⟨W.heap.size, 0, none⟩ [a, b] 2 (W.alloc (.cells #[.int .i64 a, .int .i64 b] 30)) (by simp) (two_new W a b _))
  rw [hT] at HTK
  have HP := Lib.hid (points_yes A c lo hi [] s w hN hh (by decide) h1 h2)
  have hE : okE true = 0 := rfl
  rw [hE] at HTK
  generalize l.length = n' at *
  have HF : Hid (firstN [0, 0] = 0) := Lib.hid rfl
  clear hL hs hN hT hE
  go_enter Tryd.func20, Tryd.ntmps20
  go_wp2_with fail
  refine HP.out.mono ?_
  rintro e w1 ⟨v, rfl, ho, hb1⟩
  clear ho
  go_wp2_with fail
  refine (HTK.out _ (HL.out.on hb1)).mono ?_
  rintro e w2 ⟨rfl, hb2⟩
  have HB2 := Lib.hid (hb1.trans (hb2.mono hb1.size))
  clear hb1 hb2
  go_wp2_with fail
  refine (HOR.out 0 0 w2).mono ?_
  rintro e w3 ⟨rfl, rfl⟩
  rw [HF.out]
  go_wp2_with fail
  exact bodyPost_ret (v := .tuple #[.slice none 0 0, .int .i64 6]) (by simp [results, Tryd.results20, go_sem]) rfl ⟨rfl, HB2.out.alloc HB2.out.size _⟩

set_option maxRecDepth 100000 in
set_option maxHeartbeats 4000000 in
/-- What is put. -/
theorem assign_yes (A A' : Option Addr) (c c' lo hi : Nat) (xs : List Int) (s : Nat) (l : List ByteArray) (w : World) (hN : Has w lo hi A xs) (hh : hi ≤ w.heap.size) (hL : Ss w A' l) (hs : Shrt l)
    (hx : nodesB xs = true) (h0 : 0 < xs.length) (h1 : 1 ≤ s) (h2 : s ≤ 32) (hT : tskB l = true) :
    Calls Tryd.prog 20 #[.slice A xs.length c, .int .i64 (s : Int), .slice A' l.length c'] w fun r w' => ∃ v, r = .returned (.tuple #[v, .int .i64 0]) ∧ OwnU w' w.heap.size v (asgA2 xs s l) ∧ Below w.heap.size w w' := by
  have hl : l.length ≤ 100 := ((tasksB_iff _ _).1 hT).1
  have hxl := nums_len xs (nodesB_nums hx)
  have HL := Lib.hid hL
  have HTK := Lib.hid (fun (W : World) (h : Ss W A' l) => tasks_any A' c' l W (by omega) h hs _ rfl)
  have HOR := Lib.hid (fun (a b : Int) (W : World) => or_any ⟨W.heap.size, 0, none⟩ [a, b] 2 (W.alloc (.cells #[.int .i64 a, .int .i64 b] 30)) (by simp) (two_new W a b _))
  rw [hT] at HTK
  have HP := Lib.hid (points_yes A c lo hi xs s w hN hh hx h1 h2)
  have hpl : (ptsP xs s).length ≤ 100000 := by rw [pts_len]; have := Nat.mul_le_mul hxl h2; omega
  have HBD := Lib.hid (fun (W : World) => bound_yes l.length xs.length W hl h0 (by omega))
  have HPT := Lib.hid (fun (AP : Option Addr) (cP : Nat) (W : World) (hp : Ps W AP (ptsP xs s)) (hl2 : Ss W A' l) => put_any AP A' cP c' (ptsP xs s) (boundN l.length xs.length) l W hpl hp (err_pts hx h2 h1 h0) hl hl2 hs xs (room_of hx h0 h1 l l (Nat.le_refl _)) (nodes_in hx))
  have hE : okE true = 0 := rfl
  rw [hE] at HTK
  have ez : decide ((xs.length : Int) = 0) = false := decide_eq_false (by omega)
  have ez1 : ((xs.length : Int) == 0) = false := by simp only [beq_eq_false_iff_ne]; omega
  have ez2 : (xs.length == 0) = false := by simp only [beq_eq_false_iff_ne]; omega
  show Calls _ _ _ _ fun r w' => ∃ v, r = .returned (.tuple #[v, .int .i64 0]) ∧ OwnU w' w.heap.size v (asg (fun t => walkP (ptsP xs s) (sumK t)) (boundN l.length xs.length) l) ∧ Below w.heap.size w w'
  generalize asg (fun t => walkP (ptsP xs s) (sumK t)) (boundN l.length xs.length) l = R at *
  generalize boundN l.length xs.length = M at *
  generalize ptsP xs s = P at *
  generalize xs.length = n at *
  generalize l.length = n' at *
  have HF : Hid (firstN [0, 0] = 0) := Lib.hid rfl
  clear hL hs hN hT hE hx hpl
  go_enter Tryd.func20, Tryd.ntmps20
  go_wp2_with fail
  refine HP.out.mono ?_
  rintro e w1 ⟨v, rfl, ho, hb1⟩
  have HO := Lib.hid ho
  clear ho
  go_wp2_with fail
  refine (HTK.out _ (HL.out.on hb1)).mono ?_
  rintro e w2 ⟨rfl, hb2⟩
  have HB2 := Lib.hid (hb1.trans (hb2.mono hb1.size))
  have HO2 := Lib.hid (HO.out.on hb2)
  clear hb1 hb2 HO
  go_wp2_with fail
  refine (HOR.out 0 0 w2).mono ?_
  rintro e w3 ⟨rfl, rfl⟩
  rw [HF.out]
  have HB3 := Lib.hid (HB2.out.alloc HB2.out.size (.cells #[.int .i64 0, .int .i64 0] 30))
  have HO3 := Lib.hid (HO2.out.alloc (.cells #[.int .i64 0, .int .i64 0] 30))
  clear HB2 HO2
  generalize w2.alloc (.cells #[.int .i64 0, .int .i64 0] 30) = w4 at *
  obtain ⟨AP, cP, rfl, hcP, hps⟩ := HO3.out.lst
  have HPS := Lib.hid hps
  clear hps HO3
  go_wp2_with fail
  refine (HBD.out _).mono ?_
  rintro e w5 ⟨rfl, rfl⟩
  go_wp2_with fail
  refine (HPT.out _ _ _ HPS.out (HL.out.on HB3.out)).mono ?_
  rintro e w6 ⟨v, rfl, ho, hb6⟩
  have HB6 := Lib.hid (HB3.out.trans (hb6.mono HB3.out.size))
  have HO6 := Lib.hid (ho.mono HB3.out.size)
  clear ho hb6
  go_wp2_with fail
  exact bodyPost_ret (v := .tuple #[v, .int .i64 0]) (by simp [results, Tryd.results20, go_sem]) rfl ⟨_, rfl, HO6.out, HB6.out⟩

set_option maxRecDepth 100000 in
set_option maxHeartbeats 4000000 in
/-- The document's. -/
theorem rassign_any (A A' : Option Addr) (c c' lo hi : Nat) (xs : List Int) (s : Nat) (l : List ByteArray) (w : World) (hN : Has w lo hi A xs) (hh : hi ≤ w.heap.size) (hL : Ss w A' l) (hs : ∀ j, j < l.length → (ba l j).size ≤ 300)
    (hx : nodesB xs = true) (h0 : 0 < xs.length) (h1 : 1 ≤ s) (h2 : s ≤ 32) (hl : l.length ≤ 100) :
    Calls Tryd.prog 23 #[.slice A xs.length c, .int .i64 (s : Int), .slice A' l.length c'] w fun r w' => ∃ v, r = .returned v ∧ OwnU w' w.heap.size v (asgA2 xs s l) ∧ Below w.heap.size w w' := by
  have hxl := nums_len xs (nodesB_nums hx)
  have HL := Lib.hid hL
  have HP := Lib.hid (rpoints_any A c lo hi xs s w hN hh (nodesB_nums hx) h2)
  rw [foldI_pts (nodesB_nums hx)] at HP
  have hpl : (ptsP xs s).length ≤ 100000 := by rw [pts_len]; have := Nat.mul_le_mul hxl h2; omega
  have hpl0 : 0 < (ptsP xs s).length := by rw [pts_len]; exact Nat.mul_pos h0 h1
  have HBD := Lib.hid (fun (W : World) => rbound_any l.length xs.length W (by omega) h0 (by omega))
  have HW := Lib.hid (fun (t : ByteArray) (AP : Option Addr) (cP : Nat) (W : World) (hp : Ps W AP (ptsP xs s)) (ht : t.size ≤ 300) => rwalk_any AP cP (ptsP xs s) t W hpl hp (pts_rise (nodesB_nums hx) s) hpl0 ht)
  have HS := Lib.hid hs
  have HST := Lib.hid (fun (k : Nat) (hk : k < l.length) => put_step (m := boundN l.length xs.length) (room_of hx h0 h1 l l (Nat.le_refl _)) (nodes_in hx) hk)
  obtain ⟨S, hS⟩ : ∃ S : Nat → List Pu, S = fun k => asg (fun t => walkP (ptsP xs s) (sumK t)) (boundN l.length xs.length) (l.take k) := ⟨_, rfl⟩
  show Calls _ _ _ _ fun r w' => ∃ v, r = .returned v ∧ OwnU w' w.heap.size v (asg (fun t => walkP (ptsP xs s) (sumK t)) (boundN l.length xs.length) l) ∧ Below w.heap.size w w'
  have HSE : Hid (S l.length = asg (fun t => walkP (ptsP xs s) (sumK t)) (boundN l.length xs.length) l) := Lib.hid (by rw [hS]; simp)
  have HS0 : Hid (S 0 = []) := Lib.hid (by rw [hS]; rfl)
  have HSL : Hid (∀ k, (S k).length ≤ k) := Lib.hid (fun k => by rw [hS]; simp only [asg_len, List.length_take]; omega)
  have HSX : Hid (∀ k, S k = asg (fun t => walkP (ptsP xs s) (sumK t)) (boundN l.length xs.length) (l.take k)) := Lib.hid (fun k => by rw [hS])
  have HWLK : Hid (∀ t, (walkP (ptsP xs s) (sumK t)).length ≤ 100000) := Lib.hid (fun t => by have := nub_le (rotN (ptsP xs s) (sumK t)); rw [rotN_len] at this; unfold walkP; omega)
  simp only [← HSX.out] at HST
  have hbl := bound_le (n := xs.length) (t := l.length) h0
  generalize asg (fun t => walkP (ptsP xs s) (sumK t)) (boundN l.length xs.length) l = R at *
  generalize boundN l.length xs.length = M at *
  generalize ptsP xs s = P at *
  clear hL hs hN hS HSX hpl hpl0 hx h0
  go_enter Tryd.func23, Tryd.ntmps23
  go_wp2_with fail
  refine HP.out.mono ?_
  rintro e w1 ⟨v, rfl, ho, hb1⟩
  obtain ⟨AP, cP, rfl, hcP, hps⟩ := ho.lst
  have HPS := Lib.hid hps
  have HB1 := Lib.hid hb1
  clear ho hps hb1
  go_wp2_with fail
  go_loopg [8, 9] l.length (fun z v i wr => ∃ k : Nat, k + z = l.length ∧ i = .int .i64 k ∧ Hid (OwnU wr w1.heap.size v (S k)) ∧ Hid (Below w1.heap.size w1 wr))
  case atStart => exact ⟨0, by omega, rfl, Lib.hid (by rw [HS0.out]; exact OwnU.nil _ _), Lib.hid (Below.refl _ _)⟩
  case round =>
    obtain ⟨w0, e0⟩ : ∃ w0, w0 = wr := ⟨_, rfl⟩
    subst e0
    obtain ⟨k, hkz, rfl, HO, HB⟩ := hrel
    cases gk with
    | succ z =>
      have k0 : (0 : Int) ≤ (k : Int) := by omega
      have k1 : (k : Int) < (l.length : Int) := by omega
      have hlt : k < l.length := by omega
      obtain ⟨q, x, hq, hx, hx64, hcx, hlow, hnext⟩ := HST.out k hlt
      have HBW : Hid (Below w.heap.size w w0) := Lib.hid (HB1.out.trans (HB.out.mono HB1.out.size))
      obtain ⟨ad, rfl, hlo, h1⟩ := (HL.out.on HBW.out) k hlt
      have hlo0 : Hid (ad.block < w.heap.size) := Lib.hid (by
        obtain ⟨ad2, e2, h3, _⟩ := HL.out k hlt
        obtain rfl := Option.some.inj e2
        exact h3)
      have HW1 := Lib.hid (HW.out (ba l k) AP cP w0 (HPS.out.on HB.out) (HS.out k hlt))
      have HNX := Lib.hid hnext
      have HLOW := Lib.hid hlow
      have HQX := Lib.hid hx
      have HCX := Lib.hid hcx
      have HSLk := Lib.hid (HSL.out k)
      have HC0 := Lib.hid (fun y : Int => (cnt_le (S k) y))
      have HK1 : Hid (k + 1 + z = l.length) := Lib.hid (by omega)
      have HKL : Hid (k < 100) := Lib.hid (by omega)
      have HWL := Lib.hid (HWLK.out (ba l k))
      generalize S k = X at *
      generalize ba l k = t at *
      generalize walkP P (sumK t) = WK at *
      clear hlow hx hnext HST hcx
      go_wp2_with fail
      refine HW1.out.mono ?_
      rintro e w2 ⟨v, rfl, ho, hb2⟩
      have HB2 := Lib.hid (HB.out.trans (hb2.mono HB.out.size))
      have HO2 := Lib.hid (HO.out.on hb2)
      have h12 := (hb2.cell (p := ad.add k) (by rw [block_add]; exact hlo)).trans h1
      have hout0 : Hid (∀ b, u8.ownBlock = some b → w1.heap.size ≤ b ∧ b < w0.heap.size) := Lib.hid HO.out.ge
      obtain ⟨AX, cX, rfl, hcX, hX⟩ := ho.has
      have HX := Lib.hid hX
      have HZ0 := Lib.hid hb2.size
      clear hX ho hb2 HB HO HBW HW1 h1 hlo
      generalize u8 = vv at *
      obtain ⟨AU, cU, rfl, hcU, hUS⟩ := HO2.out.lst
      have HU := Lib.hid hUS
      clear hUS
      go_wp2_with fail
      go_loopg [11] q (fun y i wr => ∃ j : Nat, j + y = q ∧ i = .int .i64 j ∧ w2 = wr)
      case atStart => exact ⟨0, by omega, rfl, rfl⟩
      case round =>
        obtain ⟨j, hjy, rfl, rfl⟩ := hrel
        have j0 : (0 : Int) ≤ (j : Int) := by omega
        have j1 : (j : Int) < (WK.length : Int) := by omega
        have hwl := HWL.out
        have hXl : X.length ≤ 100000 := by have := HSLk.out; have := HKL.out; omega
        obtain ⟨ad', rfl, hlo1, hlo2, h2⟩ := HX.out j (by omega)
        cases gk with
        | succ y =>
          obtain ⟨u, hu, hu64, hcu⟩ := HLOW.out j (by omega)
          rw [hu] at h2
          have HM := Lib.hid (cnt_any AU cU X (u : Int) w2 hXl HU.out)
          have d1 : decide ((M : Int) ≤ (cnt X (u : Int) : Int)) = true := decide_eq_true (by omega)
          have d1' : decide (M ≤ cnt X (u : Int)) = true := decide_eq_true hcu
          generalize cnt X (u : Int) = cu at *
          clear hu hcu
          go_wp2_with fail
          refine HM.out.mono ?_
          rintro e w3 ⟨rfl, rfl⟩
          go_wp2_with fail
          refine (HBD.out _).mono ?_
          rintro e w3 ⟨rfl, rfl⟩
          go_wp2_with fail
          go_roundg y
          case measure => omega
          case rel => exact ⟨j + 1, by omega, by go_num, rfl⟩
        | zero =>
          obtain rfl : j = q := by omega
          rw [HQX.out] at h2
          have HM := Lib.hid (cnt_any AU cU X (x : Int) w2 hXl HU.out)
          have d1 : decide ((M : Int) ≤ (cnt X (x : Int) : Int)) = false := decide_eq_false (by have := HCX.out; omega)
          have d1' : decide (M ≤ cnt X (x : Int)) = false := decide_eq_false (by have := HCX.out; omega)
          generalize cnt X (x : Int) = cx at *
          clear hjy
          go_wp2_with fail
          refine HM.out.mono ?_
          rintro e w3 ⟨rfl, rfl⟩
          go_wp2_with fail
          refine (HBD.out _).mono ?_
          rintro e w3 ⟨rfl, rfl⟩
          go_upto_region 10 with (fail)
          refine z_enter [(0, true), (1, true), (2, true), (3, true), (4, true), (5, true), (6, true), (7, true), (8, true), (9, true), (10, false), (11, false), (12, true)] (fun W => W.cell? (ad.add k) = some (.string t) ∧ W.cell? (ad'.add j) = some (.int .i64 (x : Int))) (by kernel_rfl) (by kernel_rfl) (by kernel_rfl) (fun _ _ d _ _ h => by cases d <;> exact h) ⟨h12, h2⟩ ?_
          simp only [pickL, List.drop_succ_cons, List.drop_zero]
          iterate 10 (first | (refine' z_yes ?_ (by rfl) ?_ ?_; rotate_left; (intro w' hS; (try dsimp only at hS); go_simp; try (with_reducible rfl)); simp only [Act.put, List.setIfInBounds_toArray, List.set_cons_zero, List.set_cons_succ]) | (refine z_no (by rfl) ?_; simp only [Act.put, List.setIfInBounds_toArray, List.set_cons_zero, List.set_cons_succ]))
          have HO2d : Hid (OwnU w2.drew w1.heap.size (.slice AU X.length cU) X) := Lib.hid HO2.out.drew
          have HB2d : Hid (Below w1.heap.size w1 w2.drew) := Lib.hid (HB2.out.trans (below_drewN (Below.refl _ _) 1))
          have h12d : w2.drew.cell? (ad.add k) = some (.string t) := h12
          have h2d : w2.drew.cell? (ad'.add j) = some (.int .i64 (x : Int)) := h2
          have HZD : Hid (w2.drew.heap.size = w2.heap.size) := Lib.hid rfl
          clear h12 h2 HO2 HB2
          generalize w2.drew = wd at *
          refine z_mem ?_
          intro K hK
          go_simp
          have HO3 := Lib.hid (HO2d.out.alloc (.cells #[.string t, .int .i64 (x : Int)] 36))
          have HB3 : Hid (Below w1.heap.size w1 (wd.alloc (.cells #[.string t, .int .i64 (x : Int)] 36))) := Lib.hid (HB2d.out.alloc HB2d.out.size _)
          have h13 : (wd.alloc (.cells #[.string t, .int .i64 (x : Int)] 36)).cell? (ad.add k) = some (.string t) := (((Below.refl _ wd).alloc (Nat.le_refl _) _).cell (by rw [block_add]; have := hlo0.out; have := HB1.out.size; have := HB2d.out.size; omega)).trans h12d
          have h23 : (wd.alloc (.cells #[.string t, .int .i64 (x : Int)] 36)).cell? (ad'.add j) = some (.int .i64 (x : Int)) := (((Below.refl _ wd).alloc (Nat.le_refl _) _).cell (by rw [block_add]; have := HZD.out; omega)).trans h2d
          have HU3 : Hid (Us (wd.alloc (.cells #[.string t, .int .i64 (x : Int)] 36)) (some ⟨wd.heap.size, 0, none⟩) [⟨t, (x : Int)⟩]) := Lib.hid (Us.one wd ⟨t, (x : Int)⟩ _)
          have hz3 : w1.heap.size ≤ (wd.alloc (.cells #[.string t, .int .i64 (x : Int)] 36)).heap.size := HB3.out.size
          have hz4 : w2.heap.size < (wd.alloc (.cells #[.string t, .int .i64 (x : Int)] 36)).heap.size := by have := HZD.out; simp; omega
          clear h12d h2d
          refine hK.out _ _ ⟨h13, h23⟩ ?_
          clear hK
          obtain ⟨w4, ew4⟩ : ∃ w4, w4 = wd.alloc (.cells #[.string t, .int .i64 (x : Int)] 36) := ⟨_, rfl⟩
          rw [← ew4] at HO3 HB3 h13 h23 HU3 hz3 hz4 ⊢
          clear ew4
          refine z_mem ?_
          intro K hK
          rw [if_pos (by rfl)]
          refine wp_appendPu _ _ rfl w1.heap.size _ X rfl HO3.out (some ⟨wd.heap.size, 0, none⟩) 1 [⟨t, (x : Int)⟩] rfl HU3.out (by have := HSLk.out; have := HKL.out; simp; omega) hz3 ?_
          intro v' w5 ho5 hg5
          have hB5 := Lib.hid (below_grownU HB3.out HO3.out hg5 hz3 (Nat.le_refl _))
          have c1 : w5.cell? (ad.add k) = some (.string t) := (World.cell?_of_block (hg5.block _ (by rw [block_add]; have := hlo0.out; have := HB1.out.size; omega) (by rw [block_add]; intro e; have := (hout0.out ad.block e.symm).1; have := hlo0.out; have := HB1.out.size; omega))).trans h13
          have c2 : w5.cell? (ad'.add j) = some (.int .i64 (x : Int)) := (World.cell?_of_block (hg5.block _ (by rw [block_add]; omega) (by rw [block_add]; intro e; have := (hout0.out ad'.block e.symm).2; omega))).trans h23
          refine hK.out _ _ ⟨c1, c2⟩ ?_
          clear hK c1 c2 hg5 HO3 HB3 HU3
          simp only [Act.put, List.setIfInBounds_toArray, List.set_cons_zero, List.set_cons_succ]
          iterate 1 (first | (refine' z_yes ?_ (by rfl) ?_ ?_; rotate_left; (intro w' hS; (try dsimp only at hS); go_simp; try (with_reducible rfl)); simp only [Act.put, List.setIfInBounds_toArray, List.set_cons_zero, List.set_cons_succ]) | (refine z_no (by rfl) ?_; simp only [Act.put, List.setIfInBounds_toArray, List.set_cons_zero, List.set_cons_succ]))
          refine z_nil ?_
          have HO5 := Lib.hid ho5
          clear ho5
          go_wp2_with fail
          go_roundg z
          case measure => omega
          case rel => exact ⟨k + 1, HK1.out, by go_num, Lib.hid (by rw [HNX.out]; exact HO5.out), hB5⟩
    | zero =>
      obtain rfl : k = l.length := by omega
      rw [HSE.out] at HO
      have e0 : decide ((l.length : Int) < (l.length : Int)) = false := by simp
      go_wp2_with fail
      try rw [Exit.noGoto_ret]
      go_ret
      exact ⟨_, rfl, HO.out.mono HB1.out.size, HB1.out.trans (HB.out.mono HB1.out.size)⟩
end Go.Proofs.YthcjjogomknddaaDoor
