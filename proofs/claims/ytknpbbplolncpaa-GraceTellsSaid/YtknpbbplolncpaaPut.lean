/-
  The walks of put and with, at numbers.
-/
import Derived.Test.YtknpbbplolncpaaInts
namespace Go.Proofs.Ytknpbbplolncpaa
open Go.Sort Go.RowKit Go.Proofs.Ytknpbbplolncpaa.Pure

theorem Ns.drop {w : World} {P : Nat → Prop} {ad : Addr} {xs : List Int} (h : Ns w P (some ad) xs) (p : Nat) : Ns w P (some (ad.add p)) (xs.drop p) := fun j hj => by
  rw [List.length_drop] at hj
  obtain ⟨ad', e, h1, h2, h3⟩ := h (p + j) (by omega)
  obtain rfl := Option.some.inj e
  refine ⟨_, rfl, by rw [block_add]; exact h1, by rw [block_add]; exact h2, ?_⟩
  rw [add_add, h3]
  simp [List.getD, List.getElem?_drop]
theorem OwnN.off {w : World} {B : Nat} {v : Value} {xs : List Int} (h : OwnN w B v xs) : ∃ (A : Option Addr) (c : Nat), v = .slice A xs.length c ∧ xs.length ≤ c ∧ c ≤ maxLen ∧ Ns w (fun k => B ≤ k) A xs := h.ns
/-- One put at a place, in memory of its own. -/
def Puts (w : World) (ys : List Int) (e : Ending) (w' : World) : Prop := ∃ v, e = .returned v ∧ OwnN w' w.heap.size v ys ∧ Below w.heap.size w w'

set_option maxRecDepth 100000 in
set_option maxHeartbeats 2000000 in
theorem putI_any (ad : Addr) (c p : Nat) (P : Nat → Prop) (xs : List Int) (n : Int) (w : World) (hn : xs.length ≤ 1000) (hc : xs.length ≤ c) (hm : c ≤ maxLen) (hp : p ≤ xs.length) (h : Ns w P (some ad) xs) :
    Calls Try.prog 51 #[.slice (some ad) xs.length c, .int .i64 (p : Int), .int .i64 n] w (Puts w (xs.take p ++ n :: xs.drop p)) := by
  have p0 : (0 : Int) ≤ (p : Int) := by omega
  have p1 : (p : Int) ≤ (xs.length : Int) := by omega
  have p1' : p ≤ xs.length := by omega
  have p2 : (p : Int) ≤ (c : Int) := by omega
  have p2' : p ≤ c := by omega
  have hc63 : (c : Int) ≤ 9223372036854775807 := by unfold maxLen at hm; omega
  have hb0 : Below w.heap.size w (w.drew.alloc (.cells #[.int .i64 n] 3)) := (Below.refl _ w).drew.alloc (Nat.le_refl _) _
  have HB0 := Lib.hid hb0
  have HA1 := Lib.hid (fun ty => appN_full (w.drew.alloc (.cells #[.int .i64 n] 3)) ty P _ (some ad) (xs.take p) ((h.on hb0).take p) ⟨w.heap.size, 0, none⟩ 1 [n] (Ns.one w.drew n _) (by simp) (by simp; omega) p (by rw [List.length_take]; omega))
  have hd : (xs.drop p).length = xs.length - p := List.length_drop ..
  have HA2 : Hid (∀ (v1 : Value) (w1 : World) (ty : TypeId), OwnN w1 (w.drew.alloc (.cells #[.int .i64 n] 3)).heap.size v1 (xs.take p ++ [n]) → Below w.heap.size w w1 → ∃ v' w', (Builtin.append_ #[53, 53] ty #[v1, .slice (if c = p then some ad else some (ad.add p)) (xs.length - p) (c - p)]).run Try.prog w1 = .ok v' w' ∧ OwnN w' w.heap.size v' (xs.take p ++ n :: xs.drop p) ∧ w1.grownBy w' v1.ownBlock) := Lib.hid (fun v1 w1 ty ho hb => by
    have ho' := ho.mono hb0.size
    have hl : (xs.take p ++ [n]).length + (xs.drop p).length ≤ 100000 := by simp; omega
    by_cases hcp : c = p
    · have he : xs.drop p = [] := List.drop_eq_nil_of_le (by omega)
      rw [he] at hl
      obtain ⟨v', w', h1, h2, h3, _⟩ := appN_own w1 ty w.heap.size v1 _ ho' P (some ad) (c - p) [] (Ns.nil _ _ _) hl hb.size
      refine ⟨v', w', ?_, ?_, h3⟩
      · rw [if_pos hcp, show xs.length - p = 0 by omega]; exact h1
      · rw [he]; simpa using h2
    · obtain ⟨v', w', h1, h2, h3, _⟩ := appN_own w1 ty w.heap.size v1 _ ho' P (some (ad.add p)) (c - p) (xs.drop p) ((h.on hb).drop p) hl hb.size
      rw [hd] at h1
      refine ⟨v', w', ?_, ?_, h3⟩
      · rw [if_neg hcp]; exact h1
      · simpa using h2)
  clear h hb0
  by_cases hcp : c = p
  · rw [if_pos hcp] at HA2
    subst hcp
    obtain rfl : xs.length = c := by omega
    simp only [Nat.sub_self] at HA2
    go_enter Try.func51, Try.ntmps51
    go_upto_region 1 with (fail)
    refine z_enter [(0, true), (1, true), (2, true), (3, true), (4, true), (7, true), (8, true), (9, true), (5, false), (6, false), (10, false), (11, true)] (fun _ => True) (by kernel_rfl) (by kernel_rfl) (by kernel_rfl) (fun _ _ d _ _ h => by cases d <;> exact h) trivial ?_
    simp only [pickL, List.drop_succ_cons, List.drop_zero]
    iterate 8 (first | (refine' z_yes ?_ (by rfl) ?_ ?_; rotate_left; (intro w' hS; (try dsimp only at hS); go_simp; try (with_reducible rfl)); simp only [Act.put, List.setIfInBounds_toArray, List.set_cons_zero, List.set_cons_succ]) | (refine z_no (by rfl) ?_; simp only [Act.put, List.setIfInBounds_toArray, List.set_cons_zero, List.set_cons_succ]))
    refine z_mem ?_
    intro K hK
    go_simp
    refine hK.out _ _ trivial ?_
    clear hK
    refine z_mem ?_
    intro K hK
    rw [if_pos (by rfl)]
    obtain ⟨v1, w1, r1, o1, g1⟩ := HA1.out 53
    refine wp_app 53 _ _ rfl _ _ rfl rfl r1 ?_
    have HO1 := Lib.hid o1
    have HB1 : Hid (Below w.heap.size w w1) := Lib.hid (HB0.out.grown g1 HB0.out.size (by intro k hk; cases hk))
    clear HA1 r1 o1 g1 HB0
    refine hK.out _ _ trivial ?_
    clear hK
    refine z_mem ?_
    intro K hK
    rw [if_pos (by rfl)]
    obtain ⟨v2, w2, r2, o2, g2⟩ := HA2.out v1 w1 53 HO1.out HB1.out
    refine wp_app 53 _ _ rfl _ _ rfl rfl r2 ?_
    have HO2 := Lib.hid o2
    have HB2 : Hid (Below w.heap.size w w2) := Lib.hid (HB1.out.grown g2 HB1.out.size (fun k hk => Nat.le_trans (by simp) (HO1.out.ge k hk).1))
    clear HA2 r2 o2 g2 HO1 HB1
    refine hK.out _ _ trivial ?_
    clear hK
    first | (refine' z_yes ?_ (by rfl) ?_ ?_; rotate_left; (intro w' hS; (try dsimp only at hS); go_simp; try (with_reducible rfl)); simp only [Act.put, List.setIfInBounds_toArray, List.set_cons_zero, List.set_cons_succ]) | (refine z_no (by rfl) ?_; simp only [Act.put, List.setIfInBounds_toArray, List.set_cons_zero, List.set_cons_succ])
    refine z_nil ?_
    go_wp2_with fail
    go_ret
    exact ⟨v2, rfl, HO2.out, HB2.out⟩
  · rw [if_neg hcp] at HA2
    go_enter Try.func51, Try.ntmps51
    go_upto_region 1 with (fail)
    refine z_enter [(0, true), (1, true), (2, true), (3, true), (4, true), (7, true), (8, true), (9, true), (5, false), (6, false), (10, false), (11, true)] (fun _ => True) (by kernel_rfl) (by kernel_rfl) (by kernel_rfl) (fun _ _ d _ _ h => by cases d <;> exact h) trivial ?_
    simp only [pickL, List.drop_succ_cons, List.drop_zero]
    iterate 8 (first | (refine' z_yes ?_ (by rfl) ?_ ?_; rotate_left; (intro w' hS; (try dsimp only at hS); go_simp; try (with_reducible rfl)); simp only [Act.put, List.setIfInBounds_toArray, List.set_cons_zero, List.set_cons_succ]) | (refine z_no (by rfl) ?_; simp only [Act.put, List.setIfInBounds_toArray, List.set_cons_zero, List.set_cons_succ]))
    refine z_mem ?_
    intro K hK
    go_simp
    refine hK.out _ _ trivial ?_
    clear hK
    refine z_mem ?_
    intro K hK
    rw [if_pos (by rfl)]
    obtain ⟨v1, w1, r1, o1, g1⟩ := HA1.out 53
    refine wp_app 53 _ _ rfl _ _ rfl rfl r1 ?_
    have HO1 := Lib.hid o1
    have HB1 : Hid (Below w.heap.size w w1) := Lib.hid (HB0.out.grown g1 HB0.out.size (by intro k hk; cases hk))
    clear HA1 r1 o1 g1 HB0
    refine hK.out _ _ trivial ?_
    clear hK
    refine z_mem ?_
    intro K hK
    rw [if_pos (by rfl)]
    obtain ⟨v2, w2, r2, o2, g2⟩ := HA2.out v1 w1 53 HO1.out HB1.out
    refine wp_app 53 _ _ rfl _ _ rfl rfl r2 ?_
    have HO2 := Lib.hid o2
    have HB2 : Hid (Below w.heap.size w w2) := Lib.hid (HB1.out.grown g2 HB1.out.size (fun k hk => Nat.le_trans (by simp) (HO1.out.ge k hk).1))
    clear HA2 r2 o2 g2 HO1 HB1
    refine hK.out _ _ trivial ?_
    clear hK
    first | (refine' z_yes ?_ (by rfl) ?_ ?_; rotate_left; (intro w' hS; (try dsimp only at hS); go_simp; try (with_reducible rfl)); simp only [Act.put, List.setIfInBounds_toArray, List.set_cons_zero, List.set_cons_succ]) | (refine z_no (by rfl) ?_; simp only [Act.put, List.setIfInBounds_toArray, List.set_cons_zero, List.set_cons_succ])
    refine z_nil ?_
    go_wp2_with fail
    go_ret
    exact ⟨v2, rfl, HO2.out, HB2.out⟩

/-! ### doubts -/
theorem Ds.drop {w : World} {hi : Nat} {ad : Addr} {xs : List Db} (h : Ds w hi (some ad) xs) (p : Nat) : Ds w hi (some (ad.add (p * 4))) (xs.drop p) := fun j hj => by
  rw [List.length_drop] at hj
  obtain ⟨ad', e, h1, h2, h3⟩ := h (p + j) (by omega)
  obtain rfl := Option.some.inj e
  have e1 : db (xs.drop p) j = db xs (p + j) := by simp [db, List.getD, List.getElem?_drop]
  refine ⟨_, rfl, by rw [block_add]; exact h1, ?_, by rw [e1]; exact h3⟩
  rw [e1, add_add, show p * 4 + j * 4 = (p + j) * 4 by omega]
  exact h2
/-- One put at a place, in memory of its own. -/
def PutsD (w : World) (ys : List Db) (e : Ending) (w' : World) : Prop := ∃ v, e = .returned v ∧ OwnD w' w.heap.size v ys ∧ Below w.heap.size w w'

set_option maxRecDepth 100000 in
set_option maxHeartbeats 4000000 in
theorem putD_any (A : Option Addr) (c p hi : Nat) (xs : List Db) (x : Db) (w : World) (hA : A = none → c = 0) (hn : xs.length ≤ 1000) (hc : xs.length ≤ c) (hm : c ≤ maxLen) (hp : p ≤ xs.length) (h : Ds w hi A xs) (hh : hi ≤ w.heap.size) (hx : Rd w (fun k => k < w.heap.size) x) :
    Calls Try.prog 36 #[.slice A xs.length c, .int .i64 (p : Int), .agg #[.int .i64 x.w, .int .u64 x.i, .int .i64 x.t, .slice x.A x.b.length x.c]] w (PutsD w (xs.take p ++ x :: xs.drop p)) := by
  have p0 : (0 : Int) ≤ (p : Int) := by omega
  have p1 : (p : Int) ≤ (xs.length : Int) := by omega
  have p1' : p ≤ xs.length := by omega
  have p2 : (p : Int) ≤ (c : Int) := by omega
  have p2' : p ≤ c := by omega
  have hc63 : (c : Int) ≤ 9223372036854775807 := by unfold maxLen at hm; omega
  have BX : Hid (Bt (w.alloc (.cells #[.int .i64 x.w, .int .u64 x.i, .int .i64 x.t, .slice x.A x.b.length x.c] 55)) w.heap.size x) := Lib.hid (Bt.new w x _)
  have HB1 : Hid (Below w.heap.size w (w.alloc (.cells #[.int .i64 x.w, .int .u64 x.i, .int .i64 x.t, .slice x.A x.b.length x.c] 55))) := Lib.hid ((Below.refl _ w).alloc (Nat.le_refl _) _)
  have HD1 := Lib.hid (h.on HB1.out hh)
  have HX1 := Lib.hid (hx.on HB1.out)
  have hwz : w.heap.size < (w.alloc (.cells #[.int .i64 x.w, .int .u64 x.i, .int .i64 x.t, .slice x.A x.b.length x.c] 55)).heap.size := by simp
  have HWZ := Lib.hid hwz
  clear h hx hwz
  obtain ⟨w1, hw1⟩ : ∃ w1, w1 = (w.alloc (.cells #[.int .i64 x.w, .int .u64 x.i, .int .i64 x.t, .slice x.A x.b.length x.c] 55)) := ⟨_, rfl⟩
  rw [← hw1] at BX HB1 HD1 HX1 HWZ
  have hbd : Below w1.heap.size w1 (w1.drew.alloc (.cells #[.int .i64 x.w, .int .u64 x.i, .int .i64 x.t, .slice x.A x.b.length x.c] 55)) := (Below.refl _ w1).drew.alloc (Nat.le_refl _) _
  have HBD := Lib.hid hbd
  have hbn : Bt (w1.drew.alloc (.cells #[.int .i64 x.w, .int .u64 x.i, .int .i64 x.t, .slice x.A x.b.length x.c] 55)) w1.heap.size x := Bt.new w1.drew x _
  have HA1 := Lib.hid (fun ty => appD_full (w1.drew.alloc (.cells #[.int .i64 x.w, .int .u64 x.i, .int .i64 x.t, .slice x.A x.b.length x.c] 55)) ty hi _ A (xs.take p) ((HD1.out.on hbd (by have := HWZ.out; omega)).take p) ⟨w1.heap.size, 0, none⟩ 1 [x] (hbn.ds (w1.drew.alloc (.cells #[.int .i64 x.w, .int .u64 x.i, .int .i64 x.t, .slice x.A x.b.length x.c] 55)).heap.size (by simp) ((HX1.out.on hbd).imp fun k hk _ => hk)) (by simp) (by simp; omega) p (by rw [List.length_take]; omega))
  have hd : (xs.drop p).length = xs.length - p := List.length_drop ..
  have HA2 : Hid (∀ (v1 : Value) (w2 : World) (ty : TypeId), OwnD w2 (w1.drew.alloc (.cells #[.int .i64 x.w, .int .u64 x.i, .int .i64 x.t, .slice x.A x.b.length x.c] 55)).heap.size v1 (xs.take p ++ [x]) → Below w1.heap.size w1 w2 → ∃ v' w', (Builtin.append_ #[22, 22] ty #[v1, .slice (if c = p then A else A.map fun ad => ad.add (p * 4)) (xs.length - p) (c - p)]).run Try.prog w2 = .ok v' w' ∧ OwnD w' w1.heap.size v' (xs.take p ++ x :: xs.drop p) ∧ w2.grownBy w' v1.ownBlock) := Lib.hid (fun v1 w2 ty ho hb => by
    have ho' := ho.mono (show w1.heap.size ≤ _ from hbd.size)
    have hl : (xs.take p ++ [x]).length + (xs.drop p).length ≤ 100000 := by simp; omega
    have hhw : hi ≤ w1.heap.size := by have := HWZ.out; omega
    by_cases hcp : c = p
    · have he : xs.drop p = [] := List.drop_eq_nil_of_le (by omega)
      rw [he] at hl
      obtain ⟨v', w', h1, h2, h3, _⟩ := appD_own w2 ty w1.heap.size v1 _ ho' 0 A (c - p) [] (Ds.nil _ _ _) (fun y hy => by cases hy) hl hb.size
      refine ⟨v', w', ?_, ?_, h3⟩
      · rw [if_pos hcp, show xs.length - p = 0 by omega]; exact h1
      · rw [he]; simpa using h2
    · rcases A with _ | ad
      · exact absurd (hA rfl) (by omega)
      have hds := (HD1.out.on hb hhw).drop p
      obtain ⟨v', w', h1, h2, h3, _⟩ := appD_own w2 ty w1.heap.size v1 _ ho' hi (some (ad.add (p * 4))) (c - p) (xs.drop p) hds (fun y hy => (hds.rd y hy).off _ fun k hk hk2 => by have := (ho'.ge k hk).1; omega) hl hb.size
      rw [hd] at h1
      refine ⟨v', w', ?_, ?_, h3⟩
      · rw [if_neg hcp]; exact h1
      · simpa using h2)
  clear HD1 HX1 hbd hbn
  have HW1 := Lib.hid hw1
  by_cases hcp : c = p
  · rw [if_pos hcp] at HA2
    subst hcp
    obtain rfl : xs.length = c := by omega
    simp only [Nat.sub_self] at HA2
    clear hA HWZ hd hw1
    go_enter Try.func36, Try.ntmps36
    go_upto_region 1 with (fail)
    rw [← HW1.out]
    refine z_enter [(0, true), (1, true), (2, true), (3, true), (4, true), (7, true), (8, true), (9, true), (5, false), (6, false), (10, false), (11, true)] (fun w' => w'.cell? ⟨w.heap.size, 0, none⟩ = some (.int .i64 x.w) ∧ w'.cell? ⟨w.heap.size, 1, none⟩ = some (.int .u64 x.i) ∧ w'.cell? ⟨w.heap.size, 2, none⟩ = some (.int .i64 x.t) ∧ w'.cell? ⟨w.heap.size, 3, none⟩ = some (.slice x.A x.b.length x.c)) (by kernel_rfl) (by kernel_rfl) (by kernel_rfl) (fun _ _ d _ _ h => by cases d <;> exact h) BX.out ?_
    simp only [pickL, List.drop_succ_cons, List.drop_zero]
    iterate 8 (first | (refine' z_yes ?_ (by rfl) ?_ ?_; rotate_left; (intro w' hS; (try dsimp only at hS); go_simp; try (with_reducible rfl)); simp only [Act.put, List.setIfInBounds_toArray, List.set_cons_zero, List.set_cons_succ]) | (refine z_no (by rfl) ?_; simp only [Act.put, List.setIfInBounds_toArray, List.set_cons_zero, List.set_cons_succ]))
    refine z_mem ?_
    intro K hK
    go_simp
    refine hK.out _ _ (BX.out.on HBD.out) ?_
    clear hK
    refine z_mem ?_
    intro K hK
    rw [if_pos (by rfl)]
    obtain ⟨v1, w2, r1, o1, g1⟩ := HA1.out 22
    refine wp_app 22 _ _ rfl _ _ rfl rfl r1 ?_
    have HO1 := Lib.hid o1
    have HB2 : Hid (Below w1.heap.size w1 w2) := Lib.hid (HBD.out.grown g1 HBD.out.size (by intro k hk; cases hk))
    clear HA1 r1 o1 g1 HBD
    refine hK.out _ _ (BX.out.on HB2.out) ?_
    clear hK
    refine z_mem ?_
    intro K hK
    rw [if_pos (by rfl)]
    obtain ⟨v2, w3, r2, o2, g2⟩ := HA2.out v1 w2 22 HO1.out HB2.out
    refine wp_app 22 _ _ rfl _ _ rfl rfl r2 ?_
    have HO2 := Lib.hid o2
    have HB3 : Hid (Below w1.heap.size w1 w3) := Lib.hid (HB2.out.grown g2 HB2.out.size (fun k hk => Nat.le_trans (by simp) (HO1.out.ge k hk).1))
    clear HA2 r2 o2 g2 HO1 HB2
    refine hK.out _ _ (BX.out.on HB3.out) ?_
    clear hK
    first | (refine' z_yes ?_ (by rfl) ?_ ?_; rotate_left; (intro w' hS; (try dsimp only at hS); go_simp; try (with_reducible rfl)); simp only [Act.put, List.setIfInBounds_toArray, List.set_cons_zero, List.set_cons_succ]) | (refine z_no (by rfl) ?_; simp only [Act.put, List.setIfInBounds_toArray, List.set_cons_zero, List.set_cons_succ])
    refine z_nil ?_
    go_wp2_with fail
    go_ret
    exact ⟨v2, rfl, HO2.out.mono HB1.out.size, HB1.out.trans (HB3.out.mono HB1.out.size)⟩
  · rw [if_neg hcp] at HA2
    rcases A with _ | ad
    · exact absurd (hA rfl) (by omega)
    simp only [Option.map_some] at HA2
    clear hA HWZ hd hw1
    go_enter Try.func36, Try.ntmps36
    go_upto_region 1 with (fail)
    rw [← HW1.out]
    refine z_enter [(0, true), (1, true), (2, true), (3, true), (4, true), (7, true), (8, true), (9, true), (5, false), (6, false), (10, false), (11, true)] (fun w' => w'.cell? ⟨w.heap.size, 0, none⟩ = some (.int .i64 x.w) ∧ w'.cell? ⟨w.heap.size, 1, none⟩ = some (.int .u64 x.i) ∧ w'.cell? ⟨w.heap.size, 2, none⟩ = some (.int .i64 x.t) ∧ w'.cell? ⟨w.heap.size, 3, none⟩ = some (.slice x.A x.b.length x.c)) (by kernel_rfl) (by kernel_rfl) (by kernel_rfl) (fun _ _ d _ _ h => by cases d <;> exact h) BX.out ?_
    simp only [pickL, List.drop_succ_cons, List.drop_zero]
    iterate 8 (first | (refine' z_yes ?_ (by rfl) ?_ ?_; rotate_left; (intro w' hS; (try dsimp only at hS); go_simp; try (with_reducible rfl)); simp only [Act.put, List.setIfInBounds_toArray, List.set_cons_zero, List.set_cons_succ]) | (refine z_no (by rfl) ?_; simp only [Act.put, List.setIfInBounds_toArray, List.set_cons_zero, List.set_cons_succ]))
    refine z_mem ?_
    intro K hK
    go_simp
    refine hK.out _ _ (BX.out.on HBD.out) ?_
    clear hK
    refine z_mem ?_
    intro K hK
    rw [if_pos (by rfl)]
    obtain ⟨v1, w2, r1, o1, g1⟩ := HA1.out 22
    refine wp_app 22 _ _ rfl _ _ rfl rfl r1 ?_
    have HO1 := Lib.hid o1
    have HB2 : Hid (Below w1.heap.size w1 w2) := Lib.hid (HBD.out.grown g1 HBD.out.size (by intro k hk; cases hk))
    clear HA1 r1 o1 g1 HBD
    refine hK.out _ _ (BX.out.on HB2.out) ?_
    clear hK
    refine z_mem ?_
    intro K hK
    rw [if_pos (by rfl)]
    obtain ⟨v2, w3, r2, o2, g2⟩ := HA2.out v1 w2 22 HO1.out HB2.out
    refine wp_app 22 _ _ rfl _ _ rfl rfl r2 ?_
    have HO2 := Lib.hid o2
    have HB3 : Hid (Below w1.heap.size w1 w3) := Lib.hid (HB2.out.grown g2 HB2.out.size (fun k hk => Nat.le_trans (by simp) (HO1.out.ge k hk).1))
    clear HA2 r2 o2 g2 HO1 HB2
    refine hK.out _ _ (BX.out.on HB3.out) ?_
    clear hK
    first | (refine' z_yes ?_ (by rfl) ?_ ?_; rotate_left; (intro w' hS; (try dsimp only at hS); go_simp; try (with_reducible rfl)); simp only [Act.put, List.setIfInBounds_toArray, List.set_cons_zero, List.set_cons_succ]) | (refine z_no (by rfl) ?_; simp only [Act.put, List.setIfInBounds_toArray, List.set_cons_zero, List.set_cons_succ])
    refine z_nil ?_
    go_wp2_with fail
    go_ret
    exact ⟨v2, rfl, HO2.out.mono HB1.out.size, HB1.out.trans (HB3.out.mono HB1.out.size)⟩

set_option maxRecDepth 100000 in
set_option maxHeartbeats 1000000 in
theorem with_any (ad : Addr) (c : Nat) (P : Nat → Prop) (xs : List Int) (n : Int) (w : World) (hn : xs.length ≤ 1000) (hc : xs.length ≤ c) (hm : c ≤ maxLen) (hr : Rise xs xs.length) (h : Ns w P (some ad) xs) :
    Calls Try.prog 37 #[.slice (some ad) xs.length c, .int .i64 n] w fun e w' => ∃ (A' : Option Addr) (c' : Nat), e = .returned (.slice A' (withN xs n).length c') ∧ ((withN xs n).length ≤ c' ∧ c' ≤ maxLen ∧ Ns w' (fun k => P k ∨ w.heap.size ≤ k) A' (withN xs n)) ∧ Below w.heap.size w w' := by
  have HS := Lib.hid (bsearch_any (some ad) c 0 w.heap.size xs n w hn hr h.has)
  have HP := Lib.hid (putI_any ad c (posN xs n) P xs n w hn hc hm (posN_le _ _) h)
  have HI := Lib.hid (h.imp (Q := fun k => P k ∨ w.heap.size ≤ k) fun k _ hk => .inl hk)
  have HC := Lib.hid (And.intro hc hm)
  have hw1 : hitN xs n = true → withN xs n = xs := fun e => by unfold withN; rw [if_pos e]
  have hw2 : hitN xs n = false → withN xs n = xs.take (posN xs n) ++ n :: xs.drop (posN xs n) := fun e => by unfold withN; rw [if_neg (by rw [e]; decide)]; rfl
  clear h hr hn hc hm
  rcases hh : hitN xs n with _ | _
  · rw [hw2 hh]
    rw [hh] at HS
    clear hw1 hw2 hh HI HC
    generalize xs.take (posN xs n) ++ n :: xs.drop (posN xs n) = ys at *
    generalize posN xs n = p at *
    go_enter Try.func37, Try.ntmps37
    go_wp2_with (first | (go_at_call 50; refine HS.out.mono ?_; rintro e w' ⟨rfl, rfl⟩) | (go_at_call 51; refine HP.out.mono ?_; rintro e w' ⟨v, rfl, ho, hb⟩))
    obtain ⟨A', c', rfl, h1, h2, h3⟩ := ho.ns
    have HH := Lib.hid (And.intro (And.intro h1 (And.intro h2 (h3.imp (Q := fun k => P k ∨ w.heap.size ≤ k) fun k _ hk => .inr hk))) hb)
    clear ho h1 h2 h3 hb
    go_ret
    exact ⟨A', c', rfl, HH.out⟩
  · rw [hw1 hh]
    rw [hh] at HS
    clear hw1 hw2 hh HP
    generalize posN xs n = p at *
    go_enter Try.func37, Try.ntmps37
    go_wp2_with (go_at_call 50; refine HS.out.mono ?_; rintro e w' ⟨rfl, rfl⟩)
    go_ret
    exact ⟨some ad, c, rfl, ⟨HC.out.1, HC.out.2, HI.out⟩, Below.refl _ _⟩
end Go.Proofs.Ytknpbbplolncpaa
