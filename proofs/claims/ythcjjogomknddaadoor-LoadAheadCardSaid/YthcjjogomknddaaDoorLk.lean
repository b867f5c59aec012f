/-
  The chapter's examples, what is light, and what comes in.
-/
import Derived.Test.YthcjjogomknddaaDoorAs
import Derived.Test.YthcjjogomknddaaDoorLaw
namespace Go.Proofs.YthcjjogomknddaaDoor
open Go.ChangeMaps (open_string)
open Go.Sort Go.ChangeShapes Go.WideShapes Go.ChangeAt Go.RowKit Go.Joins Go.Proofs.YthcjjogomknddaaDoor.Pure

theorem Us.two (w : World) (x y : Pu) (t : TypeId) : Us (w.alloc (.cells #[.string x.t, .int .i64 x.n, .string y.t, .int .i64 y.n] t)) (some ⟨w.heap.size, 0, none⟩) [x, y] := by
  intro j hj
  refine ⟨_, rfl, by simp, ?_⟩
  match j, hj with
  | 0, _ => exact UAt.of fun r hr => by match r, hr with | 0, _ => go_simp; simp [us1, pu] | 1, _ => go_simp; simp [us1, pu]
  | 1, _ => exact UAt.of fun r hr => by match r, hr with | 0, _ => go_simp; simp [us1, pu] | 1, _ => go_simp; simp [us1, pu]
theorem Ss.two (w : World) (x y : ByteArray) (t : TypeId) : Ss (w.alloc (.cells #[.string x, .string y] t)) (some ⟨w.heap.size, 0, none⟩) [x, y] := by
  intro j hj
  refine ⟨_, rfl, by simp, ?_⟩
  match j, hj with
  | 0, _ => go_simp; rfl
  | 1, _ => go_simp; rfl
def tA : ByteArray := ⟨#[97]⟩
def tB : ByteArray := ⟨#[98]⟩
theorem shrt_of {l : List ByteArray} (h : tskB l = true) : ∀ j, j < l.length → (ba l j).size ≤ 20 := fun j hj => by
  have := ((tasksB_iff _ _).1 h).2.1 (ba l j) (by rw [ba_lt l hj]; exact List.getElem_mem hj)
  unfold nameB at this
  simp only [Bool.and_eq_true, decide_eq_true_eq] at this
  exact this.2.2
theorem shrt_20 {l : List ByteArray} (h : ∀ j, j < l.length → (ba l j).size ≤ 20) : Shrt l := fun j hj => Nat.le_trans (h j hj) (by decide)
theorem tsk_ab : tskB [tA, tB] = true := by decide +kernel
theorem tsk_a : tskB [tA] = true := by decide +kernel
theorem asg_ab : asgA2 [7] 2 [tA, tB] = [⟨tA, 7⟩, ⟨tB, 7⟩] := by
  have hW : ∀ t, wlkA [7] 2 t = [7] := fun t => (pts_one 7 (by decide) (by decide) (sumK t)).1
  have hb : boundN 2 1 = 3 := by decide
  show asg (wlkA [7] 2) (boundN 2 1) [tA, tB] = _
  rw [hb]
  simp [asg, nextF, atF, hW, cnt]
set_option maxRecDepth 100000 in
set_option maxHeartbeats 4000000 in
theorem awake_any (w : World) : Calls Tryd.prog 21 #[] w fun e w' => e = .returned (.bool true) ∧ Below w.heap.size w w' := by
  have HB1 : Hid (∀ W, Calls Tryd.prog 13 #[.int .i64 4, .int .i64 2] W fun e w' => e = .returned (.tuple #[.int .i64 ((boundN 4 2 : Nat) : Int), .int .i64 0]) ∧ W = w') := Lib.hid (fun W => bound_yes 4 2 W (by decide) (by decide) (by decide))
  have HB2 : Hid (∀ W, Calls Tryd.prog 13 #[.int .i64 0, .int .i64 2] W fun e w' => e = .returned (.tuple #[.int .i64 ((boundN 0 2 : Nat) : Int), .int .i64 0]) ∧ W = w') := Lib.hid (fun W => bound_yes 0 2 W (by decide) (by decide) (by decide))
  have e1 : boundN 4 2 = 3 := by decide
  have e2 : boundN 0 2 = 0 := by decide
  rw [e1] at HB1
  rw [e2] at HB2
  clear e1 e2
  have HSS : ∀ W : World, Ss ((W.alloc (.cells #[.int .i64 7] 3)).alloc (.cells #[.string tA, .string tB] 9)) (some ⟨W.heap.size + 1, 0, none⟩) [tA, tB] := fun W => by
    have := Ss.two (W.alloc (.cells #[.int .i64 7] 3)) tA tB 9
    rwa [show (W.alloc (.cells #[.int .i64 7] 3)).heap.size = W.heap.size + 1 by simp] at this
  have HA : Hid (∀ W : World, Calls Tryd.prog 20 #[.slice (some ⟨W.heap.size, 0, none⟩) 1 1, .int .i64 2, .slice (some ⟨W.heap.size + 1, 0, none⟩) 2 2] ((W.alloc (.cells #[.int .i64 7] 3)).alloc (.cells #[.string tA, .string tB] 9))
      fun r w' => ∃ v, r = .returned (.tuple #[v, .int .i64 0]) ∧ OwnU w' ((W.alloc (.cells #[.int .i64 7] 3)).alloc (.cells #[.string tA, .string tB] 9)).heap.size v (asgA2 [7] 2 [tA, tB]) ∧ Below ((W.alloc (.cells #[.int .i64 7] 3)).alloc (.cells #[.string tA, .string tB] 9)).heap.size ((W.alloc (.cells #[.int .i64 7] 3)).alloc (.cells #[.string tA, .string tB] 9)) w') := Lib.hid (fun W =>
    assign_yes (some ⟨W.heap.size, 0, none⟩) (some ⟨W.heap.size + 1, 0, none⟩) 1 2 W.heap.size (W.heap.size + 1) [7] 2 [tA, tB] _ ((one_at W 7 _).alloc _ (by simp)) (by simp) (HSS W) (shrt_20 (shrt_of tsk_ab)) (by decide) (by decide) (by decide) (by decide) tsk_ab)
  clear HSS
  rw [asg_ab] at HA
  have HN : Hid (∀ W : World, Calls Tryd.prog 20 #[.slice none 0 0, .int .i64 2, .slice (some ⟨W.heap.size, 0, none⟩) 1 1] (W.alloc (.cells #[.string tA] 9)) fun r w' => r = .returned (.tuple #[.slice none 0 0, .int .i64 6]) ∧ Below (W.alloc (.cells #[.string tA] 9)).heap.size (W.alloc (.cells #[.string tA] 9)) w') := Lib.hid (fun (W : World) => assign_none none (some ⟨W.heap.size, 0, none⟩) 0 1 0 0 [] 2 [tA] (W.alloc (.cells #[.string tA] 9)) (Has.nil _ _ _ _) (by simp) (by decide) (Ss.one W tA _) (shrt_20 (shrt_of tsk_a)) rfl (by decide) (by decide) tsk_a)
  have HS : Hid (∀ (A : Option Addr) (c : Nat) (W : World), Us W A [⟨tA, 7⟩, ⟨tB, 7⟩] → Calls Tryd.prog 22 #[.slice A 2 c, .slice (some ⟨W.heap.size, 0, none⟩) 2 2] (W.alloc (.cells #[.string tA, .int .i64 7, .string tB, .int .i64 7] 36)) fun e w' => e = .returned (.bool true) ∧ Below (W.alloc (.cells #[.string tA, .int .i64 7, .string tB, .int .i64 7] 36)).heap.size (W.alloc (.cells #[.string tA, .int .i64 7, .string tB, .int .i64 7] 36)) w') := Lib.hid (fun (A : Option Addr) (c : Nat) (W : World) (h : Us W A [⟨tA, 7⟩, ⟨tB, 7⟩]) => same_puts A (some ⟨W.heap.size, 0, none⟩) c 2 [⟨tA, 7⟩, ⟨tB, 7⟩] [⟨tA, 7⟩, ⟨tB, 7⟩] (W.alloc (.cells #[.string tA, .int .i64 7, .string tB, .int .i64 7] 36)) (by decide) (h.alloc _) (Us.two W ⟨tA, 7⟩ ⟨tB, 7⟩ _) true (by decide))
  unfold tA tB at HA HS
  unfold tA at HN
  go_enter Tryd.func21, Tryd.ntmps21
  go_wp2_with fail
  refine (HB1.out _).mono ?_
  rintro e w1 ⟨rfl, rfl⟩
  go_wp2_with fail
  refine (HB2.out _).mono ?_
  rintro e w1 ⟨rfl, rfl⟩
  go_wp2_with fail
  refine (HA.out _).mono ?_
  rintro e w2 ⟨v, rfl, ho, hb2⟩
  have HB3 : Hid (Below w.heap.size w w2) := Lib.hid ((((Below.refl _ w).alloc (Nat.le_refl _) _).alloc (by simp) _).trans (hb2.mono (by simp; omega)))
  obtain ⟨A, c, rfl, hc, hus⟩ := ho.lst
  have HU := Lib.hid hus
  clear hb2 ho hus HA
  go_wp2_with fail
  refine (HN.out _).mono ?_
  rintro e w3 ⟨rfl, hb3⟩
  have hb23 : Below w2.heap.size w2 w3 := ((Below.refl _ w2).alloc (Nat.le_refl _) _).trans (hb3.mono (by simp))
  have HB4 := Lib.hid (HB3.out.trans (hb23.mono HB3.out.size))
  have HU4 := Lib.hid (HU.out.on hb23)
  clear hb3 hb23 HB3 HU HN
  go_wp2_with fail
  refine (HS.out _ _ _ HU4.out).mono ?_
  rintro e w4 ⟨rfl, hb4⟩
  have HB5 : Hid (Below w.heap.size w w4) := Lib.hid ((HB4.out.alloc HB4.out.size _).trans (hb4.mono (by have := HB4.out.size; simp; omega)))
  clear hb4 HB4 HU4 HS
  go_wp2_with fail
  go_ret
  exact ⟨rfl, HB5.out⟩

/-- The box of what is asked. -/
def Ab (w : World) (b : Nat) (n s l p t : Value) : Prop := w.cell? ⟨b, 0, none⟩ = some n ∧ w.cell? ⟨b, 1, none⟩ = some s ∧ w.cell? ⟨b, 2, none⟩ = some l ∧ w.cell? ⟨b, 3, none⟩ = some p ∧ w.cell? ⟨b, 4, none⟩ = some t
section
variable {w w' : World} {b : Nat} {n s l p t : Value}
theorem Ab.lt (h : Ab w b n s l p t) : b < w.heap.size := World.block_lt_of_cell? w _ h.1
theorem Ab.on (h : Ab w b n s l p t) (hb : Below w.heap.size w w') : Ab w' b n s l p t :=
  ⟨(hb.cell h.lt).trans h.1, (hb.cell h.lt).trans h.2.1, (hb.cell h.lt).trans h.2.2.1, (hb.cell h.lt).trans h.2.2.2.1, (hb.cell h.lt).trans h.2.2.2.2⟩
end
theorem Ab.new (w : World) (A B C : Option Addr) (n m k c d e : Nat) (s t : Int) : Ab (w.alloc (.cells #[.slice A n c, .int .i64 s, .slice B m d, .slice C k e, .int .i64 t] 26)) w.heap.size (.slice A n c) (.int .i64 s) (.slice B m d) (.slice C k e) (.int .i64 t) :=
  ⟨by go_simp, by go_simp, by go_simp, by go_simp, by go_simp⟩
/-- Few enough to be looked at. -/
structure Lgt (xs : List Int) (s : Int) (l : List ByteArray) : Prop where
  x1 : 1 ≤ xs.length
  x6 : xs.length ≤ 6
  l20 : l.length ≤ 20
  nod : nodesB xs = true
  tsk : tskB l = true
  s1 : 1 ≤ s
  s8 : s ≤ 8
set_option maxRecDepth 100000 in
set_option maxHeartbeats 4000000 in
theorem light_any (A B C : Option Addr) (c d e k : Nat) (xs : List Int) (s t : Int) (l : List ByteArray) (w : World) (hx : Has w 0 w.heap.size A xs) (hl : Ss w B l) (hs : Shrt l) (L : Bool) (hL : L = true ↔ Lgt xs s l) :
    Calls Tryd.prog 24 #[.agg #[.slice A xs.length c, .int .i64 s, .slice B l.length d, .slice C k e, .int .i64 t]] w fun e w' => e = .returned (.bool L) ∧ Below w.heap.size w w' := by
  have HA : Hid (Ab (w.alloc (.cells #[.slice A xs.length c, .int .i64 s, .slice B l.length d, .slice C k e, .int .i64 t] 26)) w.heap.size (.slice A xs.length c) (.int .i64 s) (.slice B l.length d) (.slice C k e) (.int .i64 t)) := Lib.hid (Ab.new w A B C xs.length l.length k c d e s t)
  have HB : Hid (Below w.heap.size w (w.alloc (.cells #[.slice A xs.length c, .int .i64 s, .slice B l.length d, .slice C k e, .int .i64 t] 26))) := Lib.hid ((Below.refl _ w).alloc (Nat.le_refl _) _)
  have HN := Lib.hid (fun (W : World) (h6 : xs.length ≤ 6) (hb : Below w.heap.size w W) => rnodes_t A c 0 w.heap.size xs W (by omega) (hx.on hb (Nat.le_refl _)) _ rfl)
  have HT := Lib.hid (fun (W : World) (h : l.length ≤ 20) (hb : Below w.heap.size w W) => rtasks_any B d l W (by omega) (hl.on hb) hs _ rfl)
  have HLG := Lib.hid hL
  clear hx hl hs hL
  have HF : Hid (¬ Lgt xs s l → L = false) := Lib.hid (fun h => by cases hz : L with | false => rfl | true => exact absurd (HLG.out.1 hz) h)
  by_cases h0 : 1 ≤ xs.length
  rotate_left
  · obtain rfl := HF.out (fun h => h0 h.x1)
    have d0_0 : decide ((1 : Int) ≤ (xs.length : Int)) = false := decide_eq_false (by omega)
    have d0_1 : decide (1 ≤ xs.length) = false := decide_eq_false (by omega)
    clear HN HT HLG HF
    go_enter Tryd.func24, Tryd.ntmps24
    go_upto_region 1 with (fail)
    generalize w.alloc (.cells #[.slice A xs.length c, .int .i64 s, .slice B l.length d, .slice C k e, .int .i64 t] 26) = w1 at *
    obtain ⟨a0, a1, a2, a3, a4⟩ := HA.out
    go_wp2_with fail
    go_ret
    exact ⟨rfl, HB.out⟩
  have d0_0 : decide ((1 : Int) ≤ (xs.length : Int)) = true := decide_eq_true (by omega)
  have d0_1 : decide (1 ≤ xs.length) = true := decide_eq_true (by omega)
  have hx1 := h0
  clear h0
  by_cases h0 : xs.length ≤ 6
  rotate_left
  · obtain rfl := HF.out (fun h => h0 h.x6)
    have d1_0 : decide ((xs.length : Int) ≤ 6) = false := decide_eq_false (by omega)
    have d1_1 : decide (xs.length ≤ 6) = false := decide_eq_false (by omega)
    clear HN HT HLG HF
    go_enter Tryd.func24, Tryd.ntmps24
    go_upto_region 1 with (fail)
    generalize w.alloc (.cells #[.slice A xs.length c, .int .i64 s, .slice B l.length d, .slice C k e, .int .i64 t] 26) = w1 at *
    obtain ⟨a0, a1, a2, a3, a4⟩ := HA.out
    go_wp2_with fail
    go_ret
    exact ⟨rfl, HB.out⟩
  have d1_0 : decide ((xs.length : Int) ≤ 6) = true := decide_eq_true (by omega)
  have d1_1 : decide (xs.length ≤ 6) = true := decide_eq_true (by omega)
  have h6 := h0
  clear h0
  by_cases h0 : l.length ≤ 20
  rotate_left
  · obtain rfl := HF.out (fun h => h0 h.l20)
    have d2_0 : decide ((l.length : Int) ≤ 20) = false := decide_eq_false (by omega)
    have d2_1 : decide (l.length ≤ 20) = false := decide_eq_false (by omega)
    clear HN HT HLG HF
    go_enter Tryd.func24, Tryd.ntmps24
    go_upto_region 1 with (fail)
    generalize w.alloc (.cells #[.slice A xs.length c, .int .i64 s, .slice B l.length d, .slice C k e, .int .i64 t] 26) = w1 at *
    obtain ⟨a0, a1, a2, a3, a4⟩ := HA.out
    go_wp2_with fail
    go_ret
    exact ⟨rfl, HB.out⟩
  have d2_0 : decide ((l.length : Int) ≤ 20) = true := decide_eq_true (by omega)
  have d2_1 : decide (l.length ≤ 20) = true := decide_eq_true (by omega)
  have h20 := h0
  clear h0
  rcases hN : nodesB xs with _ | _
  · obtain rfl := HF.out (fun h => by rw [h.nod] at hN; cases hN)
    rw [hN] at HN
    clear HT HLG HF
    go_enter Tryd.func24, Tryd.ntmps24
    go_upto_region 1 with (fail)
    generalize w.alloc (.cells #[.slice A xs.length c, .int .i64 s, .slice B l.length d, .slice C k e, .int .i64 t] 26) = w1 at *
    obtain ⟨a0, a1, a2, a3, a4⟩ := HA.out
    go_wp2_with fail
    refine (HN.out _ h6 HB.out).mono ?_
    rintro e w2 ⟨rfl, hb2⟩
    have HB2 := Lib.hid (HB.out.trans (hb2.mono HB.out.size))
    obtain ⟨a0, a1, a2, a3, a4⟩ := HA.out.on hb2
    have HA2 := Lib.hid (HA.out.on hb2)
    clear hb2
    go_wp2_with fail
    go_ret
    exact ⟨rfl, HB2.out⟩
  rw [hN] at HN
  rcases hT : tskB l with _ | _
  · obtain rfl := HF.out (fun h => by rw [h.tsk] at hT; cases hT)
    rw [hT] at HT
    clear HLG HF
    go_enter Tryd.func24, Tryd.ntmps24
    go_upto_region 1 with (fail)
    generalize w.alloc (.cells #[.slice A xs.length c, .int .i64 s, .slice B l.length d, .slice C k e, .int .i64 t] 26) = w1 at *
    obtain ⟨a0, a1, a2, a3, a4⟩ := HA.out
    go_wp2_with fail
    refine (HN.out _ h6 HB.out).mono ?_
    rintro e w2 ⟨rfl, hb2⟩
    have HB2 := Lib.hid (HB.out.trans (hb2.mono HB.out.size))
    obtain ⟨a0, a1, a2, a3, a4⟩ := HA.out.on hb2
    have HA2 := Lib.hid (HA.out.on hb2)
    clear hb2
    go_wp2_with fail
    refine (HT.out _ h20 HB2.out).mono ?_
    rintro e w3 ⟨rfl, hb3⟩
    have HB3 := Lib.hid (HB2.out.trans (hb3.mono HB2.out.size))
    obtain ⟨a0, a1, a2, a3, a4⟩ := HA2.out.on hb3
    clear hb3
    go_wp2_with fail
    go_ret
    exact ⟨rfl, HB3.out⟩
  rw [hT] at HT
  by_cases h0 : 1 ≤ s
  rotate_left
  · obtain rfl := HF.out (fun h => h0 h.s1)
    have d5_0 : decide ((1 : Int) ≤ s) = false := decide_eq_false (by omega)
    clear HLG HF
    go_enter Tryd.func24, Tryd.ntmps24
    go_upto_region 1 with (fail)
    generalize w.alloc (.cells #[.slice A xs.length c, .int .i64 s, .slice B l.length d, .slice C k e, .int .i64 t] 26) = w1 at *
    obtain ⟨a0, a1, a2, a3, a4⟩ := HA.out
    go_wp2_with fail
    refine (HN.out _ h6 HB.out).mono ?_
    rintro e w2 ⟨rfl, hb2⟩
    have HB2 := Lib.hid (HB.out.trans (hb2.mono HB.out.size))
    obtain ⟨a0, a1, a2, a3, a4⟩ := HA.out.on hb2
    have HA2 := Lib.hid (HA.out.on hb2)
    clear hb2
    go_wp2_with fail
    refine (HT.out _ h20 HB2.out).mono ?_
    rintro e w3 ⟨rfl, hb3⟩
    have HB3 := Lib.hid (HB2.out.trans (hb3.mono HB2.out.size))
    obtain ⟨a0, a1, a2, a3, a4⟩ := HA2.out.on hb3
    clear hb3
    go_wp2_with fail
    go_ret
    exact ⟨rfl, HB3.out⟩
  have d5_0 : decide ((1 : Int) ≤ s) = true := decide_eq_true (by omega)
  have hs1 := h0
  clear h0
  by_cases h0 : s ≤ 8
  rotate_left
  · obtain rfl := HF.out (fun h => h0 h.s8)
    have d6_0 : decide (s ≤ 8) = false := decide_eq_false (by omega)
    clear HLG HF
    go_enter Tryd.func24, Tryd.ntmps24
    go_upto_region 1 with (fail)
    generalize w.alloc (.cells #[.slice A xs.length c, .int .i64 s, .slice B l.length d, .slice C k e, .int .i64 t] 26) = w1 at *
    obtain ⟨a0, a1, a2, a3, a4⟩ := HA.out
    go_wp2_with fail
    refine (HN.out _ h6 HB.out).mono ?_
    rintro e w2 ⟨rfl, hb2⟩
    have HB2 := Lib.hid (HB.out.trans (hb2.mono HB.out.size))
    obtain ⟨a0, a1, a2, a3, a4⟩ := HA.out.on hb2
    have HA2 := Lib.hid (HA.out.on hb2)
    clear hb2
    go_wp2_with fail
    refine (HT.out _ h20 HB2.out).mono ?_
    rintro e w3 ⟨rfl, hb3⟩
    have HB3 := Lib.hid (HB2.out.trans (hb3.mono HB2.out.size))
    obtain ⟨a0, a1, a2, a3, a4⟩ := HA2.out.on hb3
    clear hb3
    go_wp2_with fail
    go_ret
    exact ⟨rfl, HB3.out⟩
  have d6_0 : decide (s ≤ 8) = true := decide_eq_true (by omega)
  have hs8 := h0
  clear h0
  obtain rfl := HLG.out.2 ⟨hx1, h6, h20, hN, hT, hs1, hs8⟩
  clear HF HLG
  go_enter Tryd.func24, Tryd.ntmps24
  go_upto_region 1 with (fail)
  generalize w.alloc (.cells #[.slice A xs.length c, .int .i64 s, .slice B l.length d, .slice C k e, .int .i64 t] 26) = w1 at *
  obtain ⟨a0, a1, a2, a3, a4⟩ := HA.out
  go_wp2_with fail
  refine (HN.out _ h6 HB.out).mono ?_
  rintro e w2 ⟨rfl, hb2⟩
  have HB2 := Lib.hid (HB.out.trans (hb2.mono HB.out.size))
  obtain ⟨a0, a1, a2, a3, a4⟩ := HA.out.on hb2
  have HA2 := Lib.hid (HA.out.on hb2)
  clear hb2
  go_wp2_with fail
  refine (HT.out _ h20 HB2.out).mono ?_
  rintro e w3 ⟨rfl, hb3⟩
  have HB3 := Lib.hid (HB2.out.trans (hb3.mono HB2.out.size))
  obtain ⟨a0, a1, a2, a3, a4⟩ := HA2.out.on hb3
  clear hb3
  go_wp2_with fail
  go_ret
  exact ⟨rfl, HB3.out⟩

/-! ### what comes in -/
section
variable {H : Type} {enc : TypeId × Value → H}
theorem cellsTexts : Tryd.prog.cellsOf 23 = 1 := by kernel_rfl
theorem cellsPut : Tryd.prog.cellsOf 36 = 2 := by kernel_rfl
theorem cellsPuts : Tryd.prog.cellsOf 24 = 1 := by kernel_rfl
theorem cellsAsk : Tryd.prog.cellsOf 26 = 5 := by kernel_rfl
theorem ba_mem (l : List ByteArray) {j : Nat} (h : j < l.length) : ba l j ∈ l := by rw [ba_lt l h]; exact List.getElem_mem h
/-- Cells that read as texts. -/
theorem one_texts {W : World} {n : Nat} {cs : List Value} {x : DataW H × List MemPlace} (h : DataW.trod enc Tryd.prog W 0 (fun _ => true) true n 23 cs = some x) :
    ∃ (A : Option Addr) (c : Nat) (xs : List ByteArray), cs = [.slice A xs.length c] ∧ xs.length ≤ c ∧ c ≤ maxLen ∧ Ss W A xs ∧ Shrt xs := by
  rcases open_strings Tryd.underlying23 Tryd.underlying9 cellsStr h with ⟨hcs, hx⟩ | ⟨a, len, cap, zs, hcs, _, hl, hm, hz, hx, hcell, hsz⟩
  · exact ⟨none, 0, [], hcs, by simp, by simp, Ss.nil _ _, fun j hj => absurd hj (Nat.not_lt_zero j)⟩
  · simp only [if_true] at hz
    have hlen : (zs.take len).length = len := by simp; omega
    refine ⟨some a, cap, zs.take len, by rw [hlen, hcs], by omega, hm, fun j hj => ?_, fun j hj => hsz _ (List.mem_of_mem_take (ba_mem _ hj))⟩
    rw [hlen] at hj
    have hc := hcell j (by omega)
    refine ⟨a, rfl, by have := World.block_lt_of_cell? W _ hc; rwa [block_add] at this, ?_⟩
    rw [hc]
    simp [ba, List.getD, hj]
    rfl
/-- Two cells that read as what is put are that. -/
theorem one_pu {W : World} {n : Nat} {cs : List Value} {x : DataW H × List MemPlace} (h : DataW.trod enc Tryd.prog W 0 (fun _ => true) true n 36 cs = some x) :
    ∃ y : Pu, cs = [.string y.t, .int .i64 y.n] ∧ y.t.size ≤ maxLen := by
  have hl : cs.length = 2 := by
    obtain ⟨xs, n', _, _, hl, _⟩ := DataW.trod_struct Tryd.underlying36 h
    rw [hl, cellsPut]
  match cs, hl with
  | [c0, c1], _ =>
    obtain ⟨xs, n', _, hx, _, hlen, hg⟩ := DataW.trod_struct Tryd.underlying36 h
    match xs, hlen with
    | [y0, y1], _ =>
      have g0 : DataW.trod enc Tryd.prog W 0 (fun _ => true) true n' 9 ((([c0, c1] : List Value).drop 0).take (Tryd.prog.cellsOf 9)) = some y0 := hg 0 _ rfl
      have g1 : DataW.trod enc Tryd.prog W 0 (fun _ => true) true n' 3 ((([c0, c1] : List Value).drop 1).take (Tryd.prog.cellsOf 3)) = some y1 := hg 1 _ rfl
      rw [cellsStr] at g0
      rw [cellsInt] at g1
      simp only [List.drop_zero, List.drop_succ_cons, List.take_succ_cons, List.take_zero] at g0 g1
      obtain ⟨a, e0, _, w0⟩ := DataW.trod_string Tryd.underlying9 g0
      obtain ⟨b, e1, _, _⟩ := DataW.trod_int Tryd.underlying3 g1
      simp only [List.cons.injEq, and_true] at e0 e1
      subst e0 e1
      exact ⟨⟨a, b⟩, rfl, w0⟩
def ShrtU (l : List Pu) : Prop := ∀ j, j < l.length → (pu l j).t.size ≤ maxLen
theorem ShrtU.map {l : List Pu} (h : ShrtU l) : Shrt (l.map Pu.t) := fun j hj => by
  have hj' : j < l.length := by simpa using hj
  rw [ba_map l hj']
  exact h j hj'
theorem puts_of (W : World) (a : Addr) : ∀ m : Nat, (∀ i, i < m → ∃ y : Pu, UAt W (a.add (i * 2)) y ∧ y.t.size ≤ maxLen) → ∃ xs : List Pu, xs.length = m ∧ (∀ i, i < m → UAt W (a.add (i * 2)) (pu xs i)) ∧ ShrtU xs := by
  intro m
  induction m with
  | zero => intro _; exact ⟨[], rfl, fun i hi => absurd hi (Nat.not_lt_zero i), fun j hj => absurd hj (Nat.not_lt_zero j)⟩
  | succ m ih =>
    intro h
    obtain ⟨xs, hl, hx, hf⟩ := ih fun i hi => h i (by omega)
    obtain ⟨y, hy, hb⟩ := h m (by omega)
    have e1 : ∀ i, i < m → pu (xs ++ [y]) i = pu xs i := fun i hi => by simp [pu, List.getD, List.getElem?_append_left (show i < xs.length by omega)]
    have e2 : pu (xs ++ [y]) m = y := by simp [pu, List.getD, ← hl]
    refine ⟨xs ++ [y], by simp [hl], fun i hi => ?_, fun i hi => ?_⟩
    · by_cases e : i < m
      · rw [e1 i e]; exact hx i e
      · obtain rfl : i = m := by omega
        rw [e2]; exact hy
    · have hi' : i < m + 1 := by simpa [hl] using hi
      by_cases e : i < m
      · rw [e1 i e]; exact hf i (by omega)
      · obtain rfl : i = m := by omega
        rw [e2]; exact hb
theorem puts_trod {W : World} {fuel : Nat} {cs : List Value} {x : DataW H × List MemPlace} (h : DataW.trod enc Tryd.prog W 0 (fun _ => true) true fuel 24 cs = some x) :
    ∃ (A : Option Addr) (c : Nat) (xs : List Pu), cs = [.slice A xs.length c] ∧ xs.length ≤ c ∧ c ≤ maxLen ∧ Us W A xs ∧ ShrtU xs := by
  rcases Go.Deep.open_slice Tryd.underlying24 h with ⟨rfl, _⟩ | ⟨a, len, cap, m, n, D, Pl, rfl, _, hl, hm, hmm, _, hi⟩
  · exact ⟨none, 0, [], rfl, by simp, by simp, Us.nil _ _, fun j hj => absurd hj (Nat.not_lt_zero j)⟩
  · simp only [if_true] at hmm
    rw [cellsPut] at hi
    obtain ⟨xs, hxl, hx, hf⟩ := puts_of W a len fun i hil => by
      obtain ⟨cs', hc, ht⟩ := hi i (by omega)
      obtain ⟨y, rfl, hy⟩ := one_pu ht
      obtain ⟨_, _, hat⟩ := World.cells?_some hc
      exact ⟨y, ⟨hat 0 (by decide), hat 1 (by decide)⟩, hy⟩
    refine ⟨some a, cap, xs, by rw [hxl], by omega, hm, fun j hj => ⟨a, rfl, ?_, hx j (by omega)⟩, hf⟩
    have := World.block_lt_of_cell? W _ (hx j (by omega)).1
    rwa [block_add] at this
set_option maxRecDepth 100000 in
/-- What came in: nodes, spots, tasks, what is put, a number. -/
theorem open_ask {W : World} {b0 : Nat} {v : Value} {d : DataW H} {p : List MemPlace} (hval : Value.okWide Tryd.prog W .any b0 26 v) (h : DataW.Trod enc Tryd.prog W 0 (fun _ => true) true 26 v d p) :
    ∃ (A : Option Addr) (c : Nat) (xs : List Int) (s : Int) (B : Option Addr) (d : Nat) (l : List ByteArray) (C : Option Addr) (e : Nat) (u : List Pu) (t : Int), v = .agg #[.slice A xs.length c, .int .i64 s, .slice B l.length d, .slice C u.length e, .int .i64 t] ∧
      xs.length ≤ c ∧ c ≤ maxLen ∧ Has W 0 W.heap.size A xs ∧ l.length ≤ d ∧ d ≤ maxLen ∧ Ss W B l ∧ Shrt l ∧ u.length ≤ e ∧ e ≤ maxLen ∧ Us W C u ∧ ShrtU u ∧ (-9223372036854775808 ≤ s ∧ s ≤ 9223372036854775807) ∧ (-9223372036854775808 ≤ t ∧ t ≤ 9223372036854775807) := by
  obtain ⟨cs, rfl, hsz⟩ := okWide_struct Tryd.underlying26 hval
  obtain ⟨l⟩ := cs
  match l, hsz.trans cellsAsk with
  | [c0, c1, c2, c3, c4], _ =>
    obtain ⟨fuel, hf⟩ := h
    obtain ⟨xs, n, _, hx, _, hlen, hg⟩ := DataW.trod_struct Tryd.underlying26 hf
    match xs, hlen with
    | [y0, y1, y2, y3, y4], _ =>
      have g0 : DataW.trod enc Tryd.prog W 0 (fun _ => true) true n 22 ((([c0, c1, c2, c3, c4] : List Value).drop 0).take (Tryd.prog.cellsOf 22)) = some y0 := hg 0 _ rfl
      have g1 : DataW.trod enc Tryd.prog W 0 (fun _ => true) true n 3 ((([c0, c1, c2, c3, c4] : List Value).drop 1).take (Tryd.prog.cellsOf 3)) = some y1 := hg 1 _ rfl
      have g2 : DataW.trod enc Tryd.prog W 0 (fun _ => true) true n 23 ((([c0, c1, c2, c3, c4] : List Value).drop 2).take (Tryd.prog.cellsOf 23)) = some y2 := hg 2 _ rfl
      have g3 : DataW.trod enc Tryd.prog W 0 (fun _ => true) true n 24 ((([c0, c1, c2, c3, c4] : List Value).drop 3).take (Tryd.prog.cellsOf 24)) = some y3 := hg 3 _ rfl
      have g4 : DataW.trod enc Tryd.prog W 0 (fun _ => true) true n 3 ((([c0, c1, c2, c3, c4] : List Value).drop 4).take (Tryd.prog.cellsOf 3)) = some y4 := hg 4 _ rfl
      rw [cellsNums] at g0
      rw [cellsInt] at g1 g4
      rw [cellsTexts] at g2
      rw [cellsPuts] at g3
      simp only [List.drop_zero, List.drop_succ_cons, List.take_succ_cons, List.take_zero] at g0 g1 g2 g3 g4
      obtain ⟨A, c, xs, e0, n1, n2, n3⟩ := one_nums g0
      obtain ⟨a, e1, _, w1⟩ := DataW.trod_int Tryd.underlying3 g1
      obtain ⟨B, d, l, e2, p1, p2, p3, p4⟩ := one_texts g2
      obtain ⟨C, e, u, e3, q1, q2, q3, q4⟩ := puts_trod g3
      obtain ⟨b, e4, _, w4⟩ := DataW.trod_int Tryd.underlying3 g4
      simp only [List.cons.injEq, and_true] at e0 e1 e2 e3 e4
      subst e0 e1 e2 e3 e4
      exact ⟨A, c, xs, a, B, d, l, C, e, u, b, rfl, n1, n2, n3, p1, p2, p3, p4, q1, q2, q3, q4, i64_of_wf w1, i64_of_wf w4⟩
end
end Go.Proofs.YthcjjogomknddaaDoor
