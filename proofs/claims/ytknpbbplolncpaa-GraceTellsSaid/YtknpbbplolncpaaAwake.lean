/-
  Doubts as a law's variable holds them; what is called, as a law meets it; the walk of the chapter's examples.
-/
import Derived.Test.YtknpbbplolncpaaRipe
import Derived.Test.YtknpbbplolncpaaSame
import Derived.Test.YtknpbbplolncpaaFallMath
namespace Go.Proofs.Ytknpbbplolncpaa
open Go.Sort Go.RowKit Go.Proofs.Ytknpbbplolncpaa.Pure

theorem ripe_any (A : Option Addr) (c hi : Nat) (l : List Db) (r : Ru) (n now : Int) (w : World) (hs : Sm l) (h : Ds w hi A l) (hh : hi ≤ w.heap.size) :
    Calls Try.prog 18 #[.slice A l.length c, .agg #[.int .i64 r.mn, .int .i64 r.mo, .int .i64 r.al], .int .i64 n, .int .i64 now] w (Gives2 w (ripeA (l.map Db.ct) r n now).1 (ripeA (l.map Db.ct) r n now).2.1 (ripeA (l.map Db.ct) r n now).2.2) := by
  unfold ripeA
  rcases hm : mayP (l.map Db.ct) r n now with _ | _
  · rw [if_neg (by decide)]
    exact ripe_bad A c hi l r n now w hs h hh hm
  · rw [if_pos rfl]
    have h' := hm
    simp only [mayP, mayG, Bool.and_eq_true, decide_eq_true_iff, rulesB_iff] at h'
    obtain ⟨⟨hr, h1, h2, h3⟩, h4, h5⟩ := h'
    obtain ⟨m, rfl⟩ := Int.eq_ofNat_of_zero_le (show 0 ≤ n by omega)
    exact ripe_ok A c hi l r m now w hs h hh hr (by omega) (by omega) h4 h5

/-- Doubts that a variable holds. -/
def Va (w : World) (v : Value) (R : List Dt) : Prop := ∃ A c ys, v = .slice A ys.length c ∧ ys.length ≤ c ∧ c ≤ maxLen ∧ Ds w w.heap.size A ys ∧ ys.map Db.ct = R
/-- No more of them than a machine counts. -/
def SmR (R : List Dt) : Prop := R.length ≤ 1000 ∧ ∀ x ∈ R, x.b.length ≤ 1000
section
variable {w w' : World} {v : Value} {R : List Dt}
theorem SmR.sm {ys : List Db} (h : SmR (ys.map Db.ct)) : Sm ys := ⟨by simpa using h.1, fun x hx => h.2 x.ct (List.mem_map_of_mem hx)⟩
theorem SmR.sub {R' : List Dt} (h : SmR R) (hl : R'.length ≤ R.length) (hm : ∀ x ∈ R', x ∈ R) : SmR R' := ⟨by have := h.1; omega, fun x hx => h.2 x (hm x hx)⟩
theorem SmR.filter (h : SmR R) (p : Dt → Bool) : SmR (R.filter p) := h.sub (List.length_filter_le _ _) fun _ hx => (List.mem_filter.1 hx).1
theorem smR_may (h : mayD R = true) : R.length ≤ 64 ∧ ∀ x ∈ R, x.b.length ≤ 64 := by
  refine ⟨mayD_len h, fun x hx => ?_⟩
  obtain ⟨j, hj, rfl⟩ := List.getElem_of_mem hx
  have := ((mayD_iff R).1 h).1 j hj
  rw [dt_lt R hj] at this
  exact riseB_len this.2.2
theorem SmR.raise (h : SmR R) (who inc b now : Int) : SmR (raiseA R who inc b now).1 := by
  unfold raiseA
  by_cases hm : mayR R who b now = true
  · rw [if_pos hm]
    obtain ⟨h1, h2⟩ := smR_may ((mayR_iff R who b now).1 hm).1
    show SmR (raiseD R who inc b now)
    unfold raiseD
    split
    · rename_i hh
      have hp : posN (whos R) who < R.length := by
        have := hh
        simp only [hitN, Bool.and_eq_true, decide_eq_true_iff, whos_len] at this
        exact this.1
      split
      · refine ⟨by simp; omega, fun x hx => ?_⟩
        rcases List.mem_or_eq_of_mem_set hx with hx | rfl
        · have := h2 x hx; omega
        · simp
      · split
        · refine ⟨by simp; omega, fun x hx => ?_⟩
          rcases List.mem_or_eq_of_mem_set hx with hx | rfl
          · have := h2 x hx; omega
          · have := withN_len (dt R (posN (whos R) who)).b b
            have := h2 _ (dt_mem R hp)
            show (withN (dt R (posN (whos R) who)).b b).length ≤ 1000
            omega
        · exact h
    · refine ⟨by simp; omega, fun x hx => ?_⟩
      rcases List.mem_append.1 hx with hx | hx
      · have := h2 x (List.mem_of_mem_take hx); omega
      · rcases List.mem_cons.1 hx with rfl | hx
        · simp
        · have := h2 x (List.mem_of_mem_drop hx); omega
  · rw [if_neg hm]; exact h
theorem SmR.clear (h : SmR R) (who inc : Int) : SmR (clearA R who inc).1 := by
  unfold clearA
  split
  · exact h.filter _
  · exact h
theorem Va.on (h : Va w v R) (hb : Below w.heap.size w w') : Va w' v R := by
  obtain ⟨A, c, ys, e, h1, h2, h3, h4⟩ := h
  exact ⟨A, c, ys, e, h1, h2, h3.onW hb, h4⟩
theorem Va.own {B : Nat} {ys : List Db} (h : OwnD w B v ys) (e : ys.map Db.ct = R) : Va w v R := by
  obtain ⟨A, c, rfl, h1, h2, _, h3⟩ := h.ds0
  exact ⟨A, c, ys, rfl, h1, h2, h3, e⟩
theorem Va.nil (w : World) : Va w (.slice none 0 0) [] := ⟨none, 0, [], rfl, Nat.le_refl _, Nat.zero_le _, Ds.nil _ _ _, rfl⟩
theorem Va.len (h : Va w v R) : ∃ A c, v = .slice A R.length c := by
  obtain ⟨A, c, ys, rfl, _, _, _, rfl⟩ := h
  exact ⟨A, c, by simp⟩
end
section
variable (v v' : Value) (R R' : List Dt) (W : World)
def GivesR (W : World) (R : List Dt) (er : Int) (e : Ending) (w' : World) : Prop := ∃ v', e = .returned (.tuple #[v', .int .i64 er]) ∧ Va w' v' R ∧ Below W.heap.size W w'
theorem l_raise (who inc b now : Int) (hs : SmR R) (h : Va W v R) : Calls Try.prog 16 #[v, .int .i64 who, .int .u64 inc, .int .i64 b, .int .i64 now] W (GivesR W (raiseA R who inc b now).1 (raiseA R who inc b now).2) := by
  obtain ⟨A, c, ys, rfl, _, _, h3, rfl⟩ := h
  refine (raise_any A c W.heap.size ys who inc b now W hs.sm h3 (Nat.le_refl _)).mono ?_
  rintro e w' ⟨v, zs, rfl, ho, he, hb⟩
  exact ⟨v, rfl, Va.own ho he, hb⟩
theorem l_clear (who inc : Int) (hs : SmR R) (h : Va W v R) : Calls Try.prog 17 #[v, .int .i64 who, .int .u64 inc] W (GivesR W (clearA R who inc).1 (clearA R who inc).2) := by
  obtain ⟨A, c, ys, rfl, _, _, h3, rfl⟩ := h
  refine (clear_any A c W.heap.size ys who inc W hs.sm h3 (Nat.le_refl _)).mono ?_
  rintro e w' ⟨v, zs, rfl, ho, he, hb⟩
  exact ⟨v, rfl, Va.own ho he, hb⟩
def GivesR2 (W : World) (R1 R2 : List Dt) (er : Int) (e : Ending) (w' : World) : Prop := ∃ v1 v2, e = .returned (.tuple #[v1, v2, .int .i64 er]) ∧ Va w' v1 R1 ∧ Va w' v2 R2 ∧ Below W.heap.size W w'
theorem l_ripe (r : Ru) (n now : Int) (hs : SmR R) (h : Va W v R) : Calls Try.prog 18 #[v, .agg #[.int .i64 r.mn, .int .i64 r.mo, .int .i64 r.al], .int .i64 n, .int .i64 now] W (GivesR2 W (ripeA R r n now).1 (ripeA R r n now).2.1 (ripeA R r n now).2.2) := by
  obtain ⟨A, c, ys, rfl, _, _, h3, rfl⟩ := h
  refine (ripe_any A c W.heap.size ys r n now W hs.sm h3 (Nat.le_refl _)).mono ?_
  rintro e w' ⟨v1, v2, z1, z2, rfl, ho1, ho2, he1, he2, hb⟩
  exact ⟨v1, v2, rfl, Va.own ho1 he1, Va.own ho2 he2, hb⟩
theorem l_check (hs : SmR R) (h : Va W v R) (L : Bool) (hL : mayD R = L) : Calls Try.prog 14 #[v] W fun e w' => e = .returned (.int .i64 (okE L)) ∧ Below W.heap.size W w' := by
  obtain ⟨A, c, ys, rfl, _, _, h3, rfl⟩ := h
  exact check_any A c W.heap.size ys W hs.sm h3 (Nat.le_refl _) L hL
theorem l_same (hs : SmR R) (h : Va W v R) (h' : Va W v' R') (S : Bool) (hS : decide (R = R') = S) : Calls Try.prog 19 #[v, v'] W fun e w' => e = .returned (.bool S) ∧ Below W.heap.size W w' := by
  obtain ⟨A, c, ys, rfl, _, _, h3, rfl⟩ := h
  obtain ⟨A', c', zs, rfl, _, _, h3', rfl⟩ := h'
  exact same_any A A' c c' W.heap.size W.heap.size ys zs W hs.sm h3 h3' (Nat.le_refl _) (Nat.le_refl _) S hS
theorem l_rsame (hs : SmR R) (h : Va W v R) (h' : Va W v' R') (S : Bool) (hS : decide (R = R') = S) : Calls Try.prog 20 #[v, v'] W fun e w' => e = .returned (.bool S) ∧ Below W.heap.size W w' := by
  obtain ⟨A, c, ys, rfl, _, _, h3, rfl⟩ := h
  obtain ⟨A', c', zs, rfl, _, _, h3', rfl⟩ := h'
  exact rsame_any A A' c c' W.heap.size W.heap.size ys zs W hs.sm h3 h3' (Nat.le_refl _) (Nat.le_refl _) S hS
end

/-! ### the chapter's examples -/
theorem exG0 : graceA ⟨2, 3, 4⟩ 5 0 = (18, 0) := by decide
theorem exG2 : graceA ⟨2, 3, 4⟩ 5 2 = (12, 0) := by decide
theorem exG9 : graceA ⟨2, 3, 4⟩ 5 9 = (6, 0) := by decide
theorem exR1 : raiseA [] 1 7 2 5 = ([⟨1, 7, 5, [2]⟩], 0) := by decide
theorem exR2 : raiseA [⟨1, 7, 5, [2]⟩] 1 7 2 9 = ([⟨1, 7, 5, [2]⟩], 0) := by decide
theorem exC : clearA [⟨1, 7, 5, [2]⟩] 1 6 = ([⟨1, 7, 5, [2]⟩], 0) := by decide
theorem exS : SmR [⟨1, 7, 5, [2]⟩] := by
  refine ⟨by decide, fun x hx => ?_⟩
  obtain rfl := List.mem_singleton.1 hx
  decide

set_option maxRecDepth 100000 in
set_option maxHeartbeats 4000000 in
theorem awake_any (w : World) : Calls Try.prog 21 #[] w fun e w' => e = .returned (.bool true) ∧ Below w.heap.size w w' := by
  have HG0 := Lib.hid (fun W : World => (by have := grace_any ⟨2, 3, 4⟩ 5 0 W; rw [exG0] at this; exact this : Calls Try.prog 10 #[.agg #[.int .i64 2, .int .i64 3, .int .i64 4], .int .i64 5, .int .i64 0] W fun e w' => e = .returned (.tuple #[.int .i64 18, .int .i64 0]) ∧ Below W.heap.size W w'))
  have HG2 := Lib.hid (fun W : World => (by have := grace_any ⟨2, 3, 4⟩ 5 2 W; rw [exG2] at this; exact this : Calls Try.prog 10 #[.agg #[.int .i64 2, .int .i64 3, .int .i64 4], .int .i64 5, .int .i64 2] W fun e w' => e = .returned (.tuple #[.int .i64 12, .int .i64 0]) ∧ Below W.heap.size W w'))
  have HG9 := Lib.hid (fun W : World => (by have := grace_any ⟨2, 3, 4⟩ 5 9 W; rw [exG9] at this; exact this : Calls Try.prog 10 #[.agg #[.int .i64 2, .int .i64 3, .int .i64 4], .int .i64 5, .int .i64 9] W fun e w' => e = .returned (.tuple #[.int .i64 6, .int .i64 0]) ∧ Below W.heap.size W w'))
  have HR1 := Lib.hid (fun W : World => (by have := l_raise (.slice none 0 0) [] W 1 7 2 5 ⟨by decide, fun x hx => by cases hx⟩ (Va.nil W); rw [exR1] at this; exact this : Calls Try.prog 16 #[.slice none 0 0, .int .i64 1, .int .u64 7, .int .i64 2, .int .i64 5] W (GivesR W [⟨1, 7, 5, [2]⟩] 0)))
  have HR2 := Lib.hid (fun (v : Value) (W : World) (h : Va W v [⟨1, 7, 5, [2]⟩]) => (by have := l_raise v _ W 1 7 2 9 exS h; rw [exR2] at this; exact this : Calls Try.prog 16 #[v, .int .i64 1, .int .u64 7, .int .i64 2, .int .i64 9] W (GivesR W [⟨1, 7, 5, [2]⟩] 0)))
  have HC := Lib.hid (fun (v : Value) (W : World) (h : Va W v [⟨1, 7, 5, [2]⟩]) => (by have := l_clear v _ W 1 6 exS h; rw [exC] at this; exact this : Calls Try.prog 17 #[v, .int .i64 1, .int .u64 6] W (GivesR W [⟨1, 7, 5, [2]⟩] 0)))
  have HS := Lib.hid (fun (v v' : Value) (W : World) (h : Va W v [⟨1, 7, 5, [2]⟩]) (h' : Va W v' [⟨1, 7, 5, [2]⟩]) => l_rsame v v' _ _ W exS h h' true (by decide))
  have HB0 : Hid (Below w.heap.size w (w.alloc (.cells #[.int .i64 2, .int .i64 3, .int .i64 4] 24))) := Lib.hid ((Below.refl _ w).alloc (Nat.le_refl _) _)
  have BX : Hid ((w.alloc (.cells #[.int .i64 2, .int .i64 3, .int .i64 4] 24)).cell? ⟨w.heap.size, 0, none⟩ = some (.int .i64 2) ∧ (w.alloc (.cells #[.int .i64 2, .int .i64 3, .int .i64 4] 24)).cell? ⟨w.heap.size, 1, none⟩ = some (.int .i64 3) ∧ (w.alloc (.cells #[.int .i64 2, .int .i64 3, .int .i64 4] 24)).cell? ⟨w.heap.size, 2, none⟩ = some (.int .i64 4)) := Lib.hid ⟨by go_simp, by go_simp, by go_simp⟩
  go_enter Try.func21, Try.ntmps21
  go_upto_region 2 with (fail)
  generalize (w.alloc (.cells #[.int .i64 2, .int .i64 3, .int .i64 4] 24)) = w0 at *
  obtain ⟨x0, x1, x2⟩ := BX.out
  go_wp2_with fail
  refine (HG0.out _).mono ?_
  rintro e w1 ⟨rfl, hb⟩
  have BX1 : Hid (_ ∧ _ ∧ _) := Lib.hid ⟨cell_on BX.out.1 hb, cell_on BX.out.2.1 hb, cell_on BX.out.2.2 hb⟩
  have HB1 : Hid (Below w.heap.size w w1) := Lib.hid (HB0.out.trans (hb.mono HB0.out.size))
  clear x0 x1 x2 hb HB0 BX HG0
  obtain ⟨x0, x1, x2⟩ := BX1.out
  go_wp2_with fail
  refine (HG2.out _).mono ?_
  rintro e w2 ⟨rfl, hb⟩
  have BX2 : Hid (_ ∧ _ ∧ _) := Lib.hid ⟨cell_on BX1.out.1 hb, cell_on BX1.out.2.1 hb, cell_on BX1.out.2.2 hb⟩
  have HB2 : Hid (Below w.heap.size w w2) := Lib.hid (HB1.out.trans (hb.mono HB1.out.size))
  clear x0 x1 x2 hb HB1 BX1 HG2
  obtain ⟨x0, x1, x2⟩ := BX2.out
  go_wp2_with fail
  refine (HG9.out _).mono ?_
  rintro e w3 ⟨rfl, hb⟩
  have BX3 : Hid (_ ∧ _ ∧ _) := Lib.hid ⟨cell_on BX2.out.1 hb, cell_on BX2.out.2.1 hb, cell_on BX2.out.2.2 hb⟩
  have HB3 : Hid (Below w.heap.size w w3) := Lib.hid (HB2.out.trans (hb.mono HB2.out.size))
  clear x0 x1 x2 hb HB2 BX2 HG9
  clear BX3
  go_wp2_with fail
  refine (HR1.out _).mono ?_
  rintro e w4 ⟨va, rfl, hv, hb⟩
  have Vva_4 := Lib.hid hv
  have HB4 : Hid (Below w.heap.size w w4) := Lib.hid (HB3.out.trans (hb.mono HB3.out.size))
  clear hb hv HB3 HR1
  go_wp2_with fail
  refine (HR2.out _ _ Vva_4.out).mono ?_
  rintro e w5 ⟨vb, rfl, hv, hb⟩
  have Vva_5 := Lib.hid (Vva_4.out.on hb)
  have Vvb_5 := Lib.hid hv
  have HB5 : Hid (Below w.heap.size w w5) := Lib.hid (HB4.out.trans (hb.mono HB4.out.size))
  clear hb hv HB4 HR2 Vva_4
  go_wp2_with fail
  refine (HC.out _ _ Vvb_5.out).mono ?_
  rintro e w6 ⟨vc, rfl, hv, hb⟩
  have Vva_6 := Lib.hid (Vva_5.out.on hb)
  have Vvb_6 := Lib.hid (Vvb_5.out.on hb)
  have Vvc_6 := Lib.hid hv
  have HB6 : Hid (Below w.heap.size w w6) := Lib.hid (HB5.out.trans (hb.mono HB5.out.size))
  clear hb hv HB5 HC Vva_5  Vvb_5
  obtain ⟨A, c, rfl⟩ := Vva_6.out.len
  have e1 : ([⟨1, 7, 5, [2]⟩] : List Dt).length = 1 := rfl
  rw [e1] at Vva_6 ⊢
  go_wp2_with fail
  refine (HS.out _ _ _ Vva_6.out Vvb_6.out).mono ?_
  rintro e w7 ⟨rfl, hb⟩
  have VB := Lib.hid (Vvb_6.out.on hb)
  have VC := Lib.hid (Vvc_6.out.on hb)
  have HB7 : Hid (Below w.heap.size w w7) := Lib.hid (HB6.out.trans (hb.mono HB6.out.size))
  clear hb HB6 Vva_6 Vvb_6 Vvc_6
  go_wp2_with fail
  refine (HS.out _ _ _ VB.out VC.out).mono ?_
  rintro e w8 ⟨rfl, hb⟩
  go_wp2_with fail
  go_ret
  exact ⟨rfl, HB7.out.trans (hb.mono HB7.out.size)⟩
end Go.Proofs.Ytknpbbplolncpaa
