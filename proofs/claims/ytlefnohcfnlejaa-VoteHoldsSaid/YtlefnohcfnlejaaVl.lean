/-
  What is asked, in a box; what follows of all answers.
-/
import Derived.Test.YtlefnohcfnlejaaVc
namespace Go.Proofs.Ytlefnohcfnlejaa
open Go.Sort Go.RowKit Go.Proofs.Ytlefnohcfnlejaa.Pure

/-! ### what is asked -/
theorem ak_zero {x : Tm} {v : Vt} {f n : Int} (h : akE x v f n = 0) : ¬ holdF x = 0 ∧ mayV v = true ∧ nodeV f = true ∧ momB n = true := by
  unfold akE at h
  split at h
  · cases h
  · rename_i h1
    refine ⟨fun e => h1 (.inl e), ?_, ?_, ?_⟩
    · cases hb : mayV v with
      | true => rfl
      | false => exact absurd (.inr (.inl hb)) h1
    · cases hb : nodeV f with
      | true => rfl
      | false => exact absurd (.inr (.inr (.inl hb))) h1
    · cases hb : momB n with
      | true => rfl
      | false => exact absurd (.inr (.inr (.inr hb))) h1
theorem ak_is {x : Tm} {v : Vt} {f n : Int} (h1 : ¬ holdF x = 0) (h2 : mayV v = true) (h3 : nodeV f = true) (h4 : momB n = true) : akE x v f n = 0 := by
  unfold akE
  rw [if_neg]
  rintro (h | h | h | h)
  · exact h1 h
  · rw [h2] at h; cases h
  · rw [h3] at h; cases h
  · rw [h4] at h; cases h
theorem rs_is {x : Tm} {t n : Int} (h1 : ¬ holdF x = 0) (h2 : toB t = true) (h3 : momB n = true) : rsE x t n = 0 := by
  unfold rsE
  rw [if_neg]
  rintro (h | h | h)
  · exact h1 h
  · rw [h2] at h; cases h
  · rw [h3] at h; cases h
theorem mom_iff (n : Int) : momB n = true ↔ 0 ≤ n ∧ n ≤ 1099511627776 := by unfold momB; simp
theorem node_iff (n : Int) : nodeV n = true ↔ 0 ≤ n ∧ n ≤ 63 := by unfold nodeV; simp
/-- What is asked of terms, of a vote, by whom, for which epoch, and when: ten cells. -/
def QsA (w : World) (g : Nat) (x : Tm) (v : Vt) (f e n : Int) : Prop := w.cell? ⟨g, 0, none⟩ = some (.int .i64 x.t) ∧ w.cell? ⟨g, 1, none⟩ = some (.int .i64 x.d) ∧ w.cell? ⟨g, 2, none⟩ = some (.int .i64 x.r) ∧ w.cell? ⟨g, 3, none⟩ = some (.int .u64 v.e) ∧ w.cell? ⟨g, 4, none⟩ = some (.int .i64 v.t) ∧ w.cell? ⟨g, 5, none⟩ = some (.int .i64 v.u) ∧ w.cell? ⟨g, 6, none⟩ = some (.int .i64 v.w) ∧ w.cell? ⟨g, 7, none⟩ = some (.int .i64 f) ∧ w.cell? ⟨g, 8, none⟩ = some (.int .u64 e) ∧ w.cell? ⟨g, 9, none⟩ = some (.int .i64 n)
section
variable {w w' : World} {g : Nat} {x : Tm} {v : Vt} {f e n : Int}
theorem QsA.on (h : QsA w g x v f e n) (hb : Below w.heap.size w w') : QsA w' g x v f e n := by
  have hl : g < w.heap.size := World.block_lt_of_cell? w _ h.1
  obtain ⟨h0, h1, h2, h3, h4, h5, h6, h7, h8, h9⟩ := h
  exact ⟨(hb.cell hl).trans h0, (hb.cell hl).trans h1, (hb.cell hl).trans h2, (hb.cell hl).trans h3, (hb.cell hl).trans h4, (hb.cell hl).trans h5, (hb.cell hl).trans h6, (hb.cell hl).trans h7, (hb.cell hl).trans h8, (hb.cell hl).trans h9⟩
theorem QsA.new (w : World) (x : Tm) (v : Vt) (f e n : Int) (t : TypeId) : QsA (w.alloc (.cells #[.int .i64 x.t, .int .i64 x.d, .int .i64 x.r, .int .u64 v.e, .int .i64 v.t, .int .i64 v.u, .int .i64 v.w, .int .i64 f, .int .u64 e, .int .i64 n] t)) w.heap.size x v f e n := by
  unfold QsA
  refine ⟨?_, ?_, ?_, ?_, ?_, ?_, ?_, ?_, ?_, ?_⟩ <;> go_simp
end
/-! ### what follows -/
def TmW (w : World) (g : Nat) (x : Tm) : Prop := TmA w g x ∧ ∀ k : Nat, w.frozen? ⟨g, k, none⟩ = false
theorem TmW.on {w w' : World} {g : Nat} {x : Tm} (h : TmW w g x) (hb : Below w.heap.size w w') : TmW w' g x := ⟨h.1.on hb, fun k => (World.frozen?_of_block (a := ⟨g, k, none⟩) (hb.block g h.1.lt)).trans (h.2 k)⟩
theorem TmW.new (w : World) (x : Tm) (t : TypeId) : TmW (w.alloc (.cells #[.int .i64 x.t, .int .i64 x.d, .int .i64 x.r] t)) w.heap.size x := ⟨TmA.new w x t, fun k => World.frozen?_alloc_new w _ _ k⟩
theorem TmW.put0 {w : World} {g : Nat} {x : Tm} (h : TmW w g x) (a : Int) : TmW (w.setCell ⟨g, 0, none⟩ (.int .i64 a)) g ⟨a, x.d, x.r⟩ := by
  obtain ⟨⟨h0, h1, h2⟩, hf⟩ := h
  exact ⟨⟨by go_simp, by go_simp, by go_simp⟩, fun k => by go_simp⟩
theorem TmW.put1 {w : World} {g : Nat} {x : Tm} (h : TmW w g x) (a : Int) : TmW (w.setCell ⟨g, 1, none⟩ (.int .i64 a)) g ⟨x.t, a, x.r⟩ := by
  obtain ⟨⟨h0, h1, h2⟩, hf⟩ := h
  exact ⟨⟨by go_simp, by go_simp, by go_simp⟩, fun k => by go_simp⟩
theorem TmW.other {w : World} {g : Nat} {x : Tm} {p : Addr} (h : TmW w g x) (hp : p.block ≠ g) (v : Value) : TmW (w.setCell p v) g x := by
  obtain ⟨⟨h0, h1, h2⟩, hf⟩ := h
  have n : ∀ k, ¬ p = (⟨g, k, none⟩ : Addr) := fun k e => hp (by rw [e])
  refine ⟨⟨?_, ?_, ?_⟩, fun k => ?_⟩
  · rw [World.cell?_setCell_other _ _ _ _ (n _)]; exact h0
  · rw [World.cell?_setCell_other _ _ _ _ (n _)]; exact h1
  · rw [World.cell?_setCell_other _ _ _ _ (n _)]; exact h2
  · rw [World.frozen?_of_block (a := ⟨g, k, none⟩) (Below.heap_setCell w p v g (Ne.symm hp))]
    exact hf k
theorem holdE_zero {x : Tm} (h : holdE x = 0) : ¬ holdF x = 0 := by
  intro e
  unfold holdE at h
  rw [if_pos e] at h
  cases h
theorem holdE_or (x : Tm) : (holdE x = 0 ∧ ¬ holdF x = 0) ∨ (holdE x = 1 ∧ holdF x = 0) := by
  unfold holdE
  by_cases h : holdF x = 0
  · rw [if_pos h]; exact .inr ⟨rfl, h⟩
  · rw [if_neg h]; exact .inl ⟨rfl, h⟩
theorem gdR_of {x : Tm} (h : tmB x = true) : gdR x = holdF x ∧ gdE x = 0 := by
  have hg := tm_gd h
  unfold gdR gdE holdF
  rw [if_pos hg, if_pos h, if_pos hg]
  exact ⟨rfl, rfl⟩
theorem hold_no {x : Tm} (h : ¬ holdE x = 0) : holdF x = 0 ∧ holdE x = 1 ∧ (gdE x = 1 ∨ (gdE x = 0 ∧ (gdR x < 1 ∨ (¬ gdR x < 1 ∧ (x.t < 1 ∨ (¬ x.t < 1 ∧ 1000000 < x.t)))))) := by
  rcases holdE_or x with ⟨h1, _⟩ | ⟨h1, h2⟩
  · exact absurd h1 h
  · refine ⟨h2, h1, ?_⟩
    cases hg : gdB x with
    | false => exact .inl (by unfold gdE; rw [hg]; rfl)
    | true =>
      have e0 : gdE x = 0 := by unfold gdE; rw [hg]; rfl
      refine .inr ⟨e0, ?_⟩
      by_cases h3 : gdR x < 1
      · exact .inl h3
      refine .inr ⟨h3, ?_⟩
      by_cases h4 : x.t < 1
      · exact .inl h4
      refine .inr ⟨h4, ?_⟩
      by_cases h5 : 1000000 < x.t
      · exact h5
      exfalso
      unfold gdB at hg
      simp only [Bool.and_eq_true, decide_eq_true_eq] at hg
      have hb : tmB x = true := (tmB_iff x).2 ⟨by omega, by omega, hg.2⟩
      have := (gdR_of hb).1
      omega
theorem hold_yes {x : Tm} (h : holdE x = 0) : gdR x = holdF x ∧ 1 ≤ holdF x ∧ holdF x ≤ x.t ∧ gdE x = 0 ∧ (1 ≤ x.t ∧ x.t ≤ 1000000) ∧ (0 ≤ x.d ∧ x.d ≤ 1099511627776) := by
  obtain ⟨hb, h1, h2, hg⟩ := hold_pos (holdE_zero h)
  obtain ⟨b1, b2, b3⟩ := (tmB_iff x).1 hb
  exact ⟨(gdR_of hb).1, h1, h2, (gdR_of hb).2, ⟨b1, b2⟩, (bound_r b3).1⟩
/-- A longer term, and clocks further apart. -/
theorem hold_more {x : Tm} {m : Nat} (h : holdE x = 0) : ((holdE ⟨x.t + m, x.d, x.r⟩ = 0 ∨ (holdE ⟨x.t + m, x.d, x.r⟩ = 1 ∧ 1000000 < x.t + m))) ∧ (holdE ⟨x.t + m, x.d, x.r⟩ = 0 → holdF x ≤ holdF ⟨x.t + m, x.d, x.r⟩) ∧ (holdE ⟨x.t, x.d + m, x.r⟩ = 0 ∨ holdE ⟨x.t, x.d + m, x.r⟩ = 1) ∧ (holdE ⟨x.t, x.d + m, x.r⟩ = 0 → holdF ⟨x.t, x.d + m, x.r⟩ ≤ holdF x) := by
  obtain ⟨hb, h1, h2, hg⟩ := hold_pos (holdE_zero h)
  obtain ⟨b1, b2, b3⟩ := (tmB_iff x).1 hb
  have hr := (bound_r b3).2.1
  refine ⟨?_, fun h3 => ?_, ?_, fun h3 => ?_⟩
  · rcases holdE_or ⟨x.t + m, x.d, x.r⟩ with ⟨h3, _⟩ | ⟨h3, h4⟩
    · exact .inl h3
    · refine .inr ⟨h3, ?_⟩
      by_cases h5 : x.t + m ≤ 1000000
      · exfalso
        have hb2 : tmB ⟨x.t + m, x.d, x.r⟩ = true := (tmB_iff _).2 ⟨by show 1 ≤ x.t + m; omega, h5, b3⟩
        have hg2 := gdF_is (tm_gd hb2)
        have e : holdF ⟨x.t + m, x.d, x.r⟩ = gdF (x.t + m) x.d x.r := by unfold holdF; rw [if_pos hb2]
        have := Guards.more hr (show (0 : Int) ≤ m by omega) hg hg2
        simp only at this
        omega
      · omega
  · obtain ⟨_, _, _, hg2⟩ := hold_pos (holdE_zero h3)
    exact Guards.more hr (show (0 : Int) ≤ m by omega) hg hg2
  · rcases holdE_or ⟨x.t, x.d + m, x.r⟩ with ⟨h3, _⟩ | ⟨h3, _⟩
    · exact .inl h3
    · exact .inr h3
  · obtain ⟨_, _, _, hg2⟩ := hold_pos (holdE_zero h3)
    exact Guards.wider hr (show (0 : Int) ≤ m by omega) hg hg2
theorem ak_no {x : Tm} {v : Vt} {f e n : Int} (h : ¬ akE x v f n = 0) : akB x v f e n = false ∧ akR x v f e n = v := by
  unfold akB akR
  rw [if_neg h]
  refine ⟨?_, rfl⟩
  have : (akE x v f n == 0) = false := by simpa using h
  rw [this]
  rfl
theorem ak_b {x : Tm} {v : Vt} {f e n : Int} (h : akE x v f n = 0) : akB x v f e n = grB v f e n ∧ akR x v f e n = askV x.t v f e n := by
  unfold akB akR
  rw [h, if_pos rfl]
  exact ⟨rfl, rfl⟩
theorem ak_gives {x : Tm} {v : Vt} {f e n : Int} (hv : 0 ≤ v.e) (h : akE x v f n = 0) : True ∧ (akB x v f e n = false → akR x v f e n = v ∧ ¬ (v.e < e ∧ v.u ≤ n ∧ v.w ≤ n)) ∧
    (akB x v f e n = true → n ≤ 549755813888 → akR x v f e n = ⟨e, f, n + x.t, v.w⟩ ∧ akR x ⟨e, f, n + x.t, v.w⟩ f e (n + 1) = ⟨e, f, n + 1 + x.t, v.w⟩ ∧ akB x ⟨e, f, n + x.t, v.w⟩ f e (n + 1) = true ∧ akE x ⟨e, f, n + x.t, v.w⟩ f (n + 1) = 0 ∧
      (∀ e2, akB x ⟨e, f, n + x.t, v.w⟩ ((f + 1) % 64) e2 (n + x.t - 1) = false) ∧ akE x ⟨e, f, n + x.t, v.w⟩ ((f + 1) % 64) (n + x.t - 1) = 0 ∧ True ∧ (0 ≤ f ∧ f ≤ 63) ∧ 0 ≤ n ∧ (1 ≤ x.t ∧ x.t ≤ 1000000)) := by
  obtain ⟨h1, h2, h3, h4⟩ := ak_zero h
  obtain ⟨k1, k2⟩ := ak_b (e := e) h
  refine ⟨trivial, fun hB => ?_, fun hB hn => ?_⟩
  · rw [k1] at hB
    refine ⟨by rw [k2, askV_no hB], fun ⟨c1, c2, c3⟩ => ?_⟩
    have : grB v f e n = true := (grB_iff _ _ _ _).2 ⟨c3, by omega, by omega, .inr (.inr ⟨c1, c2⟩)⟩
    rw [hB] at this
    cases this
  · rw [k1] at hB
    obtain ⟨hb, _⟩ := hold_pos h1
    obtain ⟨b1, b2, _⟩ := (tmB_iff x).1 hb
    have hf := (node_iff f).1 h3
    have hn0 := (mom_iff n).1 h4
    have hw := ((mayV_iff v).1 h2).2.2.2
    have hm : mayV ⟨e, f, n + x.t, v.w⟩ = true := (mayV_iff _).2 ⟨⟨by show -1 ≤ f; omega, hf.2⟩, by show 0 ≤ n + x.t; omega, by show n + x.t ≤ _; omega, hw.1, hw.2⟩
    have a1 : akE x ⟨e, f, n + x.t, v.w⟩ f (n + 1) = 0 := ak_is h1 hm h3 ((mom_iff _).2 (by omega))
    have c1 : akE x ⟨e, f, n + x.t, v.w⟩ ((f + 1) % 64) (n + x.t - 1) = 0 := ak_is h1 hm ((node_iff _).2 (by omega)) ((mom_iff _).2 (by omega))
    have e1 := askV_yes (T := x.t) hB
    obtain ⟨g1, g2⟩ := askV_again (T := x.t) hB
    rw [e1] at g1 g2
    refine ⟨by rw [k2, e1], by rw [(ak_b a1).2, g2], by rw [(ak_b a1).1, g1], a1, fun e2 => ?_, c1, trivial, hf, hn0.1, b1, b2⟩
    have g3 := askV_other (T := x.t) (y := (f + 1) % 64) (f := e2) hB (by omega) (by omega)
    rw [e1] at g3
    rw [(ak_b c1).1, g3]
theorem ak_same {x : Tm} {v : Vt} {f e n b : Int} (h : akE x v f n = 0) (h1 : n ≤ 549755813888) (h2 : v.u ≤ 549755813888) (h3 : v.w ≤ 549755813888) (hb : 0 ≤ b) (hb2 : b ≤ 65535) :
    akE x (addV b v) f (n + b) = 0 ∧ akB x (addV b v) f e (n + b) = akB x v f e n ∧ akR x (addV b v) f e (n + b) = addV b (akR x v f e n) ∧ (akB x v f e n = false → akR x v f e n = v) ∧ (0 ≤ (akR x v f e n).u ∧ (akR x v f e n).u ≤ 2199023255552) ∧ (0 ≤ (akR x v f e n).w ∧ (akR x v f e n).w ≤ 2199023255552) ∧ (0 ≤ n ∧ 0 ≤ v.u ∧ 0 ≤ v.w) := by
  obtain ⟨q1, q2, q3, q4⟩ := ak_zero h
  have hm := (mayV_iff v).1 q2
  have hn := (mom_iff n).1 q4
  obtain ⟨hb3, _⟩ := hold_pos q1
  obtain ⟨b1, b2, _⟩ := (tmB_iff x).1 hb3
  have a1 : akE x (addV b v) f (n + b) = 0 := ak_is q1 ((mayV_iff _).2 ⟨hm.1, by show 0 ≤ v.u + b; omega, by show v.u + b ≤ _; omega, by show 0 ≤ v.w + b; omega, by show v.w + b ≤ _; omega⟩) q3 ((mom_iff _).2 (by omega))
  obtain ⟨k1, k2⟩ := ak_b (e := e) h
  obtain ⟨k3, k4⟩ := ak_b (e := e) a1
  have hu : (0 ≤ (askV x.t v f e n).u ∧ (askV x.t v f e n).u ≤ 2199023255552) ∧ (0 ≤ (askV x.t v f e n).w ∧ (askV x.t v f e n).w ≤ 2199023255552) := by
    cases hg : grB v f e n with
    | false => rw [askV_no hg]; omega
    | true => rw [askV_yes hg]; simp only; omega
  exact ⟨a1, by rw [k3, k1, grB_later], by rw [k4, k2, askV_later], fun hB => by rw [k1] at hB; rw [k2, askV_no hB], by rw [k2]; exact hu.1, by rw [k2]; exact hu.2, hn.1, hm.2.1, hm.2.2.2.1⟩
end Go.Proofs.Ytlefnohcfnlejaa
