/-
  TurnGone: a node that is gone is asked no more, and one that comes is asked within as many as there are less 1, and as many as there are: the law returns true for every input.
-/
import Derived.Test.YtphcmjhphoacgaaSt
import Derived.Test.YtphcmjhphoacgaaApp
import Derived.Test.YtphcmjhphoacgaaPlanC
namespace Go.Proofs.Ytphcmjhphoacgaa.lawGone
open Go.Sort Go.ChangeShapes Go.WideShapes Go.ChangeAt Go.RowKit Go.Proofs.Ytphcmjhphoacgaa.Pure

def bad (s : ByteArray) (a : Int) (T : List Int) (p : Int) (l : List Int) : Bool := !(decide (l.length ≤ 10) && (decide (2 ≤ l.length) && (nodesB l && (okT T p && okD s a))))
/-- What the law is given, in one block. -/
def Gb (w : World) (g : Nat) (v : Value) (p : Int) (s : ByteArray) (a : Int) (u : Value) (x y : Int) : Prop :=
  w.cell? ⟨g, 0, none⟩ = some v ∧ w.cell? ⟨g, 1, none⟩ = some (.int .i64 p) ∧ w.cell? ⟨g, 2, none⟩ = some (.string s) ∧ w.cell? ⟨g, 3, none⟩ = some (.int .i64 a) ∧ w.cell? ⟨g, 4, none⟩ = some u ∧ w.cell? ⟨g, 5, none⟩ = some (.int .u8 x) ∧ w.cell? ⟨g, 6, none⟩ = some (.int .u8 y)
section
variable {w w' : World} {g : Nat} {v u : Value} {s : ByteArray} {p a x y : Int}
theorem Gb.on (h : Gb w g v p s a u x y) (hb : Below w.heap.size w w') : Gb w' g v p s a u x y :=
  ⟨cell_on h.1 hb, cell_on h.2.1 hb, cell_on h.2.2.1 hb, cell_on h.2.2.2.1 hb, cell_on h.2.2.2.2.1 hb, cell_on h.2.2.2.2.2.1 hb, cell_on h.2.2.2.2.2.2 hb⟩
theorem Gb.set (h : Gb w g v p s a u x y) {q : Addr} (hq : g ≠ q.block) (z : Value) : Gb (w.setCell q z) g v p s a u x y := by
  have k : ∀ (i : Nat) (y : Value), w.cell? ⟨g, i, none⟩ = some y → (w.setCell q z).cell? ⟨g, i, none⟩ = some y := fun i y hy => by
    rw [World.cell?_setCell_other _ _ _ _ (fun e => hq (by rw [e]))]; exact hy
  exact ⟨k _ _ h.1, k _ _ h.2.1, k _ _ h.2.2.1, k _ _ h.2.2.2.1, k _ _ h.2.2.2.2.1, k _ _ h.2.2.2.2.2.1, k _ _ h.2.2.2.2.2.2⟩
theorem Gb.new (w : World) (v u : Value) (p : Int) (s : ByteArray) (a x y : Int) (t : TypeId) : Gb (w.alloc (.cells #[v, .int .i64 p, .string s, .int .i64 a, u, .int .u8 x, .int .u8 y] t)) w.heap.size v p s a u x y :=
  ⟨by go_simp, by go_simp, by go_simp, by go_simp, by go_simp, by go_simp, by go_simp⟩
end
/-- A round further: it was not asked yet. -/
theorem asked_snoc_not {L : List UInt8} {l : List Int} {s : Tn} {k : Nat} {y : Int} (h : y ∉ asked L l s k) (hy : ¬ who L l (run L l k s) = y) : y ∉ asked L l s (k + 1) := by
  rw [asked_succ]
  intro hm
  rcases List.mem_append.1 hm with hm | hm
  · exact h hm
  · simp at hm; exact hy hm.symm
theorem Sv.four {w : World} {gt gd : Nat} {s : ByteArray} {st : Tn} {v : Value} {p a : Int} (h1 : Tb w gt v p) (h2 : Box w gd s a) (hne : gt ≠ gd) (A : Option Addr) (c : Nat) (h3 : Clear w (fun k => k = gt ∨ k = gd ∨ False) A st.T) :
    Sv ((((w.setCell ⟨gt, 0, none⟩ (.slice A st.T.length c)).setCell ⟨gt, 1, none⟩ (.int .i64 (st.p : Nat))).setCell ⟨gd, 0, none⟩ (.string s)).setCell ⟨gd, 1, none⟩ (.int .i64 (st.a : Nat))).drew gt gd s (fun _ => False) st := Sv.put h1 h2 hne A c h3

set_option maxRecDepth 100000 in
set_option maxHeartbeats 4000000 in
theorem walk (A : Option Addr) (c : Nat) (T0 : List Int) (p : Int) (s0 : ByteArray) (a : Int) (A' : Option Addr) (c' : Nat) (l0 : List Int) (gn cm : Nat) (w : World) (htc : T0.length ≤ c) (hcm : c ≤ maxLen) (hT0 : Has w 0 w.heap.size A T0) (hs0 : s0.size ≤ maxLen) (hlc : l0.length ≤ c') (hcm' : c' ≤ maxLen) (hl0 : Has w 0 w.heap.size A' l0) (hgn : gn ≤ 255) (hcn : cm ≤ 255) :
    Calls Try.prog 6 #[.agg #[.slice A T0.length c, .int .i64 p, .string s0, .int .i64 a, .slice A' l0.length c', .int .u8 (gn : Nat), .int .u8 (cm : Nat)]] w fun e w' => e = .returned (.bool true) ∧ Below w.heap.size w w' := by
  have HF := Lib.hid (fun W => few_any s0 a W hs0)
  have HC1 := Lib.hid (fun (W : World) (h : Has W 0 w.heap.size A T0) => fewl_below A c 0 w.heap.size T0 W htc hcm h)
  have HC3 := Lib.hid (fun (W : World) (h : Has W 0 w.heap.size A' l0) => fewl_below A' c' 0 w.heap.size l0 W hlc hcm' h)
  have HTT := Lib.hid hT0
  have HLL := Lib.hid hl0
  have HTX : Hid (Has w 0 w.heap.size A (cutF T0)) := Lib.hid (hT0.take 65)
  have HX0 : Hid (Has w 0 w.heap.size A' (cutF l0)) := Lib.hid (hl0.take 65)
  have hTl := cutF_len T0
  have hxl := cutF_len l0
  have hft := fewB_size s0
  have HGN := Lib.hid hgn
  have HCN := Lib.hid hcn
  generalize fewB s0 = s at *
  generalize hX : cutF l0 = l at *
  generalize hY : cutF T0 = T at *
  clear hT0 hl0 hX hY htc hlc hgn hcn
  go_enter Try.func6, Try.ntmps6
  go_upto_region 1 with (fail)
  have HB0 : Hid (Below w.heap.size w (w.alloc (.cells #[.slice A T0.length c, .int .i64 p, .string s0, .int .i64 a, .slice A' l0.length c', .int .u8 (gn : Nat), .int .u8 (cm : Nat)] 45))) := Lib.hid ((Below.refl _ _).alloc (Nat.le_refl _) _)
  have HQ := Lib.hid (Gb.new w (.slice A T0.length c) (.slice A' l0.length c') p s0 a (gn : Nat) (cm : Nat) 45)
  have hwg : Hid (w.heap.size < (w.alloc (.cells #[.slice A T0.length c, .int .i64 p, .string s0, .int .i64 a, .slice A' l0.length c', .int .u8 (gn : Nat), .int .u8 (cm : Nat)] 45)).heap.size) := Lib.hid (by simp)
  generalize w.alloc (.cells #[.slice A T0.length c, .int .i64 p, .string s0, .int .i64 a, .slice A' l0.length c', .int .u8 (gn : Nat), .int .u8 (cm : Nat)] 45) = w1 at *
  go_cut [3, 4, 5, 6, 7] from 3 to 32 (fun s3 s4 s5 s6 s7 wx => ∃ gx gy, s3 = .pointer (some ⟨gx, 0, none⟩) ∧ s4 = .pointer (some ⟨gy, 0, none⟩) ∧ s5 = .slice A' l.length c' ∧ s6 = .int .u8 (gn : Nat) ∧ s7 = .int .u8 (cm : Nat) ∧ Hid (gx ≠ gy) ∧ Hid (w1.heap.size ≤ gx) ∧ Hid (w1.heap.size ≤ gy) ∧ Hid (Tb wx gx (.slice A T0.length c) p) ∧ Hid (Box wx gy s a) ∧ Hid (Below w1.heap.size w1 wx))
  case first =>
    obtain ⟨q0, q1, q2, q3, q4, q5, q6⟩ := HQ.out
    refine p3_enter (.take 0 (.take 1 (.take 2 (.take 3 (.take 5 (.take 6 (.take 8 (.take 9 (.take 10 (.take 11 (.three 4 (.three 7 (.two 12 (.one 13 (.one 14 (.one 15 (.take 16 (.take 17 (.take 18 .done)))))) 13 (.one 12 (.one 14 (.one 15 (.take 16 (.take 17 (.take 18 .done))))))) 12 (.two 7 (.one 13 (.one 14 (.one 15 (.take 16 (.take 17 (.take 18 .done)))))) 13 (.one 7 (.one 14 (.one 15 (.take 16 (.take 17 (.take 18 .done))))))) 13 (.two 7 (.one 12 (.one 14 (.one 15 (.take 16 (.take 17 (.take 18 .done)))))) 12 (.one 7 (.one 14 (.one 15 (.take 16 (.take 17 (.take 18 .done)))))))) 12 (.two 4 (.two 7 (.one 13 (.one 14 (.one 15 (.take 16 (.take 17 (.take 18 .done)))))) 13 (.one 7 (.one 14 (.one 15 (.take 16 (.take 17 (.take 18 .done))))))) 13 (.one 4 (.one 7 (.one 14 (.one 15 (.take 16 (.take 17 (.take 18 .done)))))))) 13 (.two 4 (.two 7 (.one 12 (.one 14 (.one 15 (.take 16 (.take 17 (.take 18 .done)))))) 12 (.one 7 (.one 14 (.one 15 (.take 16 (.take 17 (.take 18 .done))))))) 12 (.one 4 (.one 7 (.one 14 (.one 15 (.take 16 (.take 17 (.take 18 .done))))))))))))))))))) (fun w' => w'.cell? ⟨w.heap.size, 0, none⟩ = some (.slice A T0.length c) ∧ w'.cell? ⟨w.heap.size, 1, none⟩ = some (.int .i64 p) ∧ w'.cell? ⟨w.heap.size, 2, none⟩ = some (.string s0) ∧ w'.cell? ⟨w.heap.size, 3, none⟩ = some (.int .i64 a) ∧ w'.cell? ⟨w.heap.size, 4, none⟩ = some (.slice A' l0.length c') ∧ w'.cell? ⟨w.heap.size, 5, none⟩ = some (.int .u8 (gn : Nat)) ∧ w'.cell? ⟨w.heap.size, 6, none⟩ = some (.int .u8 (cm : Nat))) (by kernel_rfl) (by kernel_rfl) (by kernel_rfl) (fun _ _ d _ _ h => by cases d <;> exact h) ⟨q0, q1, q2, q3, q4, q5, q6⟩ ?_
    simp only [pick3, opAt, List.drop_succ_cons, List.drop_zero]
    have hB_0 := Lib.hid ((Below.refl w1.heap.size w1).drew)
    have hS_0 : Hid (Gb w1.drew w.heap.size (.slice A T0.length c) p s0 a (.slice A' l0.length c') (gn : Nat) (cm : Nat)) := Lib.hid (HQ.out.on (Below.refl w1.heap.size w1).drew)
    have hz_0 : w1.heap.size ≤ w1.drew.heap.size := hB_0.out.size
    generalize w1.drew = wd at *
    clear q0 q1 q2 q3 q4 q5 q6
    iterate 10 (first | (refine' p3_yes ?_ (by rfl) ?_ ?_; rotate_left; (intro w' hS; (try dsimp only at hS); go_simp; try (with_reducible rfl)); simp only [Act.put, List.setIfInBounds_toArray, List.set_cons_zero, List.set_cons_succ]) | (refine p3_no (by rfl) ?_; simp only [Act.put, List.setIfInBounds_toArray, List.set_cons_zero, List.set_cons_succ]))
    refine p3_three ?_ ?_ ?_
    · intro KK hK
      go_simp
      refine (HF.out _).mono ?_
      rintro e wc1 ⟨rfl, hbx⟩
      have hB_1 := Lib.hid (hB_0.out.trans (hbx.mono hz_0))
      have hS_1 : Hid (Gb wc1 w.heap.size (.slice A T0.length c) p s0 a (.slice A' l0.length c') (gn : Nat) (cm : Nat)) := Lib.hid (hS_0.out.on hbx)
      have hz_1 : w1.heap.size ≤ wc1.heap.size := hB_1.out.size
      clear hbx hB_0 hS_0
      refine hK.out _ _ hS_1.out ?_
      clear hK
      refine p3_three ?_ ?_ ?_
      · intro KK hK
        go_simp
        refine (HC3.out _ ((HLL.out.on HB0.out (Nat.le_refl _)).on hB_1.out HB0.out.size)).mono ?_
        rintro e wc2 ⟨rfl, hbx⟩
        have hB_2 := Lib.hid (hB_1.out.trans (hbx.mono hz_1))
        have hS_2 : Hid (Gb wc2 w.heap.size (.slice A T0.length c) p s0 a (.slice A' l0.length c') (gn : Nat) (cm : Nat)) := Lib.hid (hS_1.out.on hbx)
        have hz_2 : w1.heap.size ≤ wc2.heap.size := hB_2.out.size
        clear hbx hB_1 hS_1
        refine hK.out _ _ hS_2.out ?_
        clear hK
        refine p3_two ?_ ?_
        · intro KK hK
          go_simp
          have hbx : Below wc2.heap.size wc2 (wc2.alloc (.cells #[.slice none 0 0, .int .i64 0] 24)) := (Below.refl _ _).alloc (Nat.le_refl _) _
          have hB_3 := Lib.hid (hB_2.out.trans (hbx.mono hz_2))
          have hS_3 : Hid (Gb (wc2.alloc (.cells #[.slice none 0 0, .int .i64 0] 24)) w.heap.size (.slice A T0.length c) p s0 a (.slice A' l0.length c') (gn : Nat) (cm : Nat)) := Lib.hid (hS_2.out.on hbx)
          have hz_3 : w1.heap.size ≤ (wc2.alloc (.cells #[.slice none 0 0, .int .i64 0] 24)).heap.size := hB_3.out.size
          have hx_3 := Lib.hid (Tb.new wc2 (.slice none 0 0) 0 24)
          have hgwx : w1.heap.size ≤ wc2.heap.size := hz_2
          clear hB_2 hS_2
          generalize wc2.alloc (.cells #[.slice none 0 0, .int .i64 0] 24) = wc3 at *
          generalize wc2.heap.size = gx at *
          clear hbx
          refine hK.out _ _ hS_3.out ?_
          clear hK
          refine p3_one ?_
          intro KK hK
          go_simp
          have hbx : Below wc3.heap.size wc3 (wc3.alloc (.cells #[.string ⟨#[]⟩, .int .i64 0] 26)) := (Below.refl _ _).alloc (Nat.le_refl _) _
          have hB_4 := Lib.hid (hB_3.out.trans (hbx.mono hz_3))
          have hS_4 : Hid (Gb (wc3.alloc (.cells #[.string ⟨#[]⟩, .int .i64 0] 26)) w.heap.size (.slice A T0.length c) p s0 a (.slice A' l0.length c') (gn : Nat) (cm : Nat)) := Lib.hid (hS_3.out.on hbx)
          have hz_4 : w1.heap.size ≤ (wc3.alloc (.cells #[.string ⟨#[]⟩, .int .i64 0] 26)).heap.size := hB_4.out.size
          have hx_4 := Lib.hid (hx_3.out.on hbx)
          have hy_4 := Lib.hid (Box.new wc3 ⟨#[]⟩ 0 26)
          have hne : Hid (wc3.heap.size ≠ gx) := Lib.hid (by have := hx_3.out.lt; omega)
          have hgwy : w1.heap.size ≤ wc3.heap.size := hz_3
          clear hB_3 hS_3 hx_3
          generalize wc3.alloc (.cells #[.string ⟨#[]⟩, .int .i64 0] 26) = wc4 at *
          generalize wc3.heap.size = gy at *
          clear hbx
          refine hK.out _ _ hS_4.out ?_
          clear hK
          refine p3_one ?_
          intro KK hK
          obtain ⟨u0, u1, uf0, uf1⟩ := hx_4.out
          go_simp
          have hwg' := hwg.out
          have hx2 := Lib.hid (hx_4.out.put (.slice A T0.length c) p)
          have hne' : gx ≠ gy := by have := hne.out; omega
          have hy2 := Lib.hid ((hy_4.out.far (p := ⟨gx, 0, none⟩) hne'.symm (.slice A T0.length c)).far (p := ⟨gx, 1, none⟩) hne'.symm (.int .i64 p))
          have hB2 := Lib.hid ((hB_4.out.setCell (p := ⟨gx, 0, none⟩) hgwx (.slice A T0.length c)).setCell (p := ⟨gx, 1, none⟩) hgwx (.int .i64 p))
          have hS2 := Lib.hid ((hS_4.out.set (q := ⟨gx, 0, none⟩) (by show w.heap.size ≠ gx; omega) (.slice A T0.length c)).set (q := ⟨gx, 1, none⟩) (by show w.heap.size ≠ gx; omega) (.int .i64 p))
          refine hK.out _ _ hS2.out ?_
          clear hK u0 u1 uf0 uf1
          refine p3_one ?_
          intro KK hK
          obtain ⟨u0, u1, uf0, uf1⟩ := hy2.out
          go_simp
          have hx3 := Lib.hid ((hx2.out.far (a := ⟨gy, 0, none⟩) hne' (.string s)).far (a := ⟨gy, 1, none⟩) hne' (.int .i64 a))
          have hy3 := Lib.hid (hy2.out.put s a)
          have hB3 := Lib.hid ((hB2.out.setCell (p := ⟨gy, 0, none⟩) hgwy (.string s)).setCell (p := ⟨gy, 1, none⟩) hgwy (.int .i64 a))
          have hS3 := Lib.hid ((hS2.out.set (q := ⟨gy, 0, none⟩) (by show w.heap.size ≠ gy; omega) (.string s)).set (q := ⟨gy, 1, none⟩) (by show w.heap.size ≠ gy; omega) (.int .i64 a))
          refine hK.out _ _ hS3.out ?_
          clear hK
          iterate 3 (first | (refine' p3_yes ?_ (by rfl) ?_ ?_; rotate_left; (intro w' hS; (try dsimp only at hS); go_simp; try (with_reducible rfl)); simp only [Act.put, List.setIfInBounds_toArray, List.set_cons_zero, List.set_cons_succ]) | (refine p3_no (by rfl) ?_; simp only [Act.put, List.setIfInBounds_toArray, List.set_cons_zero, List.set_cons_succ]))
          refine p3_done ?_
          go_wp2_with fail
          go_meet
          exact ⟨gx, gy, rfl, rfl, rfl, rfl, rfl, Lib.hid hne', Lib.hid hgwx, Lib.hid hgwy, hx3, hy3, hB3⟩
        · intro KK hK
          go_simp
          have hbx : Below wc2.heap.size wc2 (wc2.alloc (.cells #[.string ⟨#[]⟩, .int .i64 0] 26)) := (Below.refl _ _).alloc (Nat.le_refl _) _
          have hB_3 := Lib.hid (hB_2.out.trans (hbx.mono hz_2))
          have hS_3 : Hid (Gb (wc2.alloc (.cells #[.string ⟨#[]⟩, .int .i64 0] 26)) w.heap.size (.slice A T0.length c) p s0 a (.slice A' l0.length c') (gn : Nat) (cm : Nat)) := Lib.hid (hS_2.out.on hbx)
          have hz_3 : w1.heap.size ≤ (wc2.alloc (.cells #[.string ⟨#[]⟩, .int .i64 0] 26)).heap.size := hB_3.out.size
          have hy_3 := Lib.hid (Box.new wc2 ⟨#[]⟩ 0 26)
          have hgwy : w1.heap.size ≤ wc2.heap.size := hz_2
          clear hB_2 hS_2
          generalize wc2.alloc (.cells #[.string ⟨#[]⟩, .int .i64 0] 26) = wc3 at *
          generalize wc2.heap.size = gy at *
          clear hbx
          refine hK.out _ _ hS_3.out ?_
          clear hK
          refine p3_one ?_
          intro KK hK
          go_simp
          have hbx : Below wc3.heap.size wc3 (wc3.alloc (.cells #[.slice none 0 0, .int .i64 0] 24)) := (Below.refl _ _).alloc (Nat.le_refl _) _
          have hB_4 := Lib.hid (hB_3.out.trans (hbx.mono hz_3))
          have hS_4 : Hid (Gb (wc3.alloc (.cells #[.slice none 0 0, .int .i64 0] 24)) w.heap.size (.slice A T0.length c) p s0 a (.slice A' l0.length c') (gn : Nat) (cm : Nat)) := Lib.hid (hS_3.out.on hbx)
          have hz_4 : w1.heap.size ≤ (wc3.alloc (.cells #[.slice none 0 0, .int .i64 0] 24)).heap.size := hB_4.out.size
          have hy_4 := Lib.hid (hy_3.out.on hbx)
          have hx_4 := Lib.hid (Tb.new wc3 (.slice none 0 0) 0 24)
          have hne : Hid (wc3.heap.size ≠ gy) := Lib.hid (by have := hy_3.out.lt; omega)
          have hgwx : w1.heap.size ≤ wc3.heap.size := hz_3
          clear hB_3 hS_3 hy_3
          generalize wc3.alloc (.cells #[.slice none 0 0, .int .i64 0] 24) = wc4 at *
          generalize wc3.heap.size = gx at *
          clear hbx
          refine hK.out _ _ hS_4.out ?_
          clear hK
          refine p3_one ?_
          intro KK hK
          obtain ⟨u0, u1, uf0, uf1⟩ := hx_4.out
          go_simp
          have hwg' := hwg.out
          have hx2 := Lib.hid (hx_4.out.put (.slice A T0.length c) p)
          have hne' : gx ≠ gy := by have := hne.out; omega
          have hy2 := Lib.hid ((hy_4.out.far (p := ⟨gx, 0, none⟩) hne'.symm (.slice A T0.length c)).far (p := ⟨gx, 1, none⟩) hne'.symm (.int .i64 p))
          have hB2 := Lib.hid ((hB_4.out.setCell (p := ⟨gx, 0, none⟩) hgwx (.slice A T0.length c)).setCell (p := ⟨gx, 1, none⟩) hgwx (.int .i64 p))
          have hS2 := Lib.hid ((hS_4.out.set (q := ⟨gx, 0, none⟩) (by show w.heap.size ≠ gx; omega) (.slice A T0.length c)).set (q := ⟨gx, 1, none⟩) (by show w.heap.size ≠ gx; omega) (.int .i64 p))
          refine hK.out _ _ hS2.out ?_
          clear hK u0 u1 uf0 uf1
          refine p3_one ?_
          intro KK hK
          obtain ⟨u0, u1, uf0, uf1⟩ := hy2.out
          go_simp
          have hx3 := Lib.hid ((hx2.out.far (a := ⟨gy, 0, none⟩) hne' (.string s)).far (a := ⟨gy, 1, none⟩) hne' (.int .i64 a))
          have hy3 := Lib.hid (hy2.out.put s a)
          have hB3 := Lib.hid ((hB2.out.setCell (p := ⟨gy, 0, none⟩) hgwy (.string s)).setCell (p := ⟨gy, 1, none⟩) hgwy (.int .i64 a))
          have hS3 := Lib.hid ((hS2.out.set (q := ⟨gy, 0, none⟩) (by show w.heap.size ≠ gy; omega) (.string s)).set (q := ⟨gy, 1, none⟩) (by show w.heap.size ≠ gy; omega) (.int .i64 a))
          refine hK.out _ _ hS3.out ?_
          clear hK
          iterate 3 (first | (refine' p3_yes ?_ (by rfl) ?_ ?_; rotate_left; (intro w' hS; (try dsimp only at hS); go_simp; try (with_reducible rfl)); simp only [Act.put, List.setIfInBounds_toArray, List.set_cons_zero, List.set_cons_succ]) | (refine p3_no (by rfl) ?_; simp only [Act.put, List.setIfInBounds_toArray, List.set_cons_zero, List.set_cons_succ]))
          refine p3_done ?_
          go_wp2_with fail
          go_meet
          exact ⟨gx, gy, rfl, rfl, rfl, rfl, rfl, Lib.hid hne', Lib.hid hgwx, Lib.hid hgwy, hx3, hy3, hB3⟩
      · intro KK hK
        go_simp
        have hbx : Below wc1.heap.size wc1 (wc1.alloc (.cells #[.slice none 0 0, .int .i64 0] 24)) := (Below.refl _ _).alloc (Nat.le_refl _) _
        have hB_2 := Lib.hid (hB_1.out.trans (hbx.mono hz_1))
        have hS_2 : Hid (Gb (wc1.alloc (.cells #[.slice none 0 0, .int .i64 0] 24)) w.heap.size (.slice A T0.length c) p s0 a (.slice A' l0.length c') (gn : Nat) (cm : Nat)) := Lib.hid (hS_1.out.on hbx)
        have hz_2 : w1.heap.size ≤ (wc1.alloc (.cells #[.slice none 0 0, .int .i64 0] 24)).heap.size := hB_2.out.size
        have hx_2 := Lib.hid (Tb.new wc1 (.slice none 0 0) 0 24)
        have hgwx : w1.heap.size ≤ wc1.heap.size := hz_1
        clear hB_1 hS_1
        generalize wc1.alloc (.cells #[.slice none 0 0, .int .i64 0] 24) = wc2 at *
        generalize wc1.heap.size = gx at *
        clear hbx
        refine hK.out _ _ hS_2.out ?_
        clear hK
        refine p3_two ?_ ?_
        · intro KK hK
          go_simp
          refine (HC3.out _ ((HLL.out.on HB0.out (Nat.le_refl _)).on hB_2.out HB0.out.size)).mono ?_
          rintro e wc3 ⟨rfl, hbx⟩
          have hB_3 := Lib.hid (hB_2.out.trans (hbx.mono hz_2))
          have hS_3 : Hid (Gb wc3 w.heap.size (.slice A T0.length c) p s0 a (.slice A' l0.length c') (gn : Nat) (cm : Nat)) := Lib.hid (hS_2.out.on hbx)
          have hz_3 : w1.heap.size ≤ wc3.heap.size := hB_3.out.size
          have hx_3 := Lib.hid (hx_2.out.on hbx)
          clear hbx hB_2 hS_2 hx_2
          refine hK.out _ _ hS_3.out ?_
          clear hK
          refine p3_one ?_
          intro KK hK
          go_simp
          have hbx : Below wc3.heap.size wc3 (wc3.alloc (.cells #[.string ⟨#[]⟩, .int .i64 0] 26)) := (Below.refl _ _).alloc (Nat.le_refl _) _
          have hB_4 := Lib.hid (hB_3.out.trans (hbx.mono hz_3))
          have hS_4 : Hid (Gb (wc3.alloc (.cells #[.string ⟨#[]⟩, .int .i64 0] 26)) w.heap.size (.slice A T0.length c) p s0 a (.slice A' l0.length c') (gn : Nat) (cm : Nat)) := Lib.hid (hS_3.out.on hbx)
          have hz_4 : w1.heap.size ≤ (wc3.alloc (.cells #[.string ⟨#[]⟩, .int .i64 0] 26)).heap.size := hB_4.out.size
          have hx_4 := Lib.hid (hx_3.out.on hbx)
          have hy_4 := Lib.hid (Box.new wc3 ⟨#[]⟩ 0 26)
          have hne : Hid (wc3.heap.size ≠ gx) := Lib.hid (by have := hx_3.out.lt; omega)
          have hgwy : w1.heap.size ≤ wc3.heap.size := hz_3
          clear hB_3 hS_3 hx_3
          generalize wc3.alloc (.cells #[.string ⟨#[]⟩, .int .i64 0] 26) = wc4 at *
          generalize wc3.heap.size = gy at *
          clear hbx
          refine hK.out _ _ hS_4.out ?_
          clear hK
          refine p3_one ?_
          intro KK hK
          obtain ⟨u0, u1, uf0, uf1⟩ := hx_4.out
          go_simp
          have hwg' := hwg.out
          have hx2 := Lib.hid (hx_4.out.put (.slice A T0.length c) p)
          have hne' : gx ≠ gy := by have := hne.out; omega
          have hy2 := Lib.hid ((hy_4.out.far (p := ⟨gx, 0, none⟩) hne'.symm (.slice A T0.length c)).far (p := ⟨gx, 1, none⟩) hne'.symm (.int .i64 p))
          have hB2 := Lib.hid ((hB_4.out.setCell (p := ⟨gx, 0, none⟩) hgwx (.slice A T0.length c)).setCell (p := ⟨gx, 1, none⟩) hgwx (.int .i64 p))
          have hS2 := Lib.hid ((hS_4.out.set (q := ⟨gx, 0, none⟩) (by show w.heap.size ≠ gx; omega) (.slice A T0.length c)).set (q := ⟨gx, 1, none⟩) (by show w.heap.size ≠ gx; omega) (.int .i64 p))
          refine hK.out _ _ hS2.out ?_
          clear hK u0 u1 uf0 uf1
          refine p3_one ?_
          intro KK hK
          obtain ⟨u0, u1, uf0, uf1⟩ := hy2.out
          go_simp
          have hx3 := Lib.hid ((hx2.out.far (a := ⟨gy, 0, none⟩) hne' (.string s)).far (a := ⟨gy, 1, none⟩) hne' (.int .i64 a))
          have hy3 := Lib.hid (hy2.out.put s a)
          have hB3 := Lib.hid ((hB2.out.setCell (p := ⟨gy, 0, none⟩) hgwy (.string s)).setCell (p := ⟨gy, 1, none⟩) hgwy (.int .i64 a))
          have hS3 := Lib.hid ((hS2.out.set (q := ⟨gy, 0, none⟩) (by show w.heap.size ≠ gy; omega) (.string s)).set (q := ⟨gy, 1, none⟩) (by show w.heap.size ≠ gy; omega) (.int .i64 a))
          refine hK.out _ _ hS3.out ?_
          clear hK
          iterate 3 (first | (refine' p3_yes ?_ (by rfl) ?_ ?_; rotate_left; (intro w' hS; (try dsimp only at hS); go_simp; try (with_reducible rfl)); simp only [Act.put, List.setIfInBounds_toArray, List.set_cons_zero, List.set_cons_succ]) | (refine p3_no (by rfl) ?_; simp only [Act.put, List.setIfInBounds_toArray, List.set_cons_zero, List.set_cons_succ]))
          refine p3_done ?_
          go_wp2_with fail
          go_meet
          exact ⟨gx, gy, rfl, rfl, rfl, rfl, rfl, Lib.hid hne', Lib.hid hgwx, Lib.hid hgwy, hx3, hy3, hB3⟩
        · intro KK hK
          go_simp
          have hbx : Below wc2.heap.size wc2 (wc2.alloc (.cells #[.string ⟨#[]⟩, .int .i64 0] 26)) := (Below.refl _ _).alloc (Nat.le_refl _) _
          have hB_3 := Lib.hid (hB_2.out.trans (hbx.mono hz_2))
          have hS_3 : Hid (Gb (wc2.alloc (.cells #[.string ⟨#[]⟩, .int .i64 0] 26)) w.heap.size (.slice A T0.length c) p s0 a (.slice A' l0.length c') (gn : Nat) (cm : Nat)) := Lib.hid (hS_2.out.on hbx)
          have hz_3 : w1.heap.size ≤ (wc2.alloc (.cells #[.string ⟨#[]⟩, .int .i64 0] 26)).heap.size := hB_3.out.size
          have hx_3 := Lib.hid (hx_2.out.on hbx)
          have hy_3 := Lib.hid (Box.new wc2 ⟨#[]⟩ 0 26)
          have hne : Hid (wc2.heap.size ≠ gx) := Lib.hid (by have := hx_2.out.lt; omega)
          have hgwy : w1.heap.size ≤ wc2.heap.size := hz_2
          clear hB_2 hS_2 hx_2
          generalize wc2.alloc (.cells #[.string ⟨#[]⟩, .int .i64 0] 26) = wc3 at *
          generalize wc2.heap.size = gy at *
          clear hbx
          refine hK.out _ _ hS_3.out ?_
          clear hK
          refine p3_one ?_
          intro KK hK
          go_simp
          refine (HC3.out _ ((HLL.out.on HB0.out (Nat.le_refl _)).on hB_3.out HB0.out.size)).mono ?_
          rintro e wc4 ⟨rfl, hbx⟩
          have hB_4 := Lib.hid (hB_3.out.trans (hbx.mono hz_3))
          have hS_4 : Hid (Gb wc4 w.heap.size (.slice A T0.length c) p s0 a (.slice A' l0.length c') (gn : Nat) (cm : Nat)) := Lib.hid (hS_3.out.on hbx)
          have hz_4 : w1.heap.size ≤ wc4.heap.size := hB_4.out.size
          have hx_4 := Lib.hid (hx_3.out.on hbx)
          have hy_4 := Lib.hid (hy_3.out.on hbx)
          clear hbx hB_3 hS_3 hx_3 hy_3
          refine hK.out _ _ hS_4.out ?_
          clear hK
          refine p3_one ?_
          intro KK hK
          obtain ⟨u0, u1, uf0, uf1⟩ := hx_4.out
          go_simp
          have hwg' := hwg.out
          have hx2 := Lib.hid (hx_4.out.put (.slice A T0.length c) p)
          have hne' : gx ≠ gy := by have := hne.out; omega
          have hy2 := Lib.hid ((hy_4.out.far (p := ⟨gx, 0, none⟩) hne'.symm (.slice A T0.length c)).far (p := ⟨gx, 1, none⟩) hne'.symm (.int .i64 p))
          have hB2 := Lib.hid ((hB_4.out.setCell (p := ⟨gx, 0, none⟩) hgwx (.slice A T0.length c)).setCell (p := ⟨gx, 1, none⟩) hgwx (.int .i64 p))
          have hS2 := Lib.hid ((hS_4.out.set (q := ⟨gx, 0, none⟩) (by show w.heap.size ≠ gx; omega) (.slice A T0.length c)).set (q := ⟨gx, 1, none⟩) (by show w.heap.size ≠ gx; omega) (.int .i64 p))
          refine hK.out _ _ hS2.out ?_
          clear hK u0 u1 uf0 uf1
          refine p3_one ?_
          intro KK hK
          obtain ⟨u0, u1, uf0, uf1⟩ := hy2.out
          go_simp
          have hx3 := Lib.hid ((hx2.out.far (a := ⟨gy, 0, none⟩) hne' (.string s)).far (a := ⟨gy, 1, none⟩) hne' (.int .i64 a))
          have hy3 := Lib.hid (hy2.out.put s a)
          have hB3 := Lib.hid ((hB2.out.setCell (p := ⟨gy, 0, none⟩) hgwy (.string s)).setCell (p := ⟨gy, 1, none⟩) hgwy (.int .i64 a))
          have hS3 := Lib.hid ((hS2.out.set (q := ⟨gy, 0, none⟩) (by show w.heap.size ≠ gy; omega) (.string s)).set (q := ⟨gy, 1, none⟩) (by show w.heap.size ≠ gy; omega) (.int .i64 a))
          refine hK.out _ _ hS3.out ?_
          clear hK
          iterate 3 (first | (refine' p3_yes ?_ (by rfl) ?_ ?_; rotate_left; (intro w' hS; (try dsimp only at hS); go_simp; try (with_reducible rfl)); simp only [Act.put, List.setIfInBounds_toArray, List.set_cons_zero, List.set_cons_succ]) | (refine p3_no (by rfl) ?_; simp only [Act.put, List.setIfInBounds_toArray, List.set_cons_zero, List.set_cons_succ]))
          refine p3_done ?_
          go_wp2_with fail
          go_meet
          exact ⟨gx, gy, rfl, rfl, rfl, rfl, rfl, Lib.hid hne', Lib.hid hgwx, Lib.hid hgwy, hx3, hy3, hB3⟩
      · intro KK hK
        go_simp
        have hbx : Below wc1.heap.size wc1 (wc1.alloc (.cells #[.string ⟨#[]⟩, .int .i64 0] 26)) := (Below.refl _ _).alloc (Nat.le_refl _) _
        have hB_2 := Lib.hid (hB_1.out.trans (hbx.mono hz_1))
        have hS_2 : Hid (Gb (wc1.alloc (.cells #[.string ⟨#[]⟩, .int .i64 0] 26)) w.heap.size (.slice A T0.length c) p s0 a (.slice A' l0.length c') (gn : Nat) (cm : Nat)) := Lib.hid (hS_1.out.on hbx)
        have hz_2 : w1.heap.size ≤ (wc1.alloc (.cells #[.string ⟨#[]⟩, .int .i64 0] 26)).heap.size := hB_2.out.size
        have hy_2 := Lib.hid (Box.new wc1 ⟨#[]⟩ 0 26)
        have hgwy : w1.heap.size ≤ wc1.heap.size := hz_1
        clear hB_1 hS_1
        generalize wc1.alloc (.cells #[.string ⟨#[]⟩, .int .i64 0] 26) = wc2 at *
        generalize wc1.heap.size = gy at *
        clear hbx
        refine hK.out _ _ hS_2.out ?_
        clear hK
        refine p3_two ?_ ?_
        · intro KK hK
          go_simp
          refine (HC3.out _ ((HLL.out.on HB0.out (Nat.le_refl _)).on hB_2.out HB0.out.size)).mono ?_
          rintro e wc3 ⟨rfl, hbx⟩
          have hB_3 := Lib.hid (hB_2.out.trans (hbx.mono hz_2))
          have hS_3 : Hid (Gb wc3 w.heap.size (.slice A T0.length c) p s0 a (.slice A' l0.length c') (gn : Nat) (cm : Nat)) := Lib.hid (hS_2.out.on hbx)
          have hz_3 : w1.heap.size ≤ wc3.heap.size := hB_3.out.size
          have hy_3 := Lib.hid (hy_2.out.on hbx)
          clear hbx hB_2 hS_2 hy_2
          refine hK.out _ _ hS_3.out ?_
          clear hK
          refine p3_one ?_
          intro KK hK
          go_simp
          have hbx : Below wc3.heap.size wc3 (wc3.alloc (.cells #[.slice none 0 0, .int .i64 0] 24)) := (Below.refl _ _).alloc (Nat.le_refl _) _
          have hB_4 := Lib.hid (hB_3.out.trans (hbx.mono hz_3))
          have hS_4 : Hid (Gb (wc3.alloc (.cells #[.slice none 0 0, .int .i64 0] 24)) w.heap.size (.slice A T0.length c) p s0 a (.slice A' l0.length c') (gn : Nat) (cm : Nat)) := Lib.hid (hS_3.out.on hbx)
          have hz_4 : w1.heap.size ≤ (wc3.alloc (.cells #[.slice none 0 0, .int .i64 0] 24)).heap.size := hB_4.out.size
          have hy_4 := Lib.hid (hy_3.out.on hbx)
          have hx_4 := Lib.hid (Tb.new wc3 (.slice none 0 0) 0 24)
          have hne : Hid (wc3.heap.size ≠ gy) := Lib.hid (by have := hy_3.out.lt; omega)
          have hgwx : w1.heap.size ≤ wc3.heap.size := hz_3
          clear hB_3 hS_3 hy_3
          generalize wc3.alloc (.cells #[.slice none 0 0, .int .i64 0] 24) = wc4 at *
          generalize wc3.heap.size = gx at *
          clear hbx
          refine hK.out _ _ hS_4.out ?_
          clear hK
          refine p3_one ?_
          intro KK hK
          obtain ⟨u0, u1, uf0, uf1⟩ := hx_4.out
          go_simp
          have hwg' := hwg.out
          have hx2 := Lib.hid (hx_4.out.put (.slice A T0.length c) p)
          have hne' : gx ≠ gy := by have := hne.out; omega
          have hy2 := Lib.hid ((hy_4.out.far (p := ⟨gx, 0, none⟩) hne'.symm (.slice A T0.length c)).far (p := ⟨gx, 1, none⟩) hne'.symm (.int .i64 p))
          have hB2 := Lib.hid ((hB_4.out.setCell (p := ⟨gx, 0, none⟩) hgwx (.slice A T0.length c)).setCell (p := ⟨gx, 1, none⟩) hgwx (.int .i64 p))
          have hS2 := Lib.hid ((hS_4.out.set (q := ⟨gx, 0, none⟩) (by show w.heap.size ≠ gx; omega) (.slice A T0.length c)).set (q := ⟨gx, 1, none⟩) (by show w.heap.size ≠ gx; omega) (.int .i64 p))
          refine hK.out _ _ hS2.out ?_
          clear hK u0 u1 uf0 uf1
          refine p3_one ?_
          intro KK hK
          obtain ⟨u0, u1, uf0, uf1⟩ := hy2.out
          go_simp
          have hx3 := Lib.hid ((hx2.out.far (a := ⟨gy, 0, none⟩) hne' (.string s)).far (a := ⟨gy, 1, none⟩) hne' (.int .i64 a))
          have hy3 := Lib.hid (hy2.out.put s a)
          have hB3 := Lib.hid ((hB2.out.setCell (p := ⟨gy, 0, none⟩) hgwy (.string s)).setCell (p := ⟨gy, 1, none⟩) hgwy (.int .i64 a))
          have hS3 := Lib.hid ((hS2.out.set (q := ⟨gy, 0, none⟩) (by show w.heap.size ≠ gy; omega) (.string s)).set (q := ⟨gy, 1, none⟩) (by show w.heap.size ≠ gy; omega) (.int .i64 a))
          refine hK.out _ _ hS3.out ?_
          clear hK
          iterate 3 (first | (refine' p3_yes ?_ (by rfl) ?_ ?_; rotate_left; (intro w' hS; (try dsimp only at hS); go_simp; try (with_reducible rfl)); simp only [Act.put, List.setIfInBounds_toArray, List.set_cons_zero, List.set_cons_succ]) | (refine p3_no (by rfl) ?_; simp only [Act.put, List.setIfInBounds_toArray, List.set_cons_zero, List.set_cons_succ]))
          refine p3_done ?_
          go_wp2_with fail
          go_meet
          exact ⟨gx, gy, rfl, rfl, rfl, rfl, rfl, Lib.hid hne', Lib.hid hgwx, Lib.hid hgwy, hx3, hy3, hB3⟩
        · intro KK hK
          go_simp
          have hbx : Below wc2.heap.size wc2 (wc2.alloc (.cells #[.slice none 0 0, .int .i64 0] 24)) := (Below.refl _ _).alloc (Nat.le_refl _) _
          have hB_3 := Lib.hid (hB_2.out.trans (hbx.mono hz_2))
          have hS_3 : Hid (Gb (wc2.alloc (.cells #[.slice none 0 0, .int .i64 0] 24)) w.heap.size (.slice A T0.length c) p s0 a (.slice A' l0.length c') (gn : Nat) (cm : Nat)) := Lib.hid (hS_2.out.on hbx)
          have hz_3 : w1.heap.size ≤ (wc2.alloc (.cells #[.slice none 0 0, .int .i64 0] 24)).heap.size := hB_3.out.size
          have hy_3 := Lib.hid (hy_2.out.on hbx)
          have hx_3 := Lib.hid (Tb.new wc2 (.slice none 0 0) 0 24)
          have hne : Hid (wc2.heap.size ≠ gy) := Lib.hid (by have := hy_2.out.lt; omega)
          have hgwx : w1.heap.size ≤ wc2.heap.size := hz_2
          clear hB_2 hS_2 hy_2
          generalize wc2.alloc (.cells #[.slice none 0 0, .int .i64 0] 24) = wc3 at *
          generalize wc2.heap.size = gx at *
          clear hbx
          refine hK.out _ _ hS_3.out ?_
          clear hK
          refine p3_one ?_
          intro KK hK
          go_simp
          refine (HC3.out _ ((HLL.out.on HB0.out (Nat.le_refl _)).on hB_3.out HB0.out.size)).mono ?_
          rintro e wc4 ⟨rfl, hbx⟩
          have hB_4 := Lib.hid (hB_3.out.trans (hbx.mono hz_3))
          have hS_4 : Hid (Gb wc4 w.heap.size (.slice A T0.length c) p s0 a (.slice A' l0.length c') (gn : Nat) (cm : Nat)) := Lib.hid (hS_3.out.on hbx)
          have hz_4 : w1.heap.size ≤ wc4.heap.size := hB_4.out.size
          have hx_4 := Lib.hid (hx_3.out.on hbx)
          have hy_4 := Lib.hid (hy_3.out.on hbx)
          clear hbx hB_3 hS_3 hx_3 hy_3
          refine hK.out _ _ hS_4.out ?_
          clear hK
          refine p3_one ?_
          intro KK hK
          obtain ⟨u0, u1, uf0, uf1⟩ := hx_4.out
          go_simp
          have hwg' := hwg.out
          have hx2 := Lib.hid (hx_4.out.put (.slice A T0.length c) p)
          have hne' : gx ≠ gy := by have := hne.out; omega
          have hy2 := Lib.hid ((hy_4.out.far (p := ⟨gx, 0, none⟩) hne'.symm (.slice A T0.length c)).far (p := ⟨gx, 1, none⟩) hne'.symm (.int .i64 p))
          have hB2 := Lib.hid ((hB_4.out.setCell (p := ⟨gx, 0, none⟩) hgwx (.slice A T0.length c)).setCell (p := ⟨gx, 1, none⟩) hgwx (.int .i64 p))
          have hS2 := Lib.hid ((hS_4.out.set (q := ⟨gx, 0, none⟩) (by show w.heap.size ≠ gx; omega) (.slice A T0.length c)).set (q := ⟨gx, 1, none⟩) (by show w.heap.size ≠ gx; omega) (.int .i64 p))
          refine hK.out _ _ hS2.out ?_
          clear hK u0 u1 uf0 uf1
          refine p3_one ?_
          intro KK hK
          obtain ⟨u0, u1, uf0, uf1⟩ := hy2.out
          go_simp
          have hx3 := Lib.hid ((hx2.out.far (a := ⟨gy, 0, none⟩) hne' (.string s)).far (a := ⟨gy, 1, none⟩) hne' (.int .i64 a))
          have hy3 := Lib.hid (hy2.out.put s a)
          have hB3 := Lib.hid ((hB2.out.setCell (p := ⟨gy, 0, none⟩) hgwy (.string s)).setCell (p := ⟨gy, 1, none⟩) hgwy (.int .i64 a))
          have hS3 := Lib.hid ((hS2.out.set (q := ⟨gy, 0, none⟩) (by show w.heap.size ≠ gy; omega) (.string s)).set (q := ⟨gy, 1, none⟩) (by show w.heap.size ≠ gy; omega) (.int .i64 a))
          refine hK.out _ _ hS3.out ?_
          clear hK
          iterate 3 (first | (refine' p3_yes ?_ (by rfl) ?_ ?_; rotate_left; (intro w' hS; (try dsimp only at hS); go_simp; try (with_reducible rfl)); simp only [Act.put, List.setIfInBounds_toArray, List.set_cons_zero, List.set_cons_succ]) | (refine p3_no (by rfl) ?_; simp only [Act.put, List.setIfInBounds_toArray, List.set_cons_zero, List.set_cons_succ]))
          refine p3_done ?_
          go_wp2_with fail
          go_meet
          exact ⟨gx, gy, rfl, rfl, rfl, rfl, rfl, Lib.hid hne', Lib.hid hgwx, Lib.hid hgwy, hx3, hy3, hB3⟩
    · intro KK hK
      go_simp
      have hbx : Below wd.heap.size wd (wd.alloc (.cells #[.slice none 0 0, .int .i64 0] 24)) := (Below.refl _ _).alloc (Nat.le_refl _) _
      have hB_1 := Lib.hid (hB_0.out.trans (hbx.mono hz_0))
      have hS_1 : Hid (Gb (wd.alloc (.cells #[.slice none 0 0, .int .i64 0] 24)) w.heap.size (.slice A T0.length c) p s0 a (.slice A' l0.length c') (gn : Nat) (cm : Nat)) := Lib.hid (hS_0.out.on hbx)
      have hz_1 : w1.heap.size ≤ (wd.alloc (.cells #[.slice none 0 0, .int .i64 0] 24)).heap.size := hB_1.out.size
      have hx_1 := Lib.hid (Tb.new wd (.slice none 0 0) 0 24)
      have hgwx : w1.heap.size ≤ wd.heap.size := hz_0
      clear hB_0 hS_0
      generalize wd.alloc (.cells #[.slice none 0 0, .int .i64 0] 24) = wc1 at *
      generalize wd.heap.size = gx at *
      clear hbx
      refine hK.out _ _ hS_1.out ?_
      clear hK
      refine p3_two ?_ ?_
      · intro KK hK
        go_simp
        refine (HF.out _).mono ?_
        rintro e wc2 ⟨rfl, hbx⟩
        have hB_2 := Lib.hid (hB_1.out.trans (hbx.mono hz_1))
        have hS_2 : Hid (Gb wc2 w.heap.size (.slice A T0.length c) p s0 a (.slice A' l0.length c') (gn : Nat) (cm : Nat)) := Lib.hid (hS_1.out.on hbx)
        have hz_2 : w1.heap.size ≤ wc2.heap.size := hB_2.out.size
        have hx_2 := Lib.hid (hx_1.out.on hbx)
        clear hbx hB_1 hS_1 hx_1
        refine hK.out _ _ hS_2.out ?_
        clear hK
        refine p3_two ?_ ?_
        · intro KK hK
          go_simp
          refine (HC3.out _ ((HLL.out.on HB0.out (Nat.le_refl _)).on hB_2.out HB0.out.size)).mono ?_
          rintro e wc3 ⟨rfl, hbx⟩
          have hB_3 := Lib.hid (hB_2.out.trans (hbx.mono hz_2))
          have hS_3 : Hid (Gb wc3 w.heap.size (.slice A T0.length c) p s0 a (.slice A' l0.length c') (gn : Nat) (cm : Nat)) := Lib.hid (hS_2.out.on hbx)
          have hz_3 : w1.heap.size ≤ wc3.heap.size := hB_3.out.size
          have hx_3 := Lib.hid (hx_2.out.on hbx)
          clear hbx hB_2 hS_2 hx_2
          refine hK.out _ _ hS_3.out ?_
          clear hK
          refine p3_one ?_
          intro KK hK
          go_simp
          have hbx : Below wc3.heap.size wc3 (wc3.alloc (.cells #[.string ⟨#[]⟩, .int .i64 0] 26)) := (Below.refl _ _).alloc (Nat.le_refl _) _
          have hB_4 := Lib.hid (hB_3.out.trans (hbx.mono hz_3))
          have hS_4 : Hid (Gb (wc3.alloc (.cells #[.string ⟨#[]⟩, .int .i64 0] 26)) w.heap.size (.slice A T0.length c) p s0 a (.slice A' l0.length c') (gn : Nat) (cm : Nat)) := Lib.hid (hS_3.out.on hbx)
          have hz_4 : w1.heap.size ≤ (wc3.alloc (.cells #[.string ⟨#[]⟩, .int .i64 0] 26)).heap.size := hB_4.out.size
          have hx_4 := Lib.hid (hx_3.out.on hbx)
          have hy_4 := Lib.hid (Box.new wc3 ⟨#[]⟩ 0 26)
          have hne : Hid (wc3.heap.size ≠ gx) := Lib.hid (by have := hx_3.out.lt; omega)
          have hgwy : w1.heap.size ≤ wc3.heap.size := hz_3
          clear hB_3 hS_3 hx_3
          generalize wc3.alloc (.cells #[.string ⟨#[]⟩, .int .i64 0] 26) = wc4 at *
          generalize wc3.heap.size = gy at *
          clear hbx
          refine hK.out _ _ hS_4.out ?_
          clear hK
          refine p3_one ?_
          intro KK hK
          obtain ⟨u0, u1, uf0, uf1⟩ := hx_4.out
          go_simp
          have hwg' := hwg.out
          have hx2 := Lib.hid (hx_4.out.put (.slice A T0.length c) p)
          have hne' : gx ≠ gy := by have := hne.out; omega
          have hy2 := Lib.hid ((hy_4.out.far (p := ⟨gx, 0, none⟩) hne'.symm (.slice A T0.length c)).far (p := ⟨gx, 1, none⟩) hne'.symm (.int .i64 p))
          have hB2 := Lib.hid ((hB_4.out.setCell (p := ⟨gx, 0, none⟩) hgwx (.slice A T0.length c)).setCell (p := ⟨gx, 1, none⟩) hgwx (.int .i64 p))
          have hS2 := Lib.hid ((hS_4.out.set (q := ⟨gx, 0, none⟩) (by show w.heap.size ≠ gx; omega) (.slice A T0.length c)).set (q := ⟨gx, 1, none⟩) (by show w.heap.size ≠ gx; omega) (.int .i64 p))
          refine hK.out _ _ hS2.out ?_
          clear hK u0 u1 uf0 uf1
          refine p3_one ?_
          intro KK hK
          obtain ⟨u0, u1, uf0, uf1⟩ := hy2.out
          go_simp
          have hx3 := Lib.hid ((hx2.out.far (a := ⟨gy, 0, none⟩) hne' (.string s)).far (a := ⟨gy, 1, none⟩) hne' (.int .i64 a))
          have hy3 := Lib.hid (hy2.out.put s a)
          have hB3 := Lib.hid ((hB2.out.setCell (p := ⟨gy, 0, none⟩) hgwy (.string s)).setCell (p := ⟨gy, 1, none⟩) hgwy (.int .i64 a))
          have hS3 := Lib.hid ((hS2.out.set (q := ⟨gy, 0, none⟩) (by show w.heap.size ≠ gy; omega) (.string s)).set (q := ⟨gy, 1, none⟩) (by show w.heap.size ≠ gy; omega) (.int .i64 a))
          refine hK.out _ _ hS3.out ?_
          clear hK
          iterate 3 (first | (refine' p3_yes ?_ (by rfl) ?_ ?_; rotate_left; (intro w' hS; (try dsimp only at hS); go_simp; try (with_reducible rfl)); simp only [Act.put, List.setIfInBounds_toArray, List.set_cons_zero, List.set_cons_succ]) | (refine p3_no (by rfl) ?_; simp only [Act.put, List.setIfInBounds_toArray, List.set_cons_zero, List.set_cons_succ]))
          refine p3_done ?_
          go_wp2_with fail
          go_meet
          exact ⟨gx, gy, rfl, rfl, rfl, rfl, rfl, Lib.hid hne', Lib.hid hgwx, Lib.hid hgwy, hx3, hy3, hB3⟩
        · intro KK hK
          go_simp
          have hbx : Below wc2.heap.size wc2 (wc2.alloc (.cells #[.string ⟨#[]⟩, .int .i64 0] 26)) := (Below.refl _ _).alloc (Nat.le_refl _) _
          have hB_3 := Lib.hid (hB_2.out.trans (hbx.mono hz_2))
          have hS_3 : Hid (Gb (wc2.alloc (.cells #[.string ⟨#[]⟩, .int .i64 0] 26)) w.heap.size (.slice A T0.length c) p s0 a (.slice A' l0.length c') (gn : Nat) (cm : Nat)) := Lib.hid (hS_2.out.on hbx)
          have hz_3 : w1.heap.size ≤ (wc2.alloc (.cells #[.string ⟨#[]⟩, .int .i64 0] 26)).heap.size := hB_3.out.size
          have hx_3 := Lib.hid (hx_2.out.on hbx)
          have hy_3 := Lib.hid (Box.new wc2 ⟨#[]⟩ 0 26)
          have hne : Hid (wc2.heap.size ≠ gx) := Lib.hid (by have := hx_2.out.lt; omega)
          have hgwy : w1.heap.size ≤ wc2.heap.size := hz_2
          clear hB_2 hS_2 hx_2
          generalize wc2.alloc (.cells #[.string ⟨#[]⟩, .int .i64 0] 26) = wc3 at *
          generalize wc2.heap.size = gy at *
          clear hbx
          refine hK.out _ _ hS_3.out ?_
          clear hK
          refine p3_one ?_
          intro KK hK
          go_simp
          refine (HC3.out _ ((HLL.out.on HB0.out (Nat.le_refl _)).on hB_3.out HB0.out.size)).mono ?_
          rintro e wc4 ⟨rfl, hbx⟩
          have hB_4 := Lib.hid (hB_3.out.trans (hbx.mono hz_3))
          have hS_4 : Hid (Gb wc4 w.heap.size (.slice A T0.length c) p s0 a (.slice A' l0.length c') (gn : Nat) (cm : Nat)) := Lib.hid (hS_3.out.on hbx)
          have hz_4 : w1.heap.size ≤ wc4.heap.size := hB_4.out.size
          have hx_4 := Lib.hid (hx_3.out.on hbx)
          have hy_4 := Lib.hid (hy_3.out.on hbx)
          clear hbx hB_3 hS_3 hx_3 hy_3
          refine hK.out _ _ hS_4.out ?_
          clear hK
          refine p3_one ?_
          intro KK hK
          obtain ⟨u0, u1, uf0, uf1⟩ := hx_4.out
          go_simp
          have hwg' := hwg.out
          have hx2 := Lib.hid (hx_4.out.put (.slice A T0.length c) p)
          have hne' : gx ≠ gy := by have := hne.out; omega
          have hy2 := Lib.hid ((hy_4.out.far (p := ⟨gx, 0, none⟩) hne'.symm (.slice A T0.length c)).far (p := ⟨gx, 1, none⟩) hne'.symm (.int .i64 p))
          have hB2 := Lib.hid ((hB_4.out.setCell (p := ⟨gx, 0, none⟩) hgwx (.slice A T0.length c)).setCell (p := ⟨gx, 1, none⟩) hgwx (.int .i64 p))
          have hS2 := Lib.hid ((hS_4.out.set (q := ⟨gx, 0, none⟩) (by show w.heap.size ≠ gx; omega) (.slice A T0.length c)).set (q := ⟨gx, 1, none⟩) (by show w.heap.size ≠ gx; omega) (.int .i64 p))
          refine hK.out _ _ hS2.out ?_
          clear hK u0 u1 uf0 uf1
          refine p3_one ?_
          intro KK hK
          obtain ⟨u0, u1, uf0, uf1⟩ := hy2.out
          go_simp
          have hx3 := Lib.hid ((hx2.out.far (a := ⟨gy, 0, none⟩) hne' (.string s)).far (a := ⟨gy, 1, none⟩) hne' (.int .i64 a))
          have hy3 := Lib.hid (hy2.out.put s a)
          have hB3 := Lib.hid ((hB2.out.setCell (p := ⟨gy, 0, none⟩) hgwy (.string s)).setCell (p := ⟨gy, 1, none⟩) hgwy (.int .i64 a))
          have hS3 := Lib.hid ((hS2.out.set (q := ⟨gy, 0, none⟩) (by show w.heap.size ≠ gy; omega) (.string s)).set (q := ⟨gy, 1, none⟩) (by show w.heap.size ≠ gy; omega) (.int .i64 a))
          refine hK.out _ _ hS3.out ?_
          clear hK
          iterate 3 (first | (refine' p3_yes ?_ (by rfl) ?_ ?_; rotate_left; (intro w' hS; (try dsimp only at hS); go_simp; try (with_reducible rfl)); simp only [Act.put, List.setIfInBounds_toArray, List.set_cons_zero, List.set_cons_succ]) | (refine p3_no (by rfl) ?_; simp only [Act.put, List.setIfInBounds_toArray, List.set_cons_zero, List.set_cons_succ]))
          refine p3_done ?_
          go_wp2_with fail
          go_meet
          exact ⟨gx, gy, rfl, rfl, rfl, rfl, rfl, Lib.hid hne', Lib.hid hgwx, Lib.hid hgwy, hx3, hy3, hB3⟩
      · intro KK hK
        go_simp
        have hbx : Below wc1.heap.size wc1 (wc1.alloc (.cells #[.string ⟨#[]⟩, .int .i64 0] 26)) := (Below.refl _ _).alloc (Nat.le_refl _) _
        have hB_2 := Lib.hid (hB_1.out.trans (hbx.mono hz_1))
        have hS_2 : Hid (Gb (wc1.alloc (.cells #[.string ⟨#[]⟩, .int .i64 0] 26)) w.heap.size (.slice A T0.length c) p s0 a (.slice A' l0.length c') (gn : Nat) (cm : Nat)) := Lib.hid (hS_1.out.on hbx)
        have hz_2 : w1.heap.size ≤ (wc1.alloc (.cells #[.string ⟨#[]⟩, .int .i64 0] 26)).heap.size := hB_2.out.size
        have hx_2 := Lib.hid (hx_1.out.on hbx)
        have hy_2 := Lib.hid (Box.new wc1 ⟨#[]⟩ 0 26)
        have hne : Hid (wc1.heap.size ≠ gx) := Lib.hid (by have := hx_1.out.lt; omega)
        have hgwy : w1.heap.size ≤ wc1.heap.size := hz_1
        clear hB_1 hS_1 hx_1
        generalize wc1.alloc (.cells #[.string ⟨#[]⟩, .int .i64 0] 26) = wc2 at *
        generalize wc1.heap.size = gy at *
        clear hbx
        refine hK.out _ _ hS_2.out ?_
        clear hK
        refine p3_one ?_
        intro KK hK
        go_simp
        refine (HF.out _).mono ?_
        rintro e wc3 ⟨rfl, hbx⟩
        have hB_3 := Lib.hid (hB_2.out.trans (hbx.mono hz_2))
        have hS_3 : Hid (Gb wc3 w.heap.size (.slice A T0.length c) p s0 a (.slice A' l0.length c') (gn : Nat) (cm : Nat)) := Lib.hid (hS_2.out.on hbx)
        have hz_3 : w1.heap.size ≤ wc3.heap.size := hB_3.out.size
        have hx_3 := Lib.hid (hx_2.out.on hbx)
        have hy_3 := Lib.hid (hy_2.out.on hbx)
        clear hbx hB_2 hS_2 hx_2 hy_2
        refine hK.out _ _ hS_3.out ?_
        clear hK
        refine p3_one ?_
        intro KK hK
        go_simp
        refine (HC3.out _ ((HLL.out.on HB0.out (Nat.le_refl _)).on hB_3.out HB0.out.size)).mono ?_
        rintro e wc4 ⟨rfl, hbx⟩
        have hB_4 := Lib.hid (hB_3.out.trans (hbx.mono hz_3))
        have hS_4 : Hid (Gb wc4 w.heap.size (.slice A T0.length c) p s0 a (.slice A' l0.length c') (gn : Nat) (cm : Nat)) := Lib.hid (hS_3.out.on hbx)
        have hz_4 : w1.heap.size ≤ wc4.heap.size := hB_4.out.size
        have hx_4 := Lib.hid (hx_3.out.on hbx)
        have hy_4 := Lib.hid (hy_3.out.on hbx)
        clear hbx hB_3 hS_3 hx_3 hy_3
        refine hK.out _ _ hS_4.out ?_
        clear hK
        refine p3_one ?_
        intro KK hK
        obtain ⟨u0, u1, uf0, uf1⟩ := hx_4.out
        go_simp
        have hwg' := hwg.out
        have hx2 := Lib.hid (hx_4.out.put (.slice A T0.length c) p)
        have hne' : gx ≠ gy := by have := hne.out; omega
        have hy2 := Lib.hid ((hy_4.out.far (p := ⟨gx, 0, none⟩) hne'.symm (.slice A T0.length c)).far (p := ⟨gx, 1, none⟩) hne'.symm (.int .i64 p))
        have hB2 := Lib.hid ((hB_4.out.setCell (p := ⟨gx, 0, none⟩) hgwx (.slice A T0.length c)).setCell (p := ⟨gx, 1, none⟩) hgwx (.int .i64 p))
        have hS2 := Lib.hid ((hS_4.out.set (q := ⟨gx, 0, none⟩) (by show w.heap.size ≠ gx; omega) (.slice A T0.length c)).set (q := ⟨gx, 1, none⟩) (by show w.heap.size ≠ gx; omega) (.int .i64 p))
        refine hK.out _ _ hS2.out ?_
        clear hK u0 u1 uf0 uf1
        refine p3_one ?_
        intro KK hK
        obtain ⟨u0, u1, uf0, uf1⟩ := hy2.out
        go_simp
        have hx3 := Lib.hid ((hx2.out.far (a := ⟨gy, 0, none⟩) hne' (.string s)).far (a := ⟨gy, 1, none⟩) hne' (.int .i64 a))
        have hy3 := Lib.hid (hy2.out.put s a)
        have hB3 := Lib.hid ((hB2.out.setCell (p := ⟨gy, 0, none⟩) hgwy (.string s)).setCell (p := ⟨gy, 1, none⟩) hgwy (.int .i64 a))
        have hS3 := Lib.hid ((hS2.out.set (q := ⟨gy, 0, none⟩) (by show w.heap.size ≠ gy; omega) (.string s)).set (q := ⟨gy, 1, none⟩) (by show w.heap.size ≠ gy; omega) (.int .i64 a))
        refine hK.out _ _ hS3.out ?_
        clear hK
        iterate 3 (first | (refine' p3_yes ?_ (by rfl) ?_ ?_; rotate_left; (intro w' hS; (try dsimp only at hS); go_simp; try (with_reducible rfl)); simp only [Act.put, List.setIfInBounds_toArray, List.set_cons_zero, List.set_cons_succ]) | (refine p3_no (by rfl) ?_; simp only [Act.put, List.setIfInBounds_toArray, List.set_cons_zero, List.set_cons_succ]))
        refine p3_done ?_
        go_wp2_with fail
        go_meet
        exact ⟨gx, gy, rfl, rfl, rfl, rfl, rfl, Lib.hid hne', Lib.hid hgwx, Lib.hid hgwy, hx3, hy3, hB3⟩
    · intro KK hK
      go_simp
      have hbx : Below wd.heap.size wd (wd.alloc (.cells #[.string ⟨#[]⟩, .int .i64 0] 26)) := (Below.refl _ _).alloc (Nat.le_refl _) _
      have hB_1 := Lib.hid (hB_0.out.trans (hbx.mono hz_0))
      have hS_1 : Hid (Gb (wd.alloc (.cells #[.string ⟨#[]⟩, .int .i64 0] 26)) w.heap.size (.slice A T0.length c) p s0 a (.slice A' l0.length c') (gn : Nat) (cm : Nat)) := Lib.hid (hS_0.out.on hbx)
      have hz_1 : w1.heap.size ≤ (wd.alloc (.cells #[.string ⟨#[]⟩, .int .i64 0] 26)).heap.size := hB_1.out.size
      have hy_1 := Lib.hid (Box.new wd ⟨#[]⟩ 0 26)
      have hgwy : w1.heap.size ≤ wd.heap.size := hz_0
      clear hB_0 hS_0
      generalize wd.alloc (.cells #[.string ⟨#[]⟩, .int .i64 0] 26) = wc1 at *
      generalize wd.heap.size = gy at *
      clear hbx
      refine hK.out _ _ hS_1.out ?_
      clear hK
      refine p3_two ?_ ?_
      · intro KK hK
        go_simp
        refine (HF.out _).mono ?_
        rintro e wc2 ⟨rfl, hbx⟩
        have hB_2 := Lib.hid (hB_1.out.trans (hbx.mono hz_1))
        have hS_2 : Hid (Gb wc2 w.heap.size (.slice A T0.length c) p s0 a (.slice A' l0.length c') (gn : Nat) (cm : Nat)) := Lib.hid (hS_1.out.on hbx)
        have hz_2 : w1.heap.size ≤ wc2.heap.size := hB_2.out.size
        have hy_2 := Lib.hid (hy_1.out.on hbx)
        clear hbx hB_1 hS_1 hy_1
        refine hK.out _ _ hS_2.out ?_
        clear hK
        refine p3_two ?_ ?_
        · intro KK hK
          go_simp
          refine (HC3.out _ ((HLL.out.on HB0.out (Nat.le_refl _)).on hB_2.out HB0.out.size)).mono ?_
          rintro e wc3 ⟨rfl, hbx⟩
          have hB_3 := Lib.hid (hB_2.out.trans (hbx.mono hz_2))
          have hS_3 : Hid (Gb wc3 w.heap.size (.slice A T0.length c) p s0 a (.slice A' l0.length c') (gn : Nat) (cm : Nat)) := Lib.hid (hS_2.out.on hbx)
          have hz_3 : w1.heap.size ≤ wc3.heap.size := hB_3.out.size
          have hy_3 := Lib.hid (hy_2.out.on hbx)
          clear hbx hB_2 hS_2 hy_2
          refine hK.out _ _ hS_3.out ?_
          clear hK
          refine p3_one ?_
          intro KK hK
          go_simp
          have hbx : Below wc3.heap.size wc3 (wc3.alloc (.cells #[.slice none 0 0, .int .i64 0] 24)) := (Below.refl _ _).alloc (Nat.le_refl _) _
          have hB_4 := Lib.hid (hB_3.out.trans (hbx.mono hz_3))
          have hS_4 : Hid (Gb (wc3.alloc (.cells #[.slice none 0 0, .int .i64 0] 24)) w.heap.size (.slice A T0.length c) p s0 a (.slice A' l0.length c') (gn : Nat) (cm : Nat)) := Lib.hid (hS_3.out.on hbx)
          have hz_4 : w1.heap.size ≤ (wc3.alloc (.cells #[.slice none 0 0, .int .i64 0] 24)).heap.size := hB_4.out.size
          have hy_4 := Lib.hid (hy_3.out.on hbx)
          have hx_4 := Lib.hid (Tb.new wc3 (.slice none 0 0) 0 24)
          have hne : Hid (wc3.heap.size ≠ gy) := Lib.hid (by have := hy_3.out.lt; omega)
          have hgwx : w1.heap.size ≤ wc3.heap.size := hz_3
          clear hB_3 hS_3 hy_3
          generalize wc3.alloc (.cells #[.slice none 0 0, .int .i64 0] 24) = wc4 at *
          generalize wc3.heap.size = gx at *
          clear hbx
          refine hK.out _ _ hS_4.out ?_
          clear hK
          refine p3_one ?_
          intro KK hK
          obtain ⟨u0, u1, uf0, uf1⟩ := hx_4.out
          go_simp
          have hwg' := hwg.out
          have hx2 := Lib.hid (hx_4.out.put (.slice A T0.length c) p)
          have hne' : gx ≠ gy := by have := hne.out; omega
          have hy2 := Lib.hid ((hy_4.out.far (p := ⟨gx, 0, none⟩) hne'.symm (.slice A T0.length c)).far (p := ⟨gx, 1, none⟩) hne'.symm (.int .i64 p))
          have hB2 := Lib.hid ((hB_4.out.setCell (p := ⟨gx, 0, none⟩) hgwx (.slice A T0.length c)).setCell (p := ⟨gx, 1, none⟩) hgwx (.int .i64 p))
          have hS2 := Lib.hid ((hS_4.out.set (q := ⟨gx, 0, none⟩) (by show w.heap.size ≠ gx; omega) (.slice A T0.length c)).set (q := ⟨gx, 1, none⟩) (by show w.heap.size ≠ gx; omega) (.int .i64 p))
          refine hK.out _ _ hS2.out ?_
          clear hK u0 u1 uf0 uf1
          refine p3_one ?_
          intro KK hK
          obtain ⟨u0, u1, uf0, uf1⟩ := hy2.out
          go_simp
          have hx3 := Lib.hid ((hx2.out.far (a := ⟨gy, 0, none⟩) hne' (.string s)).far (a := ⟨gy, 1, none⟩) hne' (.int .i64 a))
          have hy3 := Lib.hid (hy2.out.put s a)
          have hB3 := Lib.hid ((hB2.out.setCell (p := ⟨gy, 0, none⟩) hgwy (.string s)).setCell (p := ⟨gy, 1, none⟩) hgwy (.int .i64 a))
          have hS3 := Lib.hid ((hS2.out.set (q := ⟨gy, 0, none⟩) (by show w.heap.size ≠ gy; omega) (.string s)).set (q := ⟨gy, 1, none⟩) (by show w.heap.size ≠ gy; omega) (.int .i64 a))
          refine hK.out _ _ hS3.out ?_
          clear hK
          iterate 3 (first | (refine' p3_yes ?_ (by rfl) ?_ ?_; rotate_left; (intro w' hS; (try dsimp only at hS); go_simp; try (with_reducible rfl)); simp only [Act.put, List.setIfInBounds_toArray, List.set_cons_zero, List.set_cons_succ]) | (refine p3_no (by rfl) ?_; simp only [Act.put, List.setIfInBounds_toArray, List.set_cons_zero, List.set_cons_succ]))
          refine p3_done ?_
          go_wp2_with fail
          go_meet
          exact ⟨gx, gy, rfl, rfl, rfl, rfl, rfl, Lib.hid hne', Lib.hid hgwx, Lib.hid hgwy, hx3, hy3, hB3⟩
        · intro KK hK
          go_simp
          have hbx : Below wc2.heap.size wc2 (wc2.alloc (.cells #[.slice none 0 0, .int .i64 0] 24)) := (Below.refl _ _).alloc (Nat.le_refl _) _
          have hB_3 := Lib.hid (hB_2.out.trans (hbx.mono hz_2))
          have hS_3 : Hid (Gb (wc2.alloc (.cells #[.slice none 0 0, .int .i64 0] 24)) w.heap.size (.slice A T0.length c) p s0 a (.slice A' l0.length c') (gn : Nat) (cm : Nat)) := Lib.hid (hS_2.out.on hbx)
          have hz_3 : w1.heap.size ≤ (wc2.alloc (.cells #[.slice none 0 0, .int .i64 0] 24)).heap.size := hB_3.out.size
          have hy_3 := Lib.hid (hy_2.out.on hbx)
          have hx_3 := Lib.hid (Tb.new wc2 (.slice none 0 0) 0 24)
          have hne : Hid (wc2.heap.size ≠ gy) := Lib.hid (by have := hy_2.out.lt; omega)
          have hgwx : w1.heap.size ≤ wc2.heap.size := hz_2
          clear hB_2 hS_2 hy_2
          generalize wc2.alloc (.cells #[.slice none 0 0, .int .i64 0] 24) = wc3 at *
          generalize wc2.heap.size = gx at *
          clear hbx
          refine hK.out _ _ hS_3.out ?_
          clear hK
          refine p3_one ?_
          intro KK hK
          go_simp
          refine (HC3.out _ ((HLL.out.on HB0.out (Nat.le_refl _)).on hB_3.out HB0.out.size)).mono ?_
          rintro e wc4 ⟨rfl, hbx⟩
          have hB_4 := Lib.hid (hB_3.out.trans (hbx.mono hz_3))
          have hS_4 : Hid (Gb wc4 w.heap.size (.slice A T0.length c) p s0 a (.slice A' l0.length c') (gn : Nat) (cm : Nat)) := Lib.hid (hS_3.out.on hbx)
          have hz_4 : w1.heap.size ≤ wc4.heap.size := hB_4.out.size
          have hx_4 := Lib.hid (hx_3.out.on hbx)
          have hy_4 := Lib.hid (hy_3.out.on hbx)
          clear hbx hB_3 hS_3 hx_3 hy_3
          refine hK.out _ _ hS_4.out ?_
          clear hK
          refine p3_one ?_
          intro KK hK
          obtain ⟨u0, u1, uf0, uf1⟩ := hx_4.out
          go_simp
          have hwg' := hwg.out
          have hx2 := Lib.hid (hx_4.out.put (.slice A T0.length c) p)
          have hne' : gx ≠ gy := by have := hne.out; omega
          have hy2 := Lib.hid ((hy_4.out.far (p := ⟨gx, 0, none⟩) hne'.symm (.slice A T0.length c)).far (p := ⟨gx, 1, none⟩) hne'.symm (.int .i64 p))
          have hB2 := Lib.hid ((hB_4.out.setCell (p := ⟨gx, 0, none⟩) hgwx (.slice A T0.length c)).setCell (p := ⟨gx, 1, none⟩) hgwx (.int .i64 p))
          have hS2 := Lib.hid ((hS_4.out.set (q := ⟨gx, 0, none⟩) (by show w.heap.size ≠ gx; omega) (.slice A T0.length c)).set (q := ⟨gx, 1, none⟩) (by show w.heap.size ≠ gx; omega) (.int .i64 p))
          refine hK.out _ _ hS2.out ?_
          clear hK u0 u1 uf0 uf1
          refine p3_one ?_
          intro KK hK
          obtain ⟨u0, u1, uf0, uf1⟩ := hy2.out
          go_simp
          have hx3 := Lib.hid ((hx2.out.far (a := ⟨gy, 0, none⟩) hne' (.string s)).far (a := ⟨gy, 1, none⟩) hne' (.int .i64 a))
          have hy3 := Lib.hid (hy2.out.put s a)
          have hB3 := Lib.hid ((hB2.out.setCell (p := ⟨gy, 0, none⟩) hgwy (.string s)).setCell (p := ⟨gy, 1, none⟩) hgwy (.int .i64 a))
          have hS3 := Lib.hid ((hS2.out.set (q := ⟨gy, 0, none⟩) (by show w.heap.size ≠ gy; omega) (.string s)).set (q := ⟨gy, 1, none⟩) (by show w.heap.size ≠ gy; omega) (.int .i64 a))
          refine hK.out _ _ hS3.out ?_
          clear hK
          iterate 3 (first | (refine' p3_yes ?_ (by rfl) ?_ ?_; rotate_left; (intro w' hS; (try dsimp only at hS); go_simp; try (with_reducible rfl)); simp only [Act.put, List.setIfInBounds_toArray, List.set_cons_zero, List.set_cons_succ]) | (refine p3_no (by rfl) ?_; simp only [Act.put, List.setIfInBounds_toArray, List.set_cons_zero, List.set_cons_succ]))
          refine p3_done ?_
          go_wp2_with fail
          go_meet
          exact ⟨gx, gy, rfl, rfl, rfl, rfl, rfl, Lib.hid hne', Lib.hid hgwx, Lib.hid hgwy, hx3, hy3, hB3⟩
      · intro KK hK
        go_simp
        have hbx : Below wc1.heap.size wc1 (wc1.alloc (.cells #[.slice none 0 0, .int .i64 0] 24)) := (Below.refl _ _).alloc (Nat.le_refl _) _
        have hB_2 := Lib.hid (hB_1.out.trans (hbx.mono hz_1))
        have hS_2 : Hid (Gb (wc1.alloc (.cells #[.slice none 0 0, .int .i64 0] 24)) w.heap.size (.slice A T0.length c) p s0 a (.slice A' l0.length c') (gn : Nat) (cm : Nat)) := Lib.hid (hS_1.out.on hbx)
        have hz_2 : w1.heap.size ≤ (wc1.alloc (.cells #[.slice none 0 0, .int .i64 0] 24)).heap.size := hB_2.out.size
        have hy_2 := Lib.hid (hy_1.out.on hbx)
        have hx_2 := Lib.hid (Tb.new wc1 (.slice none 0 0) 0 24)
        have hne : Hid (wc1.heap.size ≠ gy) := Lib.hid (by have := hy_1.out.lt; omega)
        have hgwx : w1.heap.size ≤ wc1.heap.size := hz_1
        clear hB_1 hS_1 hy_1
        generalize wc1.alloc (.cells #[.slice none 0 0, .int .i64 0] 24) = wc2 at *
        generalize wc1.heap.size = gx at *
        clear hbx
        refine hK.out _ _ hS_2.out ?_
        clear hK
        refine p3_one ?_
        intro KK hK
        go_simp
        refine (HF.out _).mono ?_
        rintro e wc3 ⟨rfl, hbx⟩
        have hB_3 := Lib.hid (hB_2.out.trans (hbx.mono hz_2))
        have hS_3 : Hid (Gb wc3 w.heap.size (.slice A T0.length c) p s0 a (.slice A' l0.length c') (gn : Nat) (cm : Nat)) := Lib.hid (hS_2.out.on hbx)
        have hz_3 : w1.heap.size ≤ wc3.heap.size := hB_3.out.size
        have hx_3 := Lib.hid (hx_2.out.on hbx)
        have hy_3 := Lib.hid (hy_2.out.on hbx)
        clear hbx hB_2 hS_2 hx_2 hy_2
        refine hK.out _ _ hS_3.out ?_
        clear hK
        refine p3_one ?_
        intro KK hK
        go_simp
        refine (HC3.out _ ((HLL.out.on HB0.out (Nat.le_refl _)).on hB_3.out HB0.out.size)).mono ?_
        rintro e wc4 ⟨rfl, hbx⟩
        have hB_4 := Lib.hid (hB_3.out.trans (hbx.mono hz_3))
        have hS_4 : Hid (Gb wc4 w.heap.size (.slice A T0.length c) p s0 a (.slice A' l0.length c') (gn : Nat) (cm : Nat)) := Lib.hid (hS_3.out.on hbx)
        have hz_4 : w1.heap.size ≤ wc4.heap.size := hB_4.out.size
        have hx_4 := Lib.hid (hx_3.out.on hbx)
        have hy_4 := Lib.hid (hy_3.out.on hbx)
        clear hbx hB_3 hS_3 hx_3 hy_3
        refine hK.out _ _ hS_4.out ?_
        clear hK
        refine p3_one ?_
        intro KK hK
        obtain ⟨u0, u1, uf0, uf1⟩ := hx_4.out
        go_simp
        have hwg' := hwg.out
        have hx2 := Lib.hid (hx_4.out.put (.slice A T0.length c) p)
        have hne' : gx ≠ gy := by have := hne.out; omega
        have hy2 := Lib.hid ((hy_4.out.far (p := ⟨gx, 0, none⟩) hne'.symm (.slice A T0.length c)).far (p := ⟨gx, 1, none⟩) hne'.symm (.int .i64 p))
        have hB2 := Lib.hid ((hB_4.out.setCell (p := ⟨gx, 0, none⟩) hgwx (.slice A T0.length c)).setCell (p := ⟨gx, 1, none⟩) hgwx (.int .i64 p))
        have hS2 := Lib.hid ((hS_4.out.set (q := ⟨gx, 0, none⟩) (by show w.heap.size ≠ gx; omega) (.slice A T0.length c)).set (q := ⟨gx, 1, none⟩) (by show w.heap.size ≠ gx; omega) (.int .i64 p))
        refine hK.out _ _ hS2.out ?_
        clear hK u0 u1 uf0 uf1
        refine p3_one ?_
        intro KK hK
        obtain ⟨u0, u1, uf0, uf1⟩ := hy2.out
        go_simp
        have hx3 := Lib.hid ((hx2.out.far (a := ⟨gy, 0, none⟩) hne' (.string s)).far (a := ⟨gy, 1, none⟩) hne' (.int .i64 a))
        have hy3 := Lib.hid (hy2.out.put s a)
        have hB3 := Lib.hid ((hB2.out.setCell (p := ⟨gy, 0, none⟩) hgwy (.string s)).setCell (p := ⟨gy, 1, none⟩) hgwy (.int .i64 a))
        have hS3 := Lib.hid ((hS2.out.set (q := ⟨gy, 0, none⟩) (by show w.heap.size ≠ gy; omega) (.string s)).set (q := ⟨gy, 1, none⟩) (by show w.heap.size ≠ gy; omega) (.int .i64 a))
        refine hK.out _ _ hS3.out ?_
        clear hK
        iterate 3 (first | (refine' p3_yes ?_ (by rfl) ?_ ?_; rotate_left; (intro w' hS; (try dsimp only at hS); go_simp; try (with_reducible rfl)); simp only [Act.put, List.setIfInBounds_toArray, List.set_cons_zero, List.set_cons_succ]) | (refine p3_no (by rfl) ?_; simp only [Act.put, List.setIfInBounds_toArray, List.set_cons_zero, List.set_cons_succ]))
        refine p3_done ?_
        go_wp2_with fail
        go_meet
        exact ⟨gx, gy, rfl, rfl, rfl, rfl, rfl, Lib.hid hne', Lib.hid hgwx, Lib.hid hgwy, hx3, hy3, hB3⟩
  case rest =>
  obtain ⟨gx, gy, rfl, rfl, rfl, rfl, rfl, hxy, hgx, hgy, HTq, HDq, HCq⟩ := hcut
  have hcq := HCq.out
  have HWG := hwg.out
  clear HQ HF hwg HCq
  have HB_1 : Hid (Below w.heap.size w wc) := Lib.hid (HB0.out.trans (hcq.mono HB0.out.size))
  clear HB0 hcq
  have HGX : Hid (w.heap.size ≤ gx ∧ w.heap.size ≤ gy ∧ gx ≠ gy) := Lib.hid ⟨by have := hgx.out; omega, by have := hgy.out; omega, hxy.out⟩
  clear hgx hgy hxy HWG
  obtain ⟨x0, x1, xf0, xf1⟩ := HTq.out
  go_wp2_with fail
  refine (HC1.out _ (HTT.out.on HB_1.out (Nat.le_refl _))).mono ?_
  rintro e w2 ⟨rfl, hb⟩
  clear x0 x1 xf0 xf1 HC1 HC3 HTT HLL
  have HB_2 : Hid (Below w.heap.size w w2) := Lib.hid (HB_1.out.trans (hb.mono HB_1.out.size))
  have T_2 := Lib.hid (HTq.out.on hb)
  have D_2 := Lib.hid (HDq.out.on hb)
  clear HB_1 HTq HDq hb
  obtain ⟨x0, x1, xf0, xf1⟩ := T_2.out
  obtain ⟨hgx, hgy, hxy⟩ := HGX.out
  have HT : Hid (Tb (w2.setCell ⟨gx, 0, none⟩ (.slice A T.length c)) gx (.slice A T.length c) p) := Lib.hid (T_2.out.put0 _)
  have HD : Hid (Box (w2.setCell ⟨gx, 0, none⟩ (.slice A T.length c)) gy s a) := Lib.hid (D_2.out.far (p := ⟨gx, 0, none⟩) hxy.symm _)
  have HB1 : Hid (Below w.heap.size w (w2.setCell ⟨gx, 0, none⟩ (.slice A T.length c))) := Lib.hid (HB_2.out.setCell (p := ⟨gx, 0, none⟩) hgx _)
  go_upto_region 3 with (fail)
  clear x0 x1 xf0 xf1 T_2 D_2 HB_2
  generalize w2.setCell ⟨gx, 0, none⟩ (.slice A T.length c) = w3 at *
  obtain ⟨N, hN⟩ : ∃ N, nodesB l = N := ⟨_, rfl⟩
  obtain ⟨J, hJ⟩ : ∃ J, okT T p = J := ⟨_, rfl⟩
  obtain ⟨K, hK⟩ : ∃ K, okD s a = K := ⟨_, rfl⟩
  have HNS := Lib.hid (fun (W : World) (h : Has W 0 w.heap.size A' l) (hh : w.heap.size ≤ W.heap.size) => nodes_t A' c' 0 w.heap.size l W (by omega) h hh N hN)
  have HJS := Lib.hid (fun (W : World) (h : Has W 0 w.heap.size A T) (hh : w.heap.size ≤ W.heap.size) => check_t A c 0 w.heap.size T p W (by omega) h hh J hJ)
  have HKS := Lib.hid (fun (W : World) => rdmay_any s a W K hK)
  have hbad : Hid (bad s a T p l = !(decide (l.length ≤ 10) && (decide (2 ≤ l.length) && (N && (J && K))))) := Lib.hid (by unfold bad; rw [hN, hJ, hK])
  clear hN hJ hK
  have z0 : okE true = 0 := rfl
  have z1 : okE false = 1 := rfl
  go_cut [59] from 37 to 59 (fun sx wx => sx = .bool (bad s a T p l) ∧ Hid (Below w3.heap.size w3 wx))
  case first =>
    by_cases h10 : 10 < l.length
    · have d1 : decide ((10 : Int) < (l.length : Int)) = true := by simp; omega
      have d2 : decide (10 < l.length) = true := by simp; omega
      have d3 : decide (l.length ≤ 10) = false := by simp; omega
      go_wp2_with fail
      go_meet
      exact ⟨by rw [hbad.out, d3]; rfl, Lib.hid (Below.refl _ _)⟩
    have d1 : decide ((10 : Int) < (l.length : Int)) = false := by simp; omega
    have d2 : decide (10 < l.length) = false := by simp; omega
    have d3 : decide (l.length ≤ 10) = true := by simp; omega
    by_cases h0 : l.length < 2
    · have e1 : decide ((l.length : Int) < 2) = true := decide_eq_true (by omega)
      have e2 : decide (l.length < 2) = true := decide_eq_true h0
      have d4 : decide (2 ≤ l.length) = false := by simp; omega
      go_wp2_with fail
      go_meet
      exact ⟨by rw [hbad.out, d3, d4]; rfl, Lib.hid (Below.refl _ _)⟩
    have e1 : decide ((l.length : Int) < 2) = false := decide_eq_false (by omega)
    have e2 : decide (l.length < 2) = false := decide_eq_false h0
    have d4 : decide (2 ≤ l.length) = true := decide_eq_true (by omega)
    clear h0 h10
    go_wp2_with fail
    refine (HNS.out _ (HX0.out.on HB1.out (Nat.le_refl _)) HB1.out.size).mono ?_
    rintro e w4 ⟨rfl, hb3⟩
    have HC3 : Hid (Below w3.heap.size w3 w4) := Lib.hid hb3
    have HT3 := Lib.hid (HT.out.on hb3)
    have HD3 := Lib.hid (HD.out.on hb3)
    have HB3 := Lib.hid (HB1.out.trans (hb3.mono HB1.out.size))
    clear hb3
    rcases N with _ | _
    · go_wp2_with fail
      go_meet
      exact ⟨by rw [hbad.out, d3, d4]; rfl, HC3⟩
    obtain ⟨x0, x1, _, _⟩ := HT3.out
    go_wp2_with fail
    refine (HJS.out _ (HTX.out.on HB3.out (Nat.le_refl _)) HB3.out.size).mono ?_
    rintro e w5 ⟨rfl, hb4⟩
    have HC4 : Hid (Below w3.heap.size w3 w5) := Lib.hid (HC3.out.trans (hb4.mono HC3.out.size))
    have HD4 := Lib.hid (HD3.out.on hb4)
    clear hb4 x0 x1
    rcases J with _ | _
    · go_wp2_with fail
      go_meet
      exact ⟨by rw [hbad.out, d3, d4]; rfl, HC4⟩
    obtain ⟨y0, y1, _, _⟩ := HD4.out
    go_wp2_with fail
    refine (HKS.out _).mono ?_
    rintro e w6 ⟨rfl, hb5⟩
    have HC5 : Hid (Below w3.heap.size w3 w6) := Lib.hid (HC4.out.trans (hb5.mono HC4.out.size))
    clear hb5 y0 y1
    go_wp2_with fail
    go_meet
    exact ⟨by rw [hbad.out, d3, d4]; cases K <;> rfl, HC5⟩
  case rest =>
  obtain ⟨rfl, HC⟩ := hcut
  have HCo := HC.out
  have HB_3 : Hid (Below w.heap.size w wc) := Lib.hid (HB1.out.trans (HCo.mono HB1.out.size))
  have T_3 := Lib.hid (HT.out.on HCo)
  have D_3 := Lib.hid (HD.out.on HCo)
  clear HB1 HT HD HCo
  have HBD : Hid (bad s a T p l = false → l.length ≤ 10 ∧ 2 ≤ l.length ∧ nodesB l = true ∧ okT T p = true ∧ 0 ≤ a ∧ a ≤ (s.size : Int)) := Lib.hid (fun h => by
    simp only [bad, okD, Bool.not_eq_false', Bool.and_eq_true, decide_eq_true_iff] at h
    exact ⟨h.1, h.2.1, h.2.2.1, h.2.2.2.1, h.2.2.2.2.1, h.2.2.2.2.2⟩)
  generalize bad s a T p l = B at *
  clear hbad HNS HJS HKS HC
  rcases B with _ | _
  rotate_left
  · go_wp2_with fail
    refine (awake_any _).mono ?_
    rintro e wE ⟨rfl, hbE⟩
    have HE : Hid (Below w.heap.size w wE) := Lib.hid (HB_3.out.trans (hbE.mono HB_3.out.size))
    clear hbE
    go_wp2_with fail
    go_ret
    exact ⟨rfl, HE.out⟩
  obtain ⟨h10, hl2, hn, ho, ha0, ha1⟩ := HBD.out rfl
  obtain ⟨b, rfl⟩ := Int.eq_ofNat_of_zero_le ha0
  have hb' : b ≤ s.size := by omega
  obtain ⟨P, rfl⟩ := Int.eq_ofNat_of_zero_le ((okT_iff T p).1 ho).2.1
  have hln : l ≠ [] := List.length_pos_iff.1 (by omega)
  have hok0 : OkS s.data.toList (⟨T, P, b⟩ : Tn) := ⟨((okT_iff T P).1 ho).1, by have := ((okT_iff T P).1 ho).2.2; simp only; omega, by simpa using hb'⟩
  obtain ⟨K, hK⟩ : ∃ K, K = gn % l.length := ⟨_, rfl⟩
  have hKl : K < l.length := by rw [hK]; exact Nat.mod_lt _ (by omega)
  have HK := Lib.hid hK
  obtain ⟨M, hM⟩ : ∃ M, M = cm % 9 := ⟨_, rfl⟩
  have hM9 : M < 9 := by rw [hM]; exact Nat.mod_lt _ (by omega)
  have HM := Lib.hid hM
  obtain ⟨ls, hls⟩ : ∃ ls, ls = l.eraseIdx K := ⟨_, rfl⟩
  have hlsl : ls.length = l.length - 1 := by rw [hls, List.length_eraseIdx_of_lt hKl]
  have hlsn : ls ≠ [] := List.length_pos_iff.1 (by omega)
  have hlso : nodesB ls = true := by rw [hls]; exact nodes_sub (List.eraseIdx_sublist l K) hn
  obtain ⟨yk, hyk⟩ : ∃ yk, yk = l.getD K 0 := ⟨_, rfl⟩
  have hyl : yk ∈ l := by rw [hyk]; exact getD_mem l K hKl
  have hyn : yk ∉ ls := by rw [hyk, hls]; exact less_not l K hKl (nodesB_nums hn)
  have HLS := Lib.hid hls
  have HYK := Lib.hid hyk
  have hok : Hid (∀ k, OkS s.data.toList (run s.data.toList ls k ⟨T, P, b⟩)) := Lib.hid (fun k => run_ok hok0 (nodesB_nums hlso) hlsn k)
  have hokl : Hid (∀ st, OkS s.data.toList st → ∀ k, OkS s.data.toList (run s.data.toList l k st)) := Lib.hid (fun st h k => run_ok h (nodesB_nums hn) hln k)
  have HWN : Hid (∀ st, ¬ who s.data.toList ls st = yk) := Lib.hid (fun st h => hyn (h ▸ who_mem hlsn))
  have HEA : Hid (∀ st, OkS s.data.toList st → yk ∈ asked s.data.toList l st (2 * l.length - 1)) := Lib.hid (fun st h => each h hyl)
  have HLL := Lib.hid (fun (W : World) (st : Tn) (A3 : Option Addr) (c3 lo hi : Nat) (hst : OkS s.data.toList st) (h : Has W lo hi A3 st.T) (hh : hi ≤ W.heap.size) (h' : Has W 0 w.heap.size A' l) (hh' : w.heap.size ≤ W.heap.size) => l_next s st A3 A' c3 c' lo hi 0 w.heap.size l W (by omega) hst hn hln h hh h' hh')
  have HLS2 := Lib.hid (fun (W : World) (st : Tn) (A3 A7 : Option Addr) (c3 c7 lo hi : Nat) (hst : OkS s.data.toList st) (h : Has W lo hi A3 st.T) (hh : hi ≤ W.heap.size) (h' : Has W 0 W.heap.size A7 ls) => l_next s st A3 A7 c3 c7 lo hi 0 W.heap.size ls W (by omega) hst hlso hlsn h hh h' (Nat.le_refl _))
  have HV : Hid (Sv wc gx gy s (fun _ => False) ⟨T, P, b⟩) := Lib.hid ⟨A, c, T_3.out, D_3.out, (HTX.out.on HB_3.out (Nat.le_refl _)).clear HB_3.out.size (fun k hk => .inr (by rcases hk with h | h | h <;> (first | exact h.elim | omega)))⟩
  have hgw : Hid (gx < wc.heap.size ∧ gy < wc.heap.size) := Lib.hid ⟨T_3.out.lt, D_3.out.lt⟩
  clear HBD ho ha0 ha1 hok0 HTX hK hM hls hyk hyl hyn hlso hlsn
  clear T_3 D_3
  have i2 : ¬ l.length = 0 := by omega
  have i3 : ((l.length : Int) == 0) = false := by rw [beq_eq_false_iff_ne]; omega
  go_upto_region 8 with (fail)
  rw [rem_of gn l.length (by have := HGN.out; omega), ← HK.out]
  clear i2 i3 HK HGN
  go_loopw [9, 10] (fun (va : Value) i wr => ∃ k : Nat, i = .int .i64 k ∧ k ≤ l.length ∧ Hid (Own wr wc.heap.size va ((l.take k).eraseIdx K)) ∧ Hid (Below wc.heap.size wc wr)) (fun _ i _ => l.length - (intOf i).toNat)
  case atStart => exact ⟨0, rfl, Nat.zero_le _, Lib.hid (Own.nil _ _), Lib.hid (Below.refl _ _)⟩
  case round =>
    obtain ⟨k, rfl, hk, hw, hb⟩ := hrel
    by_cases hlt : k < l.length
    · have e1 : decide ((k : Int) < (l.length : Int)) = true := decide_eq_true (by omega)
      have e2 : decide (k < l.length) = true := decide_eq_true hlt
      have HST := Lib.hid (less_step l K k hlt)
      by_cases hkK : k = K
      · subst hkK
        rw [if_pos rfl] at HST
        go_wp2_with fail
        go_roundw
        case rel => exact ⟨k + 1, by go_num, by omega, Lib.hid (by rw [HST.out]; exact hw.out), hb⟩
        case measure => simp [intOf]; omega
      · rw [if_neg hkK] at HST
        have n1 : ((k : Int) == (K : Int)) = false := by rw [beq_eq_false_iff_ne]; omega
        have n2 : ¬ (k : Int) = (K : Int) := by omega
        have HGE := Lib.hid hw.out.ge
        have hasl : ((l.take k).eraseIdx K).length ≤ 100 := by rw [List.length_eraseIdx]; split <;> simp <;> omega
        obtain ⟨ask, hask⟩ : ∃ ask, ask = (l.take k).eraseIdx K := ⟨_, rfl⟩
        rw [← hask] at hw HST hasl
        have HASK := Lib.hid hask
        clear hask
        have HLR := Lib.hid (HX0.out.on (HB_3.out.trans (hb.out.mono HB_3.out.size)) (Nat.le_refl _))
        obtain ⟨ad', rfl, _, _, hcq⟩ := HLR.out k hlt
        generalize l.getD k 0 = y at *
        have q0 : (0 : Int) ≤ (k : Int) := by omega
        have q1 : (k : Int) < (l.length : Int) := by omega
        go_upto_region 11 with (fail)
        have hb9 : Below wr.heap.size wr (wr.alloc (.cells #[.int .i64 y] 3)) := (Below.refl _ _).alloc (Nat.le_refl _) _
        have hw1 := hb.out.size
        have HW9 := Lib.hid (hw.out.on hb9)
        have HB9 : Hid (Below wc.heap.size wc (wr.alloc (.cells #[.int .i64 y] 3))) := Lib.hid (hb.out.trans (hb9.mono hb.out.size))
        go_wp2_with (at_builtin; refine append_one rfl _ _ rfl wc.heap.size u9 ask rfl HW9.out wr.heap.size y rfl ?c1 ?c2 ?c3 ?_)
        case c1 => go_simp
        case c2 => omega
        case c3 => simp; omega
        intro v' w10 hown hgrow hloc
        have hge := HGE.out
        have HB10 : Hid (Below wc.heap.size wc w10) := Lib.hid (HB9.out.grown hgrow HB9.out.size (fun j hj => (hge _ hj).1))
        have HO10 := Lib.hid hown
        clear hown hgrow hloc hge HB9 HW9 hb9
        go_wp2_with fail
        go_roundw
        case rel => exact ⟨k + 1, by go_num, by omega, Lib.hid (by rw [HST.out]; exact HO10.out), HB10⟩
        case measure => simp [intOf]; omega
    obtain rfl : k = l.length := by omega
    have e1 : decide ((l.length : Int) < (l.length : Int)) = false := by simp
    rw [List.take_of_length_le (Nat.le_refl _), ← HLS.out] at hw
    obtain ⟨A7, c7, he7, _, hh7⟩ := hw.out.has
    subst he7
    obtain ⟨wB, hwB⟩ : ∃ wB, wB = wr := ⟨_, rfl⟩
    subst hwB
    have hgw1 := hgw.out
    have hbo := hb.out
    have H7 : Hid (Clear wB (fun j => j = gx ∨ j = gy) A7 ls) := Lib.hid (hh7.clear (Nat.le_refl _) (fun j hj => .inl (by omega)))
    clear hh7 hw HLS hlsl
    have HB_4 : Hid (Below w.heap.size w wB) := Lib.hid (HB_3.out.trans (hbo.mono HB_3.out.size))
    have V_4 := Lib.hid (HV.out.on hbo)
    clear HB_3 HV hbo
    have hgwB : Hid (gx < wB.heap.size ∧ gy < wB.heap.size) := Lib.hid V_4.out.lt
    clear hgw1 hgw hb
    go_upto_region 13 with (fail)
    go_loopw [11] (fun i wr => ∃ j : Nat, i = .int .i64 j ∧ j ≤ M ∧ Hid (Sv wr gx gy s (fun _ => False) (run s.data.toList ls j ⟨T, P, b⟩)) ∧ Hid (Clear wr (fun j => j = gx ∨ j = gy) A7 ls) ∧ Hid (Below w.heap.size w wr)) (fun i _ => M - (intOf i).toNat)
    case atStart => exact ⟨0, rfl, Nat.zero_le _, V_4, H7, HB_4⟩
    case round =>
      clear V_4 H7 HB_4 e1
      obtain ⟨k, rfl, hk, hv, h7, hb⟩ := hrel
      by_cases hlt : k < M
      · have e1 : decide ((k : Int) < (cm : Int) % 9) = true := decide_eq_true (by have := HM.out; omega)
        have e2 : decide (k < cm % 9) = true := decide_eq_true (by rw [← HM.out]; exact hlt)
        have hst := hok.out k
        have h7' := Lib.hid h7.out.has
        have HKN := Lib.hid (fun W A3 c3 lo hi => HLS2.out W _ A3 A7 c3 c7 lo hi hst)
        have HWY := Lib.hid (HWN.out (run s.data.toList ls k ⟨T, P, b⟩))
        obtain ⟨st', hst'⟩ : ∃ st', st' = stp s.data.toList ls (run s.data.toList ls k ⟨T, P, b⟩) := ⟨_, rfl⟩
        rw [← hst'] at HKN
        have HS' : Hid (st' = run s.data.toList ls (k + 1) ⟨T, P, b⟩) := Lib.hid hst'
        obtain ⟨y, hy⟩ : ∃ y, y = who s.data.toList ls (run s.data.toList ls k ⟨T, P, b⟩) := ⟨_, rfl⟩
        rw [← hy] at HKN HWY
        clear hst' hy
        generalize (run s.data.toList ls k ⟨T, P, b⟩) = st at *
        obtain ⟨A3, c3, hT, hD, hC⟩ := hv.out
        obtain ⟨t0, t1, tf0, tf1⟩ := hT
        obtain ⟨y0, y1, yf0, yf1⟩ := hD
        obtain ⟨lo, hi, hC1, _, hC3⟩ := hC
        have hgt := hv.out.lt
        go_wp2_with fail
        refine (HKN.out wr A3 c3 lo hi hC3 hC1 h7'.out).mono ?_
        rintro e w7 ⟨A4, c4, rfl, hh4, hb7⟩
        have HH4 : Hid (Clear w7 (fun j => j = gx ∨ j = gy ∨ False) A4 st'.T) := Lib.hid (hh4.clear (Nat.le_refl _) (fun j hj => .inl (by rcases hj with h | h | h <;> (first | omega | exact h.elim))))
        clear t0 t1 tf0 tf1 y0 y1 yf0 yf1 hC1 hC3 HKN hh4
        have hz7 := Lib.hid hb7.size
        have HB_5 : Hid (Below w.heap.size w w7) := Lib.hid (hb.out.trans (hb7.mono hb.out.size))
        have V_5 := Lib.hid (hv.out.on hb7)
        have C_5 := Lib.hid (h7.out.on hb7)
        clear hb hv h7 hb7
        obtain ⟨hT', hD', hbn⟩ := boxes_new w7 (.slice A4 st'.T.length c4) (st'.p : Nat) s (st'.a : Nat)
        have HT' := Lib.hid hT'
        have HD' := Lib.hid hD'
        have HH5 := Lib.hid (HH4.out.on hbn)
        have hz8 : Hid (w7.heap.size + 1 < ((w7.alloc (.cells #[.slice A4 st'.T.length c4, .int .i64 (st'.p : Nat)] 24)).alloc (.cells #[.string s, .int .i64 (st'.a : Nat)] 26)).heap.size) := Lib.hid (by simp)
        clear hT' hD' HH4
        have HB_6 : Hid (Below w.heap.size w ((w7.alloc (.cells #[.slice A4 st'.T.length c4, .int .i64 (st'.p : Nat)] 24)).alloc (.cells #[.string s, .int .i64 (st'.a : Nat)] 26))) := Lib.hid (HB_5.out.trans (hbn.mono HB_5.out.size))
        have V_6 := Lib.hid (V_5.out.on hbn)
        have C_6 := Lib.hid (C_5.out.on hbn)
        clear HB_5 V_5 C_5 hbn
        go_upto_region 16 with (fail)
        generalize (w7.alloc (.cells #[.slice A4 st'.T.length c4, .int .i64 (st'.p : Nat)] 24)).alloc (.cells #[.string s, .int .i64 (st'.a : Nat)] 26) = w8 at *
        generalize w7.heap.size = g1 at *
        have HLR : Hid (Has w8 0 w.heap.size A' l) := Lib.hid (HX0.out.on HB_6.out (Nat.le_refl _))
        obtain ⟨ad', rfl, _, _, hcq⟩ := HLR.out K hKl
        rw [← HYK.out] at hcq
        have q0 : (0 : Int) ≤ (K : Int) := by omega
        have q1 : (K : Int) < (l.length : Int) := by omega
        have g1' : (y == yk) = false := by rw [beq_eq_false_iff_ne]; exact HWY.out
        have g2' : ¬ y = yk := HWY.out
        go_upto_region 18 with (fail)
        clear hcq HLR
        obtain ⟨A5, c5, hT5, hD5, _⟩ := V_6.out
        have HT5 := Lib.hid hT5
        have HD5 := Lib.hid hD5
        clear hT5 hD5
        obtain ⟨t0, t1, tf0, tf1⟩ := HT5.out
        obtain ⟨y0, y1, yf0, yf1⟩ := HD5.out
        obtain ⟨e0', e1', _, _⟩ := HT'.out
        obtain ⟨d0, d1, _, _⟩ := HD'.out
        have n0 := hz7.out
        have n1 : ¬ g1 = gx := by omega
        have n2 : ¬ g1 + 1 = gx := by omega
        have n3 : ¬ g1 = gy := by omega
        have n4 : ¬ g1 + 1 = gy := by omega
        have n5 : ¬ gx = gy := hxy
        have n6 : ¬ gy = gx := fun h => hxy h.symm
        go_region
        go_wp2_with fail
        go_roundw
        case rel => exact ⟨k + 1, by go_num, by omega, Lib.hid (by rw [← HS'.out]; exact Sv.four HT5.out HD5.out hxy A4 c4 HH5.out), Lib.hid (C_6.out.four (.inl rfl) (.inr rfl) _ _ _ _), Lib.hid (below_four HB_6.out hgx hgy _ _ _ _)⟩
        case measure => simp [intOf]; omega
      obtain rfl : k = M := by omega
      have e1 : decide ((k : Int) < (cm : Int) % 9) = false := decide_eq_false (by have := HM.out; omega)
      have e2 : decide (k < cm % 9) = false := decide_eq_false (by rw [← HM.out]; omega)
      obtain ⟨wE, hwE⟩ : ∃ wE, wE = wr := ⟨_, rfl⟩
      subst hwE
      have hkl := Lib.hid (hokl.out _ (hok.out k))
      have hea := Lib.hid (HEA.out _ (hok.out k))
      generalize run s.data.toList ls k ⟨T, P, b⟩ = st2 at *
      clear hok hokl HEA HWN HLS2 h7
      go_upto_region 20 with (fail)
      go_loopw [16] (fun i wr => ∃ j : Nat, i = .int .i64 j ∧ j ≤ 2 * l.length - 1 ∧ Hid (yk ∉ asked s.data.toList l st2 j) ∧ Hid (Sv wr gx gy s (fun _ => False) (run s.data.toList l j st2)) ∧ Hid (Below w.heap.size w wr)) (fun i _ => 2 * l.length - 1 - (intOf i).toNat)
      case atStart => exact ⟨0, rfl, Nat.zero_le _, Lib.hid (by simp [asked]), hv, hb⟩
      case round =>
        clear hv hb e1 e2
        obtain ⟨j, rfl, hj, hno, hv, hb⟩ := hrel
        by_cases hjt : j < 2 * l.length - 1
        rotate_left
        · obtain rfl : j = 2 * l.length - 1 := by omega
          exact absurd hea.out hno.out
        have e1 : decide ((j : Int) < 2 * (l.length : Int) - 1) = true := decide_eq_true (by omega)
        have e2 : decide (j < 2 * l.length - 1) = true := decide_eq_true hjt
        have hst := hkl.out j
        have HNN := Lib.hid (fun h => asked_snoc_not (L := s.data.toList) (l := l) (s := st2) (k := j) (y := yk) hno.out h)
        have hng : Hid ((2 : Nat) = 2) := Lib.hid rfl
        have HKN := Lib.hid (fun W A3 c3 lo hi => HLL.out W _ A3 c3 lo hi hst)
        have HWY := Lib.hid (fun h => HNN.out h)
        obtain ⟨st', hst'⟩ : ∃ st', st' = stp s.data.toList l (run s.data.toList l j st2) := ⟨_, rfl⟩
        rw [← hst'] at HKN
        have HS' : Hid (st' = run s.data.toList l (j + 1) st2) := Lib.hid hst'
        obtain ⟨y, hy⟩ : ∃ y, y = who s.data.toList l (run s.data.toList l j st2) := ⟨_, rfl⟩
        rw [← hy] at HKN HWY
        clear hst' hy
        generalize (run s.data.toList l j st2) = st at *
        obtain ⟨A3, c3, hT, hD, hC⟩ := hv.out
        obtain ⟨t0, t1, tf0, tf1⟩ := hT
        obtain ⟨y0, y1, yf0, yf1⟩ := hD
        obtain ⟨lo, hi, hC1, _, hC3⟩ := hC
        have hgt := hv.out.lt
        go_wp2_with fail
        refine (HKN.out wr A3 c3 lo hi hC3 hC1 (HX0.out.on hb.out (Nat.le_refl _)) hb.out.size).mono ?_
        rintro e w7 ⟨A4, c4, rfl, hh4, hb7⟩
        have HH4 : Hid (Clear w7 (fun j => j = gx ∨ j = gy ∨ False) A4 st'.T) := Lib.hid (hh4.clear (Nat.le_refl _) (fun j hj => .inl (by rcases hj with h | h | h <;> (first | omega | exact h.elim))))
        clear t0 t1 tf0 tf1 y0 y1 yf0 yf1 hC1 hC3 HKN hh4
        have hz7 := Lib.hid hb7.size
        have HB_5 : Hid (Below w.heap.size w w7) := Lib.hid (hb.out.trans (hb7.mono hb.out.size))
        have V_5 := Lib.hid (hv.out.on hb7)
        clear hb hv hb7
        obtain ⟨hT', hD', hbn⟩ := boxes_new w7 (.slice A4 st'.T.length c4) (st'.p : Nat) s (st'.a : Nat)
        have HT' := Lib.hid hT'
        have HD' := Lib.hid hD'
        have HH5 := Lib.hid (HH4.out.on hbn)
        have hz8 : Hid (w7.heap.size + 1 < ((w7.alloc (.cells #[.slice A4 st'.T.length c4, .int .i64 (st'.p : Nat)] 24)).alloc (.cells #[.string s, .int .i64 (st'.a : Nat)] 26)).heap.size) := Lib.hid (by simp)
        clear hT' hD' HH4
        have HB_6 : Hid (Below w.heap.size w ((w7.alloc (.cells #[.slice A4 st'.T.length c4, .int .i64 (st'.p : Nat)] 24)).alloc (.cells #[.string s, .int .i64 (st'.a : Nat)] 26))) := Lib.hid (HB_5.out.trans (hbn.mono HB_5.out.size))
        have V_6 := Lib.hid (V_5.out.on hbn)
        clear HB_5 V_5 hbn
        go_upto_region 23 with (fail)
        generalize (w7.alloc (.cells #[.slice A4 st'.T.length c4, .int .i64 (st'.p : Nat)] 24)).alloc (.cells #[.string s, .int .i64 (st'.a : Nat)] 26) = w8 at *
        generalize w7.heap.size = g1 at *
        have HLR : Hid (Has w8 0 w.heap.size A' l) := Lib.hid (HX0.out.on HB_6.out (Nat.le_refl _))
        obtain ⟨ad', rfl, _, _, hcq⟩ := HLR.out K hKl
        rw [← HYK.out] at hcq
        have q0 : (0 : Int) ≤ (K : Int) := by omega
        have q1 : (K : Int) < (l.length : Int) := by omega
        by_cases hyy : y = yk
        · subst hyy
          have hyy : (y == y) = true := by simp
          go_wp2_with fail
          go_wp2_with fail
          refine (awake_any _).mono ?_
          rintro e wE ⟨rfl, hbE⟩
          have HE : Hid (Below w.heap.size w wE) := Lib.hid (HB_6.out.trans (hbE.mono HB_6.out.size))
          clear hbE
          go_wp2_with fail
          go_ret
          exact ⟨rfl, HE.out⟩
        have g1' : (y == yk) = false := by rw [beq_eq_false_iff_ne]; exact hyy
        go_upto_region 27 with (fail)
        clear hcq HLR
        obtain ⟨A5, c5, hT5, hD5, _⟩ := V_6.out
        have HT5 := Lib.hid hT5
        have HD5 := Lib.hid hD5
        clear hT5 hD5
        obtain ⟨t0, t1, tf0, tf1⟩ := HT5.out
        obtain ⟨y0, y1, yf0, yf1⟩ := HD5.out
        obtain ⟨e0', e1', _, _⟩ := HT'.out
        obtain ⟨d0, d1, _, _⟩ := HD'.out
        have n0 := hz7.out
        have n1 : ¬ g1 = gx := by omega
        have n2 : ¬ g1 + 1 = gx := by omega
        have n3 : ¬ g1 = gy := by omega
        have n4 : ¬ g1 + 1 = gy := by omega
        have n5 : ¬ gx = gy := hxy
        have n6 : ¬ gy = gx := fun h => hxy h.symm
        go_region
        go_wp2_with fail
        go_roundw
        case rel => exact ⟨j + 1, by go_num, by omega, Lib.hid (HWY.out hyy), Lib.hid (by rw [← HS'.out]; exact Sv.four HT5.out HD5.out hxy A4 c4 HH5.out), Lib.hid (below_four HB_6.out hgx hgy _ _ _ _)⟩
        case measure => simp [intOf]; omega

/-! ### the statement -/
theorem parOk : ∀ t ∈ (#[45] : Array TypeId).toList, Try.prog.readableRec t = true ∧ t < Try.prog.types.size := by
  have hall : ([45].all fun t => Try.prog.readableRec t && decide (t < Try.prog.types.size)) = true := by kernel_rfl
  intro t ht
  simpa using List.all_eq_true.1 hall t ht

set_option maxRecDepth 100000 in
/-- What the walk gives, for every argument. -/
theorem contract (H : Type) (enc : TypeId × Value → H) (W : World) (base : Nat) (args : Array Value) (ds gs : List (DataW H)) (before : List MemPlace)
    (hval : ∀ (j : Nat) t v, Try.f6.params[j]? = some t → args[j]? = some v → Value.okWide Try.prog W .any base t v)
    (hW : DataW.Whole enc Try.prog Try.f6.params.toList Rows.turnGoneSpec.vars false W args.toList ds gs before) :
    Calls Try.prog 6 args W fun e W' => ∃ v, e = .returned v ∧ Rows.turnGoneSpec.post enc Try.prog Try.f6 false true false false W args v W' := by
  have hW' := hW
  obtain ⟨p, q, hA0, hV, rfl, hfz, hnd⟩ := hW
  have hA : DataW.TrodAll enc Try.prog W 0 (fun _ => true) true Try.f6.params.toList args.toList ds p := hA0
  rw [Try.params6] at hA hval
  obtain ⟨v0, vs0, d0, ds0, p0, q0, hargs, rfl, rfl, h0, r0⟩ := trodAll_cons hA
  obtain ⟨rfl, rfl, rfl⟩ := trodAll_nil r0
  obtain rfl : args = #[v0] := by cases args; simp_all
  obtain ⟨rfl, rfl⟩ := trodVars_none hV
  obtain ⟨A, c, T, q, s, a, A', c', l, gm, cm, rfl, htc, hcm, hT, hs, hlc, hcm', hl, hgm, hcn⟩ := open_gone (hval 0 45 v0 rfl rfl) h0
  obtain ⟨gn, rfl⟩ := Int.eq_ofNat_of_zero_le hgm.1
  obtain ⟨cn, rfl⟩ := Int.eq_ofNat_of_zero_le hcn.1
  clear hA0
  refine (walk A c T q s a A' c' l gn cn W htc hcm hT hs hlc hcm' hl (by omega) (by omega)).mono fun e W' ⟨he, hb⟩ => ?_
  subst he
  exact ⟨_, rfl, law_post rfl (by rw [Try.params6]; exact parOk) rfl hW' rfl rfl rfl hb⟩

set_option maxRecDepth 100000 in
theorem lifted (os : Os) (started : os.Started) (H : Type) (enc : TypeId × Value → H) :
    ReturnsInHanded {} Try.checked os 6 .any (Rows.turnGoneSpec.pre6 enc Try.prog Try.f6 Rows.turnGoneRow.domain false) (Rows.turnGoneSpec.post enc Try.prog Try.f6 false true false false) := by
  refine returnsInHanded_of_change (C := Try.checked) own started (by kernel_rfl) Try.func6
    (ChangeSpec.witness6 (enc := enc) (C := Try.checked) false ⟨#[], #[.agg #[.slice none 0 0, .int .i64 0, .string ⟨#[]⟩, .int .i64 0, .slice none 0 0, .int .u8 0, .int .u8 0]], []⟩ 8 (by kernel_rfl) (by kernel_rfl) (by kernel_rfl) (by kernel_rfl)) ?_
  intro W base args ds gs before hval hW _ _
  exact contract H enc W base args ds gs before hval hW

/-- THE STATEMENT. -/
theorem said : Rows.TurnGoneSaid :=
  OpenClaim.holds_of_wide 6 Try.f6 rfl rfl rfl rfl rfl rfl rfl ⟨rfl, rfl, rfl, rfl, rfl⟩ rfl rfl rfl rfl rfl (by kernel_rfl) Try.func6 (by kernel_rfl)
    (of_decide_eq_true (by kernel_rfl)) (by unfold Func.isWrapper; first | (rw [if_pos (by decide +kernel)]; kernel_rfl) | (rw [if_neg (by decide +kernel)]; exact ⟨rfl, rfl⟩))
    (fun os started H enc _ => lifted os started H enc)
end Go.Proofs.Ytphcmjhphoacgaa.lawGone
