/-
  The walk of Apply.
-/
import Derived.Test.YtmfpipcedblklaaSame
import Derived.Test.YtmfpipcedblklaaPlan
namespace Go.Proofs.Ytmfpipcedblklaa
open Go.Sort Go.RowKit Go.Proofs.Ytmfpipcedblklaa.Pure

section
variable {w w' : World} {p q r s t : Addr} {v1 v2 v3 v4 v5 : Value}
theorem cell_on (h : w.cell? p = some v1) (hb : Below w.heap.size w w') : w'.cell? p = some v1 := (hb.cell (World.block_lt_of_cell? w _ h)).trans h
theorem cell_set (h : w.cell? p = some v1) (g : Nat) (hg : p.block ≠ g) (u u' : Value) : ((w.setCell ⟨g, 0, none⟩ u).setCell ⟨g, 1, none⟩ u').cell? p = some v1 := by
  rw [World.cell?_setCell_other _ _ _ _ (fun e => hg (by rw [← e])), World.cell?_setCell_other _ _ _ _ (fun e => hg (by rw [← e]))]
  exact h
theorem four_on (h : w.cell? p = some v1 ∧ w.cell? q = some v2 ∧ w.cell? r = some v3 ∧ w.cell? s = some v4) (hb : Below w.heap.size w w') : w'.cell? p = some v1 ∧ w'.cell? q = some v2 ∧ w'.cell? r = some v3 ∧ w'.cell? s = some v4 :=
  ⟨cell_on h.1 hb, cell_on h.2.1 hb, cell_on h.2.2.1 hb, cell_on h.2.2.2 hb⟩
theorem four_set (h : w.cell? p = some v1 ∧ w.cell? q = some v2 ∧ w.cell? r = some v3 ∧ w.cell? s = some v4) (g : Nat) (hg : p.block ≠ g ∧ q.block ≠ g ∧ r.block ≠ g ∧ s.block ≠ g) (u u' : Value) :
    ((w.setCell ⟨g, 0, none⟩ u).setCell ⟨g, 1, none⟩ u').cell? p = some v1 ∧ ((w.setCell ⟨g, 0, none⟩ u).setCell ⟨g, 1, none⟩ u').cell? q = some v2 ∧ ((w.setCell ⟨g, 0, none⟩ u).setCell ⟨g, 1, none⟩ u').cell? r = some v3 ∧ ((w.setCell ⟨g, 0, none⟩ u).setCell ⟨g, 1, none⟩ u').cell? s = some v4 :=
  ⟨cell_set h.1 g hg.1 u u', cell_set h.2.1 g hg.2.1 u u', cell_set h.2.2.1 g hg.2.2.1 u u', cell_set h.2.2.2 g hg.2.2.2 u u'⟩
end

theorem cell_row {w : World} {p : Addr} {v1 : Value} (h : w.cell? p = some v1) (g : Nat) (hg : p.block ≠ g) (i : Nat) (u u' : Value) : ((w.setCell ⟨g, i, none⟩ u).setCell ⟨g, i + 1, none⟩ u').cell? p = some v1 := by
  rw [World.cell?_setCell_other _ _ _ _ (fun e => hg (by rw [← e])), World.cell?_setCell_other _ _ _ _ (fun e => hg (by rw [← e]))]
  exact h
/-- A call answers the table ys, whether it is another one, and an error. -/
def Turns (w : World) (ys : List Kn) (b : Bool) (er : Int) (e : Ending) (w' : World) : Prop :=
  ∃ A c, e = .returned (.tuple #[.slice A ys.length c, .bool b, .int .i64 er]) ∧ Lst w' A ys ∧ Below w.heap.size w w'
/-- A call answers the table ys, and an error. -/
def Gives (w : World) (ys : List Kn) (er : Int) (e : Ending) (w' : World) : Prop :=
  ∃ A c, e = .returned (.tuple #[.slice A ys.length c, .int .i64 er]) ∧ Lst w' A ys ∧ Below w.heap.size w w'

set_option maxRecDepth 100000 in
set_option maxHeartbeats 4000000 in
theorem app_bad (A : Option Addr) (c : Nat) (l : List Kn) (who : Int) (k : Kn) (w : World) (hn : l.length ≤ 1000) (h : Lst w A l) (hL : mayT l = false) :
    Calls Try.prog 12 #[.slice A l.length c, .int .i64 who, .agg #[.int .u64 k.i, .int .i64 k.s]] w (Turns w l false 1) := by
  have H := Lib.hid (h.alloc (.cells #[.int .u64 k.i, .int .i64 k.s] 25))
  have BK := Lib.hid (Bx.new w k 25)
  have HB : Hid (Below w.heap.size w (w.alloc (.cells #[.int .u64 k.i, .int .i64 k.s] 25))) := Lib.hid ((Below.refl _ _).alloc (Nat.le_refl _) _)
  have HCL : Hid (∀ W, Lst W A l → Calls Try.prog 34 #[.slice A l.length c] W fun e w' => ∃ v, e = .returned v ∧ Own w' W.heap.size v l ∧ Below W.heap.size W w') := Lib.hid fun W hW => clone_any A c l W hn hW
  have HK : Hid (∀ W, Lst W A l → Calls Try.prog 16 #[.slice A l.length c] W fun e w' => e = .returned (.int .i64 1) ∧ Below W.heap.size W w') := Lib.hid fun W hW => tcheck_any A c l W hn hW false hL
  clear h hL hn
  go_enter Try.func12, Try.ntmps12
  go_upto_region 1 with (fail)
  generalize w.alloc (.cells #[.int .u64 k.i, .int .i64 k.s] 25) = w2 at *
  have hz2 : w.heap.size < w2.heap.size := BK.out.lt
  go_wp2_with fail
  refine (HCL.out _ H.out).mono ?_
  rintro e w3 ⟨v3, rfl, ho3, hb3⟩
  have HO3 := Lib.hid ho3
  have H3 := Lib.hid (H.out.on hb3)
  have BK3 := Lib.hid (BK.out.on hb3)
  have HB3 : Hid (Below w.heap.size w w3) := Lib.hid (HB.out.trans (hb3.mono (by omega)))
  have HB3' : Hid (w2.heap.size ≤ w3.heap.size) := Lib.hid hb3.size
  clear hb3 ho3 H BK HB HCL
  go_wp2_with fail
  refine (HK.out _ H3.out).mono ?_
  rintro e w4 ⟨rfl, hb4⟩
  have HO4 := Lib.hid (HO3.out.on hb4)
  have H4 := Lib.hid (H3.out.on hb4)
  have BK4 := Lib.hid (BK3.out.on hb4)
  have HB4 : Hid (Below w.heap.size w w4) := Lib.hid (HB3.out.trans (hb4.mono (by have := HB3'.out; omega)))
  have HB4' : Hid (w3.heap.size ≤ w4.heap.size) := Lib.hid hb4.size
  clear hb4 HO3 H3 BK3 HB3 HK
  obtain ⟨A4, c4, rfl, _, hl4⟩ := HO4.out.lst
  have HL4 := Lib.hid hl4
  clear hl4
  go_wp2_with fail
  exact bodyPost_ret (v := .tuple #[.slice A4 l.length c4, .bool false, .int .i64 1]) (by simp [results, Try.results12, go_sem]) rfl ⟨A4, c4, rfl, HL4.out, HB4.out⟩

set_option maxRecDepth 100000 in
set_option maxHeartbeats 4000000 in
theorem app_less (A : Option Addr) (c : Nat) (l : List Kn) (who : Int) (k : Kn) (w : World) (hn : l.length ≤ 1000) (h : Lst w A l) (hL : mayT l = true) (hw : who < 0) :
    Calls Try.prog 12 #[.slice A l.length c, .int .i64 who, .agg #[.int .u64 k.i, .int .i64 k.s]] w (Turns w l false 1) := by
  have H := Lib.hid (h.alloc (.cells #[.int .u64 k.i, .int .i64 k.s] 25))
  have BK := Lib.hid (Bx.new w k 25)
  have HB : Hid (Below w.heap.size w (w.alloc (.cells #[.int .u64 k.i, .int .i64 k.s] 25))) := Lib.hid ((Below.refl _ _).alloc (Nat.le_refl _) _)
  have HCL : Hid (∀ W, Lst W A l → Calls Try.prog 34 #[.slice A l.length c] W fun e w' => ∃ v, e = .returned v ∧ Own w' W.heap.size v l ∧ Below W.heap.size W w') := Lib.hid fun W hW => clone_any A c l W hn hW
  have HK : Hid (∀ W, Lst W A l → Calls Try.prog 16 #[.slice A l.length c] W fun e w' => e = .returned (.int .i64 0) ∧ Below W.heap.size W w') := Lib.hid fun W hW => tcheck_any A c l W hn hW true hL
  have d0 : decide (who < 0) = true := by simpa using hw
  clear h hL hn hw
  go_enter Try.func12, Try.ntmps12
  go_upto_region 1 with (fail)
  generalize w.alloc (.cells #[.int .u64 k.i, .int .i64 k.s] 25) = w2 at *
  have hz2 : w.heap.size < w2.heap.size := BK.out.lt
  go_wp2_with fail
  refine (HCL.out _ H.out).mono ?_
  rintro e w3 ⟨v3, rfl, ho3, hb3⟩
  have HO3 := Lib.hid ho3
  have H3 := Lib.hid (H.out.on hb3)
  have BK3 := Lib.hid (BK.out.on hb3)
  have HB3 : Hid (Below w.heap.size w w3) := Lib.hid (HB.out.trans (hb3.mono (by omega)))
  have HB3' : Hid (w2.heap.size ≤ w3.heap.size) := Lib.hid hb3.size
  clear hb3 ho3 H BK HB HCL
  go_wp2_with fail
  refine (HK.out _ H3.out).mono ?_
  rintro e w4 ⟨rfl, hb4⟩
  have HO4 := Lib.hid (HO3.out.on hb4)
  have H4 := Lib.hid (H3.out.on hb4)
  have BK4 := Lib.hid (BK3.out.on hb4)
  have HB4 : Hid (Below w.heap.size w w4) := Lib.hid (HB3.out.trans (hb4.mono (by have := HB3'.out; omega)))
  have HB4' : Hid (w3.heap.size ≤ w4.heap.size) := Lib.hid hb4.size
  clear hb4 HO3 H3 BK3 HB3 HK
  obtain ⟨A4, c4, rfl, _, hl4⟩ := HO4.out.lst
  have HL4 := Lib.hid hl4
  clear hl4
  go_wp2_with fail
  exact bodyPost_ret (v := .tuple #[.slice A4 l.length c4, .bool false, .int .i64 1]) (by simp [results, Try.results12, go_sem]) rfl ⟨A4, c4, rfl, HL4.out, HB4.out⟩

set_option maxRecDepth 100000 in
set_option maxHeartbeats 4000000 in
theorem app_more (A : Option Addr) (c : Nat) (l : List Kn) (who : Int) (k : Kn) (w : World) (hn : l.length ≤ 1000) (h : Lst w A l) (hL : mayT l = true) (hw : (l.length : Int) ≤ who) :
    Calls Try.prog 12 #[.slice A l.length c, .int .i64 who, .agg #[.int .u64 k.i, .int .i64 k.s]] w (Turns w l false 1) := by
  have H := Lib.hid (h.alloc (.cells #[.int .u64 k.i, .int .i64 k.s] 25))
  have BK := Lib.hid (Bx.new w k 25)
  have HB : Hid (Below w.heap.size w (w.alloc (.cells #[.int .u64 k.i, .int .i64 k.s] 25))) := Lib.hid ((Below.refl _ _).alloc (Nat.le_refl _) _)
  have HCL : Hid (∀ W, Lst W A l → Calls Try.prog 34 #[.slice A l.length c] W fun e w' => ∃ v, e = .returned v ∧ Own w' W.heap.size v l ∧ Below W.heap.size W w') := Lib.hid fun W hW => clone_any A c l W hn hW
  have HK : Hid (∀ W, Lst W A l → Calls Try.prog 16 #[.slice A l.length c] W fun e w' => e = .returned (.int .i64 0) ∧ Below W.heap.size W w') := Lib.hid fun W hW => tcheck_any A c l W hn hW true hL
  have d0 : decide (who < 0) = false := by simp; omega
  have d1 : decide ((l.length : Int) ≤ who) = true := by simpa using hw
  clear h hL hn hw
  go_enter Try.func12, Try.ntmps12
  go_upto_region 1 with (fail)
  generalize w.alloc (.cells #[.int .u64 k.i, .int .i64 k.s] 25) = w2 at *
  have hz2 : w.heap.size < w2.heap.size := BK.out.lt
  go_wp2_with fail
  refine (HCL.out _ H.out).mono ?_
  rintro e w3 ⟨v3, rfl, ho3, hb3⟩
  have HO3 := Lib.hid ho3
  have H3 := Lib.hid (H.out.on hb3)
  have BK3 := Lib.hid (BK.out.on hb3)
  have HB3 : Hid (Below w.heap.size w w3) := Lib.hid (HB.out.trans (hb3.mono (by omega)))
  have HB3' : Hid (w2.heap.size ≤ w3.heap.size) := Lib.hid hb3.size
  clear hb3 ho3 H BK HB HCL
  go_wp2_with fail
  refine (HK.out _ H3.out).mono ?_
  rintro e w4 ⟨rfl, hb4⟩
  have HO4 := Lib.hid (HO3.out.on hb4)
  have H4 := Lib.hid (H3.out.on hb4)
  have BK4 := Lib.hid (BK3.out.on hb4)
  have HB4 : Hid (Below w.heap.size w w4) := Lib.hid (HB3.out.trans (hb4.mono (by have := HB3'.out; omega)))
  have HB4' : Hid (w3.heap.size ≤ w4.heap.size) := Lib.hid hb4.size
  clear hb4 HO3 H3 BK3 HB3 HK
  obtain ⟨A4, c4, rfl, _, hl4⟩ := HO4.out.lst
  have HL4 := Lib.hid hl4
  clear hl4
  go_wp2_with fail
  exact bodyPost_ret (v := .tuple #[.slice A4 l.length c4, .bool false, .int .i64 1]) (by simp [results, Try.results12, go_sem]) rfl ⟨A4, c4, rfl, HL4.out, HB4.out⟩

set_option maxRecDepth 100000 in
set_option maxHeartbeats 4000000 in
theorem app_join (A : Option Addr) (c : Nat) (l : List Kn) (who : Nat) (k M : Kn) (er : Int) (w : World) (hn : l.length ≤ 1000) (h : Lst w A l) (hL : mayT l = true) (hw : who < l.length) (Y : Ending → World → Prop)
    (HJ : Hid (∀ (W : World) (g : Nat), Lst W (some ⟨g, 0, none⟩) [kn l who, k] → Calls Try.prog 35 #[.slice (some ⟨g, 0, none⟩) 2 2] W fun e w' => e = .returned (.tuple #[.agg #[.int .u64 M.i, .int .i64 M.s], .int .i64 er]) ∧ Below W.heap.size W w'))
    (hY : er = 1 ∧ (∀ e w', Turns w l false 1 e w' → Y e w') ∨ er = 0 ∧ (∀ e w', Turns w (l.set who M) (!decide (M = kn l who)) 0 e w' → Y e w')) :
    Calls Try.prog 12 #[.slice A l.length c, .int .i64 (who : Int), .agg #[.int .u64 k.i, .int .i64 k.s]] w Y := by
  have H := Lib.hid (h.alloc (.cells #[.int .u64 k.i, .int .i64 k.s] 25))
  have BK := Lib.hid (Bx.new w k 25)
  have HB : Hid (Below w.heap.size w (w.alloc (.cells #[.int .u64 k.i, .int .i64 k.s] 25))) := Lib.hid ((Below.refl _ _).alloc (Nat.le_refl _) _)
  have HCL : Hid (∀ W, Lst W A l → Calls Try.prog 34 #[.slice A l.length c] W fun e w' => ∃ v, e = .returned v ∧ Own w' W.heap.size v l ∧ Below W.heap.size W w') := Lib.hid fun W hW => clone_any A c l W hn hW
  have HK : Hid (∀ W, Lst W A l → Calls Try.prog 16 #[.slice A l.length c] W fun e w' => e = .returned (.int .i64 0) ∧ Below W.heap.size W w') := Lib.hid fun W hW => tcheck_any A c l W hn hW true hL
  have HY := Lib.hid hY
  have Had : Hid (∀ ad, A = some ad → ad.block < w.heap.size) := Lib.hid fun ad e => by
    obtain ⟨ad', e', h1, _⟩ := h who hw
    rw [e] at e'
    cases e'
    exact h1
  have HN := Lib.hid hn
  have k0 : (0 : Int) ≤ (who : Int) := by omega
  have k1 : (who : Int) < (l.length : Int) := by omega
  have d0 : decide ((who : Int) < 0) = false := by simp
  have d1 : decide ((l.length : Int) ≤ (who : Int)) = false := by simp; omega
  clear h hL hn hY
  go_enter Try.func12, Try.ntmps12
  go_upto_region 1 with (fail)
  generalize w.alloc (.cells #[.int .u64 k.i, .int .i64 k.s] 25) = w2 at *
  have hz2 : w.heap.size < w2.heap.size := BK.out.lt
  go_wp2_with fail
  refine (HCL.out _ H.out).mono ?_
  rintro e w3 ⟨v3, rfl, ho3, hb3⟩
  have HO3 := Lib.hid ho3
  have H3 := Lib.hid (H.out.on hb3)
  have BK3 := Lib.hid (BK.out.on hb3)
  have HB3 : Hid (Below w.heap.size w w3) := Lib.hid (HB.out.trans (hb3.mono (by omega)))
  have HB3' : Hid (w2.heap.size ≤ w3.heap.size) := Lib.hid hb3.size
  clear hb3 ho3 H BK HB HCL
  go_wp2_with fail
  refine (HK.out _ H3.out).mono ?_
  rintro e w4 ⟨rfl, hb4⟩
  have HO4 := Lib.hid (HO3.out.on hb4)
  have H4 := Lib.hid (H3.out.on hb4)
  have BK4 := Lib.hid (BK3.out.on hb4)
  have HB4 : Hid (Below w.heap.size w w4) := Lib.hid (HB3.out.trans (hb4.mono (by have := HB3'.out; omega)))
  have HB4' : Hid (w3.heap.size ≤ w4.heap.size) := Lib.hid hb4.size
  clear hb4 HO3 H3 BK3 HB3 HK
  obtain ⟨ad, rfl, hlo, h1⟩ := H4.out who hw
  obtain ⟨a0, a1⟩ := h1.flat
  obtain ⟨u0, u1⟩ := BK4.out
  have hu : w.heap.size < w4.heap.size := BK4.out.lt
  have bad : Hid ((ad.add (who * 2)).block < w4.heap.size) := Lib.hid (by rw [block_add]; exact hlo)
  clear h1
  obtain ⟨y, hy⟩ : ∃ y, y = kn l who := ⟨_, rfl⟩
  rw [← hy] at HJ a0 a1 HY
  have Hy := Lib.hid hy
  clear hy
  go_upto_region 7 with (fail)
  go_cut [11, 12] (fun s9 s10 wx => ∃ g, s9 = .pointer (some ⟨g, 0, none⟩) ∧ s10 = .int .i64 er ∧ w4.heap.size ≤ g ∧ Hid (Vr wx g M) ∧ Hid (Below w4.heap.size w4 wx))
  case first =>
    have hgb : Hid ((ad.add (who * 2)).block < w4.heap.size) := bad
    refine p_enter (.take 0 (.take 1 (.take 2 (.take 3 (.take 4 (.two 5 (.two 6 (.take 7 (.take 8 (.take 9 (.one 10 (.one 11 (.take 12 .done)))))) 10 (.one 6 (.take 7 (.take 8 (.take 9 (.one 11 (.take 12 .done))))))) 10 (.one 5 (.one 6 (.take 7 (.take 8 (.take 9 (.one 11 (.take 12 .done))))))))))))) (fun w' => w'.cell? (ad.add (who * 2)) = some (.int .u64 y.i) ∧ w'.cell? ⟨(ad.add (who * 2)).block, (ad.add (who * 2)).off + 1, none⟩ = some (.int .i64 y.s) ∧ w'.cell? ⟨w.heap.size, 0, none⟩ = some (.int .u64 k.i) ∧ w'.cell? ⟨w.heap.size, 1, none⟩ = some (.int .i64 k.s)) (by kernel_rfl) (by kernel_rfl) (by kernel_rfl) (fun _ _ d _ _ h => by cases d <;> exact h) ⟨a0, a1, u0, u1⟩ ?_
    simp only [pickP, opAt, List.drop_succ_cons, List.drop_zero]
    have hB_0 := Lib.hid ((Below.refl w4.heap.size w4).drew)
    have hS_0 : Hid (_ ∧ _) := Lib.hid (four_on ⟨a0, a1, u0, u1⟩ (Below.refl w4.heap.size w4).drew)
    have hz_0 : w4.heap.size ≤ w4.drew.heap.size := hB_0.out.size
    generalize w4.drew = wd at *
    clear a0 a1 u0 u1
    iterate 5 (first | (refine' p_yes ?_ (by rfl) ?_ ?_; rotate_left; (intro w' hS; (try dsimp only at hS); go_simp; try (with_reducible rfl)); simp only [Act.put, List.setIfInBounds_toArray, List.set_cons_zero, List.set_cons_succ]) | (refine p_no (by rfl) ?_; simp only [Act.put, List.setIfInBounds_toArray, List.set_cons_zero, List.set_cons_succ]))
    refine p_two ?_ ?_
    · intro KK hK
      go_simp
      have hbx : Below wd.heap.size wd (wd.alloc (.cells #[.int .u64 y.i, .int .i64 y.s, .int .u64 k.i, .int .i64 k.s] 25)) := (Below.refl _ _).alloc (Nat.le_refl _) _
      have hB_1 := Lib.hid (hB_0.out.trans (hbx.mono hz_0))
      have hS_1 : Hid (_ ∧ _) := Lib.hid (four_on hS_0.out hbx)
      have hz_1 : w4.heap.size ≤ (wd.alloc (.cells #[.int .u64 y.i, .int .i64 y.s, .int .u64 k.i, .int .i64 k.s] 25)).heap.size := hB_1.out.size
      have hL := Lib.hid (Lst.two wd y k 25)
      clear hB_0 hS_0 hz_0
      generalize wd.alloc (.cells #[.int .u64 y.i, .int .i64 y.s, .int .u64 k.i, .int .i64 k.s] 25) = wb at *
      clear hbx
      refine hK.out _ _ hS_1.out ?_
      clear hK
      refine p_two ?_ ?_
      · intro KK hK
        go_simp
        refine (HJ.out _ _ hL.out).mono ?_
        rintro e wc' ⟨rfl, hbx⟩
        have hB_2 := Lib.hid (hB_1.out.trans (hbx.mono hz_1))
        have hS_2 : Hid (_ ∧ _) := Lib.hid (four_on hS_1.out hbx)
        have hz_2 : w4.heap.size ≤ wc'.heap.size := hB_2.out.size
        clear hB_1 hS_1 hz_1
        clear hbx hL
        refine hK.out _ _ hS_2.out ?_
        clear hK
        iterate 3 (first | (refine' p_yes ?_ (by rfl) ?_ ?_; rotate_left; (intro w' hS; (try dsimp only at hS); go_simp; try (with_reducible rfl)); simp only [Act.put, List.setIfInBounds_toArray, List.set_cons_zero, List.set_cons_succ]) | (refine p_no (by rfl) ?_; simp only [Act.put, List.setIfInBounds_toArray, List.set_cons_zero, List.set_cons_succ]))
        refine p_one ?_
        intro KK hK
        go_simp
        have hbx : Below wc'.heap.size wc' (wc'.alloc (.cells #[.int .u64 0, .int .i64 0] 25)) := (Below.refl _ _).alloc (Nat.le_refl _) _
        have hB_3 := Lib.hid (hB_2.out.trans (hbx.mono hz_2))
        have hS_3 : Hid (_ ∧ _) := Lib.hid (four_on hS_2.out hbx)
        have hz_3 : w4.heap.size ≤ (wc'.alloc (.cells #[.int .u64 0, .int .i64 0] 25)).heap.size := hB_3.out.size
        have hV := Lib.hid (Vr.zero (w := wc') rfl 25)
        have hgz : w4.heap.size ≤ wc'.heap.size := hz_2
        clear hB_2 hS_2 hz_2
        generalize wc'.alloc (.cells #[.int .u64 0, .int .i64 0] 25) = we at *
        generalize wc'.heap.size = g at *
        clear hbx
        refine hK.out _ _ hS_3.out ?_
        clear hK
        refine p_one ?_
        intro KK hK
        obtain ⟨⟨g0, g1⟩, gf⟩ := hV.out
        simp only [show z0.i = 0 from rfl, show z0.s = 0 from rfl] at g0 g1
        have gf0 := gf 0
        have gf1 := gf 1
        go_simp
        have hV2 := Lib.hid (hV.out.set M)
        have hB2 := Lib.hid ((hB_3.out.setCell (p := ⟨g, 0, none⟩) hgz (.int .u64 M.i)).setCell (p := ⟨g, 1, none⟩) hgz (.int .i64 M.s))
        have hS2 : Hid (_ ∧ _) := Lib.hid (four_set hS_3.out g ⟨by have := bad.out; omega, by have := bad.out; show (ad.add (who * 2)).block ≠ g; omega, by show w.heap.size ≠ g; omega, by show w.heap.size ≠ g; omega⟩ (.int .u64 M.i) (.int .i64 M.s))
        refine hK.out _ _ hS2.out ?_
        clear hK
        iterate 1 (first | (refine' p_yes ?_ (by rfl) ?_ ?_; rotate_left; (intro w' hS; (try dsimp only at hS); go_simp; try (with_reducible rfl)); simp only [Act.put, List.setIfInBounds_toArray, List.set_cons_zero, List.set_cons_succ]) | (refine p_no (by rfl) ?_; simp only [Act.put, List.setIfInBounds_toArray, List.set_cons_zero, List.set_cons_succ]))
        refine p_done ?_
        go_wp2_with fail
        go_meet
        exact ⟨g, rfl, rfl, hgz, hV2, hB2⟩
      · intro KK hK
        go_simp
        have hbx : Below wb.heap.size wb (wb.alloc (.cells #[.int .u64 0, .int .i64 0] 25)) := (Below.refl _ _).alloc (Nat.le_refl _) _
        have hB_2 := Lib.hid (hB_1.out.trans (hbx.mono hz_1))
        have hS_2 : Hid (_ ∧ _) := Lib.hid (four_on hS_1.out hbx)
        have hz_2 : w4.heap.size ≤ (wb.alloc (.cells #[.int .u64 0, .int .i64 0] 25)).heap.size := hB_2.out.size
        have hV := Lib.hid (Vr.zero (w := wb) rfl 25)
        have hgz : w4.heap.size ≤ wb.heap.size := hz_1
        have hL' := Lib.hid (hL.out.on hbx)
        clear hL
        have hL := hL'
        clear hL'
        clear hB_1 hS_1 hz_1
        generalize wb.alloc (.cells #[.int .u64 0, .int .i64 0] 25) = wc' at *
        generalize wb.heap.size = g at *
        clear hbx
        refine hK.out _ _ hS_2.out ?_
        clear hK
        refine p_one ?_
        intro KK hK
        go_simp
        refine (HJ.out _ _ hL.out).mono ?_
        rintro e we ⟨rfl, hbx⟩
        have hB_3 := Lib.hid (hB_2.out.trans (hbx.mono hz_2))
        have hS_3 : Hid (_ ∧ _) := Lib.hid (four_on hS_2.out hbx)
        have hz_3 : w4.heap.size ≤ we.heap.size := hB_3.out.size
        have hV' := Lib.hid (hV.out.on hbx)
        clear hV
        have hV := hV'
        clear hV'
        clear hB_2 hS_2 hz_2
        clear hbx hL
        refine hK.out _ _ hS_3.out ?_
        clear hK
        iterate 3 (first | (refine' p_yes ?_ (by rfl) ?_ ?_; rotate_left; (intro w' hS; (try dsimp only at hS); go_simp; try (with_reducible rfl)); simp only [Act.put, List.setIfInBounds_toArray, List.set_cons_zero, List.set_cons_succ]) | (refine p_no (by rfl) ?_; simp only [Act.put, List.setIfInBounds_toArray, List.set_cons_zero, List.set_cons_succ]))
        refine p_one ?_
        intro KK hK
        obtain ⟨⟨g0, g1⟩, gf⟩ := hV.out
        simp only [show z0.i = 0 from rfl, show z0.s = 0 from rfl] at g0 g1
        have gf0 := gf 0
        have gf1 := gf 1
        go_simp
        have hV2 := Lib.hid (hV.out.set M)
        have hB2 := Lib.hid ((hB_3.out.setCell (p := ⟨g, 0, none⟩) hgz (.int .u64 M.i)).setCell (p := ⟨g, 1, none⟩) hgz (.int .i64 M.s))
        have hS2 : Hid (_ ∧ _) := Lib.hid (four_set hS_3.out g ⟨by have := bad.out; omega, by have := bad.out; show (ad.add (who * 2)).block ≠ g; omega, by show w.heap.size ≠ g; omega, by show w.heap.size ≠ g; omega⟩ (.int .u64 M.i) (.int .i64 M.s))
        refine hK.out _ _ hS2.out ?_
        clear hK
        iterate 1 (first | (refine' p_yes ?_ (by rfl) ?_ ?_; rotate_left; (intro w' hS; (try dsimp only at hS); go_simp; try (with_reducible rfl)); simp only [Act.put, List.setIfInBounds_toArray, List.set_cons_zero, List.set_cons_succ]) | (refine p_no (by rfl) ?_; simp only [Act.put, List.setIfInBounds_toArray, List.set_cons_zero, List.set_cons_succ]))
        refine p_done ?_
        go_wp2_with fail
        go_meet
        exact ⟨g, rfl, rfl, hgz, hV2, hB2⟩
    · intro KK hK
      go_simp
      have hbx : Below wd.heap.size wd (wd.alloc (.cells #[.int .u64 0, .int .i64 0] 25)) := (Below.refl _ _).alloc (Nat.le_refl _) _
      have hB_1 := Lib.hid (hB_0.out.trans (hbx.mono hz_0))
      have hS_1 : Hid (_ ∧ _) := Lib.hid (four_on hS_0.out hbx)
      have hz_1 : w4.heap.size ≤ (wd.alloc (.cells #[.int .u64 0, .int .i64 0] 25)).heap.size := hB_1.out.size
      have hV := Lib.hid (Vr.zero (w := wd) rfl 25)
      have hgz : w4.heap.size ≤ wd.heap.size := hz_0
      clear hB_0 hS_0 hz_0
      generalize wd.alloc (.cells #[.int .u64 0, .int .i64 0] 25) = wb at *
      generalize wd.heap.size = g at *
      clear hbx
      refine hK.out _ _ hS_1.out ?_
      clear hK
      refine p_one ?_
      intro KK hK
      go_simp
      have hbx : Below wb.heap.size wb (wb.alloc (.cells #[.int .u64 y.i, .int .i64 y.s, .int .u64 k.i, .int .i64 k.s] 25)) := (Below.refl _ _).alloc (Nat.le_refl _) _
      have hB_2 := Lib.hid (hB_1.out.trans (hbx.mono hz_1))
      have hS_2 : Hid (_ ∧ _) := Lib.hid (four_on hS_1.out hbx)
      have hz_2 : w4.heap.size ≤ (wb.alloc (.cells #[.int .u64 y.i, .int .i64 y.s, .int .u64 k.i, .int .i64 k.s] 25)).heap.size := hB_2.out.size
      have hL := Lib.hid (Lst.two wb y k 25)
      have hV' := Lib.hid (hV.out.on hbx)
      clear hV
      have hV := hV'
      clear hV'
      clear hB_1 hS_1 hz_1
      generalize wb.alloc (.cells #[.int .u64 y.i, .int .i64 y.s, .int .u64 k.i, .int .i64 k.s] 25) = wc' at *
      clear hbx
      refine hK.out _ _ hS_2.out ?_
      clear hK
      refine p_one ?_
      intro KK hK
      go_simp
      refine (HJ.out _ _ hL.out).mono ?_
      rintro e we ⟨rfl, hbx⟩
      have hB_3 := Lib.hid (hB_2.out.trans (hbx.mono hz_2))
      have hS_3 : Hid (_ ∧ _) := Lib.hid (four_on hS_2.out hbx)
      have hz_3 : w4.heap.size ≤ we.heap.size := hB_3.out.size
      have hV' := Lib.hid (hV.out.on hbx)
      clear hV
      have hV := hV'
      clear hV'
      clear hB_2 hS_2 hz_2
      clear hbx hL
      refine hK.out _ _ hS_3.out ?_
      clear hK
      iterate 3 (first | (refine' p_yes ?_ (by rfl) ?_ ?_; rotate_left; (intro w' hS; (try dsimp only at hS); go_simp; try (with_reducible rfl)); simp only [Act.put, List.setIfInBounds_toArray, List.set_cons_zero, List.set_cons_succ]) | (refine p_no (by rfl) ?_; simp only [Act.put, List.setIfInBounds_toArray, List.set_cons_zero, List.set_cons_succ]))
      refine p_one ?_
      intro KK hK
      obtain ⟨⟨g0, g1⟩, gf⟩ := hV.out
      simp only [show z0.i = 0 from rfl, show z0.s = 0 from rfl] at g0 g1
      have gf0 := gf 0
      have gf1 := gf 1
      go_simp
      have hV2 := Lib.hid (hV.out.set M)
      have hB2 := Lib.hid ((hB_3.out.setCell (p := ⟨g, 0, none⟩) hgz (.int .u64 M.i)).setCell (p := ⟨g, 1, none⟩) hgz (.int .i64 M.s))
      have hS2 : Hid (_ ∧ _) := Lib.hid (four_set hS_3.out g ⟨by have := bad.out; omega, by have := bad.out; show (ad.add (who * 2)).block ≠ g; omega, by show w.heap.size ≠ g; omega, by show w.heap.size ≠ g; omega⟩ (.int .u64 M.i) (.int .i64 M.s))
      refine hK.out _ _ hS2.out ?_
      clear hK
      iterate 1 (first | (refine' p_yes ?_ (by rfl) ?_ ?_; rotate_left; (intro w' hS; (try dsimp only at hS); go_simp; try (with_reducible rfl)); simp only [Act.put, List.setIfInBounds_toArray, List.set_cons_zero, List.set_cons_succ]) | (refine p_no (by rfl) ?_; simp only [Act.put, List.setIfInBounds_toArray, List.set_cons_zero, List.set_cons_succ]))
      refine p_done ?_
      go_wp2_with fail
      go_meet
      exact ⟨g, rfl, rfl, hgz, hV2, hB2⟩
  case rest =>
    obtain ⟨g, rfl, rfl, hg, HV, HC⟩ := hcut
    have HB5 : Hid (Below w.heap.size w _) := Lib.hid (HB4.out.trans (HC.out.mono HB4.out.size))
    have HO5 := Lib.hid (HO4.out.on HC.out)
    have HO4' := Lib.hid (fun k hk => (HO4.out.ge k hk).2)
    have H5 := Lib.hid (H4.out.on HC.out)
    clear a0 a1 u0 u1 HC HO4 H4 BK4
    rcases HY.out with ⟨rfl, hY⟩ | ⟨rfl, hY⟩
    · have HY' := Lib.hid hY
      clear hY HY
      obtain ⟨A5, c5, rfl, _, hl5⟩ := HO5.out.lst
      have HL5 := Lib.hid hl5
      clear hl5
      go_wp2_with fail
      exact bodyPost_ret (v := .tuple #[.slice A5 l.length c5, .bool false, .int .i64 1]) (by simp [results, Try.results12, go_sem]) rfl (HY'.out _ _ ⟨A5, c5, rfl, HL5.out, HB5.out⟩)
    · have HY' := Lib.hid hY
      clear hY HY
      have hgw := Lib.hid (Had.out ad rfl)
      have hv3 := HO4'.out
      obtain ⟨gt, ct, rfl, hgt, hgts, hfr, hcells⟩ := HO5.out.opened (by omega)
      have hgt4 : gt < w4.heap.size := hv3 gt rfl
      have f0 := hfr (who * 2)
      have f1 := hfr (who * 2 + 1)
      obtain ⟨c0, c1⟩ := hcells who hw
      obtain ⟨⟨m0, m1⟩, _⟩ := HV.out
      obtain ⟨ad', e', hlo5, h5⟩ := H5.out who hw
      cases e'
      obtain ⟨a0, a1⟩ := h5.flat
      rw [← Hy.out] at a0 a1
      have HOs := Lib.hid (HO5.out.set (i := who) M)
      have HBs := Lib.hid ((HB5.out.setCell (p := ⟨gt, who * 2, none⟩) (by simp; omega) (.int .u64 M.i)).setCell (p := ⟨gt, who * 2 + 1, none⟩) (by simp; omega) (.int .i64 M.s))
      have n1 : ¬(ad.add (who * 2)).block = gt := by rw [block_add]; have := hgw.out; omega
      have n2 : ¬g = gt := by omega
      have set_a0 := cell_row a0 gt (by simpa using n1) (who * 2) (.int .u64 M.i) (.int .i64 M.s)
      have set_a1 := cell_row a1 gt (by simpa using n1) (who * 2) (.int .u64 M.i) (.int .i64 M.s)
      have set_m0 := cell_row m0 gt (by simpa using n2) (who * 2) (.int .u64 M.i) (.int .i64 M.s)
      have set_m1 := cell_row m1 gt (by simpa using n2) (who * 2) (.int .u64 M.i) (.int .i64 M.s)
      clear h5 hcells hfr hv3 HO4' a0 a1 H5 HO5
      go_upto_region 11 with (fail)
      generalize (World.setCell _ ⟨gt, who * 2, none⟩ (.int .u64 M.i)).setCell ⟨gt, who * 2 + 1, none⟩ (.int .i64 M.s) = w6 at *
      clear c0 c1 f0 f1 m0 m1 HV HB5
      have A0 := fun d os => cell_regrown set_a0 d os
      have A1 := fun d os => cell_regrown set_a1 d os
      have M0 := fun d os => cell_regrown set_m0 d os
      have M1 := fun d os => cell_regrown set_m1 d os
      clear set_a0 set_a1 set_m0 set_m1
      by_cases e1 : M = y
      · subst e1
        have HYY : Hid (∀ e w', Turns w (l.set who M) false 0 e w' → Y e w') := Lib.hid (by simpa using HY'.out)
        clear HY'
        refine q_enter (by kernel_rfl) (by kernel_rfl) ?_
        iterate 10 (refine q_step ?_; intro K hK; go_simp; refine hK _ ?_; clear hK K)
        refine q_nil ?_
        intro wz hbz
        have HOz := Lib.hid (HOs.out.on hbz)
        have HBz : Hid (Below w.heap.size w wz) := Lib.hid (HBs.out.trans (hbz.mono HBs.out.size))
        obtain ⟨A5, c5, e5, _, hl5⟩ := HOz.out.lst
        have HL5 := Lib.hid hl5
        simp only [List.length_set, Value.slice.injEq] at e5
        obtain ⟨rfl, _, rfl⟩ := e5
        clear hl5 hbz A0 A1 M0 M1
        go_wp2_with fail
        exact bodyPost_ret (v := .tuple #[.slice (some ⟨gt, 0, none⟩) l.length ct, .bool false, .int .i64 0]) (by simp [results, Try.results12, go_sem]) rfl (HYY.out _ _ ⟨_, ct, by rw [List.length_set], HL5.out, HBz.out⟩)
      · have HYY : Hid (∀ e w', Turns w (l.set who M) true 0 e w' → Y e w') := Lib.hid (by simpa [e1] using HY'.out)
        clear HY'
        obtain ⟨yi, ys⟩ := y
        obtain ⟨Mi, Ms⟩ := M
        simp only at A0 A1 M0 M1
        by_cases ei : Mi = yi
        · have es : ¬Ms = ys := fun h => e1 (by rw [ei, h])
          subst ei
          clear e1
          refine q_enter (by kernel_rfl) (by kernel_rfl) ?_
          iterate 10 (refine q_step ?_; intro K hK; go_simp; refine hK _ ?_; clear hK K)
          refine q_nil ?_
          intro wz hbz
          have HOz := Lib.hid (HOs.out.on hbz)
          have HBz : Hid (Below w.heap.size w wz) := Lib.hid (HBs.out.trans (hbz.mono HBs.out.size))
          obtain ⟨A5, c5, e5, _, hl5⟩ := HOz.out.lst
          have HL5 := Lib.hid hl5
          simp only [List.length_set, Value.slice.injEq] at e5
          obtain ⟨rfl, _, rfl⟩ := e5
          clear hl5 hbz A0 A1 M0 M1
          go_wp2_with fail
          exact bodyPost_ret (v := .tuple #[.slice (some ⟨gt, 0, none⟩) l.length ct, .bool true, .int .i64 0]) (by simp [results, Try.results12, go_sem]) rfl (HYY.out _ _ ⟨_, ct, by rw [List.length_set], HL5.out, HBz.out⟩)
        · clear e1
          refine q_enter (by kernel_rfl) (by kernel_rfl) ?_
          iterate 10 (refine q_step ?_; intro K hK; go_simp; refine hK _ ?_; clear hK K)
          refine q_nil ?_
          intro wz hbz
          have HOz := Lib.hid (HOs.out.on hbz)
          have HBz : Hid (Below w.heap.size w wz) := Lib.hid (HBs.out.trans (hbz.mono HBs.out.size))
          obtain ⟨A5, c5, e5, _, hl5⟩ := HOz.out.lst
          have HL5 := Lib.hid hl5
          simp only [List.length_set, Value.slice.injEq] at e5
          obtain ⟨rfl, _, rfl⟩ := e5
          clear hl5 hbz A0 A1 M0 M1
          go_wp2_with fail
          exact bodyPost_ret (v := .tuple #[.slice (some ⟨gt, 0, none⟩) l.length ct, .bool true, .int .i64 0]) (by simp [results, Try.results12, go_sem]) rfl (HYY.out _ _ ⟨_, ct, by rw [List.length_set], HL5.out, HBz.out⟩)

end Go.Proofs.Ytmfpipcedblklaa
