/-
  The walk of Next.
-/
import Derived.Test.YtphcmjhphoacgaaTb
import Derived.Test.YtphcmjhphoacgaaShuffle
namespace Go.Proofs.Ytphcmjhphoacgaa
open Go.Sort Go.RowKit Go.Proofs.Ytphcmjhphoacgaa.Pure

/-- May dice be? -/
def okD (s : ByteArray) (a : Int) : Bool := decide (0 ≤ a) && decide (a ≤ (s.size : Int))
theorem dcheck (s : ByteArray) (a : Int) (w : World) : Calls Try.prog 26 #[.agg #[.string s, .int .i64 a]] w fun e w' => e = .returned (.int .i64 (okE (okD s a))) ∧ Below w.heap.size w w' := by
  by_cases h : 0 ≤ a ∧ a ≤ (s.size : Int)
  · obtain ⟨b, rfl⟩ := Int.eq_ofNat_of_zero_le h.1
    have e : okD s b = true := by simp [okD]; omega
    rw [e]
    exact check_yes s b w (by omega)
  · have e : okD s a = false := by simp [okD]; omega
    rw [e]
    exact check_no s a w (by omega)

/-- What Next answers, as a value. -/
def nxV (A : Option Addr) (c : Nat) (s : ByteArray) (R : Ans) : Value := .tuple #[.int .i64 R.n, .agg #[.slice A R.T.length c, .int .i64 R.p], .agg #[.string s, .int .i64 R.a], .int .i64 R.e]

def NxPost (w : World) (s : ByteArray) (R : Ans) (e : Ending) (w' : World) : Prop := ∃ A2 c2, e = .returned (nxV A2 c2 s R) ∧ Has w' w.heap.size w'.heap.size A2 R.T ∧ Below w.heap.size w w'
theorem nx_post {w w' : World} {s : ByteArray} {R : Ans} (A2 : Option Addr) (c2 : Nat) (h : Has w' w.heap.size w'.heap.size A2 R.T) (hb : Below w.heap.size w w') : NxPost w s R (.returned (nxV A2 c2 s R)) w' := ⟨A2, c2, rfl, h, hb⟩

/-- Three numbers, laid anew. -/
theorem three_new (w : World) (c0 c1 c2 : Int) (t : TypeId) : ∀ j, j < [c0, c1, c2].length → (w.alloc (.cells #[.int .i64 c0, .int .i64 c1, .int .i64 c2] t)).cell? ((⟨w.heap.size, 0, none⟩ : Addr).add j) = some (.int .i64 ([c0, c1, c2].getD j 0)) := by
  intro j hj
  have hj' : j < 3 := hj
  have e : (⟨w.heap.size, 0, none⟩ : Addr).add j = ⟨w.heap.size, j, none⟩ := by unfold Addr.add; split <;> simp_all
  rw [e, World.cell?_alloc_mark]
  match j, hj' with
  | 0, _ => rfl
  | 1, _ => rfl
  | 2, _ => rfl

theorem wrong_iff (L1 L2 L3 : Bool) : firstN [okE L1, okE L2, okE L3] = okE (L1 && (L2 && L3)) := by cases L1 <;> cases L2 <;> cases L3 <;> rfl

/-- The four cells of the results, stored. -/
theorem fin_has {W lo : Nat} {w : World} {A : Option Addr} {T : List Int} (h : Has w lo w.heap.size A T) (hlo : W + 4 ≤ lo) (v0 v1 v2 v3 : Value) :
    Has ((((w.setCell ⟨W + 1 + 1, 0, none⟩ v0).setCell ⟨W + 1 + 1, 1, none⟩ v1).setCell ⟨W + 1 + 1 + 1, 0, none⟩ v2).setCell ⟨W + 1 + 1 + 1, 1, none⟩ v3).drew W
      ((((w.setCell ⟨W + 1 + 1, 0, none⟩ v0).setCell ⟨W + 1 + 1, 1, none⟩ v1).setCell ⟨W + 1 + 1 + 1, 0, none⟩ v2).setCell ⟨W + 1 + 1 + 1, 1, none⟩ v3).drew.heap.size A T := by
  have l1 : W + 1 + 1 < lo := by omega
  have l2 : W + 1 + 1 + 1 < lo := by omega
  exact (((((h.set (p := ⟨W + 1 + 1, 0, none⟩) (.inl l1) v0).set (p := ⟨W + 1 + 1, 1, none⟩) (.inl l1) v1).set (p := ⟨W + 1 + 1 + 1, 0, none⟩) (.inl l2) v2).set (p := ⟨W + 1 + 1 + 1, 1, none⟩) (.inl l2) v3).drew).wide (by omega) (by simp [World.setCell, World.drew])
theorem fin_below {W : Nat} {w0 w : World} (h : Below W w0 w) (v0 v1 v2 v3 : Value) :
    Below W w0 ((((w.setCell ⟨W + 1 + 1, 0, none⟩ v0).setCell ⟨W + 1 + 1, 1, none⟩ v1).setCell ⟨W + 1 + 1 + 1, 0, none⟩ v2).setCell ⟨W + 1 + 1 + 1, 1, none⟩ v3).drew := by
  have l1 : W ≤ W + 1 + 1 := by omega
  have l2 : W ≤ W + 1 + 1 + 1 := by omega
  exact ((((h.setCell (p := ⟨W + 1 + 1, 0, none⟩) l1 v0).setCell (p := ⟨W + 1 + 1, 1, none⟩) l1 v1).setCell (p := ⟨W + 1 + 1 + 1, 0, none⟩) l2 v2).setCell (p := ⟨W + 1 + 1 + 1, 1, none⟩) l2 v3).drew
/-- A found number is met. -/
theorem met_mk (l : List Int) (v : Nat) : mkB l v = l.contains (v : Int) := by
  unfold mkB
  rw [Bool.eq_iff_iff]
  simp

set_option maxRecDepth 100000 in
set_option maxHeartbeats 4000000 in
theorem next_any (s : ByteArray) (a : Int) (A A' : Option Addr) (c c' lo hi lo' hi' : Nat) (T l : List Int) (p : Int) (w : World) (hs : s.size ≤ 1000) (hT : T.length ≤ 1000) (hl : l.length ≤ 256)
    (h : Has w lo hi A T) (hh : hi ≤ w.heap.size) (h' : Has w lo' hi' A' l) (hh' : hi' ≤ w.heap.size) (R : Ans) (hR : ans s.data.toList a T p l = R) :
    Calls Try.prog 11 #[.agg #[.slice A T.length c, .int .i64 p], .agg #[.string s, .int .i64 a], .slice A' l.length c'] w fun e w' => NxPost w s R e w' := by
  have H := Lib.hid h
  have H' := Lib.hid h'
  have HR := Lib.hid hR
  have HCL := Lib.hid (fun (W : World) (h : Has W lo hi A T) (hh : hi ≤ W.heap.size) => clone_any A c T lo hi W hT h hh)
  obtain ⟨L1, hL1⟩ : ∃ L, okT T p = L := ⟨_, rfl⟩
  obtain ⟨L2, hL2⟩ : ∃ L, nodesB l = L := ⟨_, rfl⟩
  obtain ⟨L3, hL3⟩ : ∃ L, okD s a = L := ⟨_, rfl⟩
  have HK1 := Lib.hid (fun (W : World) (h : Has W lo hi A T) (hh : hi ≤ W.heap.size) => check_t A c lo hi T p W (by omega) h hh L1 hL1)
  have HK2 := Lib.hid (fun (W : World) (h : Has W lo' hi' A' l) (hh : hi' ≤ W.heap.size) => nodes_t A' c' lo' hi' l W (by omega) h hh L2 hL2)
  have HK3 := Lib.hid (fun (W : World) => hL3 ▸ dcheck s a W)
  have HOR := Lib.hid (fun (W : World) (ad : Addr) (h : ∀ j, j < [okE L1, okE L2, okE L3].length → W.cell? (ad.add j) = some (.int .i64 ([okE L1, okE L2, okE L3].getD j 0))) => wrong_iff L1 L2 L3 ▸ or_any ad [okE L1, okE L2, okE L3] 3 W (by simp) h)
  have H1 := Lib.hid hL1
  have H2 := Lib.hid hL2
  have H3 := Lib.hid hL3
  clear h h' hR hL1 hL2 hL3
  go_enter Try.func11, Try.ntmps11
  go_upto_region 1 with (fail)
  have HB : Hid (Below w.heap.size w ((((w.alloc (.cells #[.slice A T.length c, .int .i64 p] 24)).alloc (.cells #[.string s, .int .i64 a] 26)).alloc (.cells #[.slice none 0 0, .int .i64 0] 24)).alloc (.cells #[.string ⟨#[]⟩, .int .i64 0] 26))) :=
    Lib.hid (((((Below.refl _ _).alloc (Nat.le_refl _) _).alloc (by simp) _).alloc (by simp; omega) _).alloc (by simp; omega) _)
  have HX : Hid (Tb ((((w.alloc (.cells #[.slice A T.length c, .int .i64 p] 24)).alloc (.cells #[.string s, .int .i64 a] 26)).alloc (.cells #[.slice none 0 0, .int .i64 0] 24)).alloc (.cells #[.string ⟨#[]⟩, .int .i64 0] 26)) w.heap.size (.slice A T.length c) p) :=
    Lib.hid ((((Tb.new w _ _ _).alloc _).alloc _).alloc _)
  have HY : Hid (Box ((((w.alloc (.cells #[.slice A T.length c, .int .i64 p] 24)).alloc (.cells #[.string s, .int .i64 a] 26)).alloc (.cells #[.slice none 0 0, .int .i64 0] 24)).alloc (.cells #[.string ⟨#[]⟩, .int .i64 0] 26)) (w.heap.size + 1) s a) :=
    Lib.hid (by have := (((Box.new (w.alloc (.cells #[.slice A T.length c, .int .i64 p] 24)) s a 26).alloc (.cells #[.slice none 0 0, .int .i64 0] 24)).alloc (.cells #[.string ⟨#[]⟩, .int .i64 0] 26)); simpa using this)
  have HZ : Hid (Tb ((((w.alloc (.cells #[.slice A T.length c, .int .i64 p] 24)).alloc (.cells #[.string s, .int .i64 a] 26)).alloc (.cells #[.slice none 0 0, .int .i64 0] 24)).alloc (.cells #[.string ⟨#[]⟩, .int .i64 0] 26)) (w.heap.size + 2) (.slice none 0 0) 0) :=
    Lib.hid (by have := (Tb.new ((w.alloc (.cells #[.slice A T.length c, .int .i64 p] 24)).alloc (.cells #[.string s, .int .i64 a] 26)) (.slice none 0 0) 0 24).alloc (.cells #[.string ⟨#[]⟩, .int .i64 0] 26); simpa using this)
  have HV : Hid (Box ((((w.alloc (.cells #[.slice A T.length c, .int .i64 p] 24)).alloc (.cells #[.string s, .int .i64 a] 26)).alloc (.cells #[.slice none 0 0, .int .i64 0] 24)).alloc (.cells #[.string ⟨#[]⟩, .int .i64 0] 26)) (w.heap.size + 3) ⟨#[]⟩ 0) :=
    Lib.hid (by have := Box.new (((w.alloc (.cells #[.slice A T.length c, .int .i64 p] 24)).alloc (.cells #[.string s, .int .i64 a] 26)).alloc (.cells #[.slice none 0 0, .int .i64 0] 24)) ⟨#[]⟩ 0 26; simpa using this)
  have hz4 : Hid (w.heap.size + 4 ≤ ((((w.alloc (.cells #[.slice A T.length c, .int .i64 p] 24)).alloc (.cells #[.string s, .int .i64 a] 26)).alloc (.cells #[.slice none 0 0, .int .i64 0] 24)).alloc (.cells #[.string ⟨#[]⟩, .int .i64 0] 26)).heap.size) := Lib.hid (by simp)
  generalize (((w.alloc (.cells #[.slice A T.length c, .int .i64 p] 24)).alloc (.cells #[.string s, .int .i64 a] 26)).alloc (.cells #[.slice none 0 0, .int .i64 0] 24)).alloc (.cells #[.string ⟨#[]⟩, .int .i64 0] 26) = w1 at *
  have HT1 : Hid (Has w1 lo hi A T) := Lib.hid (H.out.on HB.out hh)
  have hw1 : hi ≤ w1.heap.size := by have := hz4.out; omega
  go_cut [10] (fun s10 wx => ∃ g A2 c2, s10 = .pointer (some ⟨g, 0, none⟩) ∧ w1.heap.size ≤ g ∧ Hid (Tb wx g (.slice A2 T.length c2) p) ∧ Hid (Off wx w1.heap.size g A2 T) ∧ Hid (Below w1.heap.size w1 wx))
  case first =>
    obtain ⟨x0, x1, _, _⟩ := HX.out
    have hwg : w.heap.size < w1.heap.size := HX.out.lt
    refine p_enter (.take 0 (.take 1 (.take 3 (.take 4 (.two 2 (.take 5 (.one 6 (.one 7 .done))) 6 (.one 2 (.take 5 (.one 7 .done)))))))) (fun w' => w'.cell? ⟨w.heap.size, 0, none⟩ = some (.slice A T.length c) ∧ w'.cell? ⟨w.heap.size, 1, none⟩ = some (.int .i64 p)) (by kernel_rfl) (by kernel_rfl) (by kernel_rfl) (fun _ _ d _ _ h => by cases d <;> exact h) ⟨x0, x1⟩ ?_
    simp only [pickP, opAt, List.drop_succ_cons, List.drop_zero]
    have hB_0 := Lib.hid ((Below.refl w1.heap.size w1).drew)
    have hS_0 : Hid (_ ∧ _) := Lib.hid (two_on ⟨x0, x1⟩ (Below.refl w1.heap.size w1).drew)
    have hz_0 : w1.heap.size ≤ w1.drew.heap.size := hB_0.out.size
    have HTd : Hid (Has w1.drew lo hi A T) := Lib.hid HT1.out.drew
    have hwd : hi ≤ w1.drew.heap.size := hw1
    generalize w1.drew = wd at *
    clear x0 x1
    iterate 4 (first | (refine' p_yes ?_ (by rfl) ?_ ?_; rotate_left; (intro w' hS; (try dsimp only at hS); go_simp; try (with_reducible rfl)); simp only [Act.put, List.setIfInBounds_toArray, List.set_cons_zero, List.set_cons_succ]) | (refine p_no (by rfl) ?_; simp only [Act.put, List.setIfInBounds_toArray, List.set_cons_zero, List.set_cons_succ]))
    refine p_two ?_ ?_
    · intro KK hK
      go_simp
      refine (HCL.out _ HTd.out hwd).mono ?_
      rintro e wb ⟨v, rfl, hown, hbx⟩
      obtain ⟨A2, c2, rfl, _, hh2⟩ := hown.has
      have hB_1 := Lib.hid (hB_0.out.trans (hbx.mono hz_0))
      have hS_1 : Hid (_ ∧ _) := Lib.hid (two_on hS_0.out hbx)
      have hz_1 : w1.heap.size ≤ wb.heap.size := hB_1.out.size
      have hO : Hid (Has wb w1.heap.size wb.heap.size A2 T) := Lib.hid (hh2.wide hz_0 (Nat.le_refl _))
      clear hB_0 hS_0 hbx hown hh2
      refine hK.out _ _ hS_1.out ?_
      clear hK
      iterate 1 (first | (refine' p_yes ?_ (by rfl) ?_ ?_; rotate_left; (intro w' hS; (try dsimp only at hS); go_simp; try (with_reducible rfl)); simp only [Act.put, List.setIfInBounds_toArray, List.set_cons_zero, List.set_cons_succ]) | (refine p_no (by rfl) ?_; simp only [Act.put, List.setIfInBounds_toArray, List.set_cons_zero, List.set_cons_succ]))
      refine p_one ?_
      intro KK hK
      go_simp
      have hbx : Below wb.heap.size wb (wb.alloc (.cells #[.slice none 0 0, .int .i64 0] 24)) := (Below.refl _ _).alloc (Nat.le_refl _) _
      have hB_2 := Lib.hid (hB_1.out.trans (hbx.mono hz_1))
      have hS_2 : Hid (_ ∧ _) := Lib.hid (two_on hS_1.out hbx)
      have hz_2 : w1.heap.size ≤ (wb.alloc (.cells #[.slice none 0 0, .int .i64 0] 24)).heap.size := hB_2.out.size
      have hN := Lib.hid (Tb.new wb (.slice none 0 0) 0 24)
      have hO2 : Hid (Off (wb.alloc (.cells #[.slice none 0 0, .int .i64 0] 24)) w1.heap.size wb.heap.size A2 T) := Lib.hid ⟨_, _, Nat.le_refl _, .inr (Nat.le_refl _), by simp, hO.out.alloc _ (Nat.le_refl _)⟩
      clear hB_1 hS_1 hO
      generalize wb.alloc (.cells #[.slice none 0 0, .int .i64 0] 24) = we at *
      generalize wb.heap.size = g at *
      clear hbx
      refine hK.out _ _ hS_2.out ?_
      clear hK
      refine p_one ?_
      intro KK hK
      obtain ⟨g0, g1, gf0, gf1⟩ := hN.out
      go_simp
      have hN2 := Lib.hid (hN.out.put (.slice A2 T.length c2) p)
      have hB2 := Lib.hid ((hB_2.out.setCell (p := ⟨g, 0, none⟩) hz_1 (.slice A2 T.length c2)).setCell (p := ⟨g, 1, none⟩) hz_1 (.int .i64 p))
      have hS2 : Hid (_ ∧ _) := Lib.hid (two_set hS_2.out g (by show w.heap.size ≠ g; omega) (by show w.heap.size ≠ g; omega) (.slice A2 T.length c2) (.int .i64 p))
      have hO3 := Lib.hid ((hO2.out.set (p := ⟨g, 0, none⟩) (.inl rfl) (.slice A2 T.length c2)).set (p := ⟨g, 1, none⟩) (.inl rfl) (.int .i64 p))
      refine hK.out _ _ hS2.out ?_
      clear hK
      refine p_done ?_
      go_wp2_with fail
      go_meet
      exact ⟨g, A2, c2, rfl, hz_1, hN2, hO3, hB2⟩
    · intro KK hK
      go_simp
      have hbx : Below wd.heap.size wd (wd.alloc (.cells #[.slice none 0 0, .int .i64 0] 24)) := (Below.refl _ _).alloc (Nat.le_refl _) _
      have hB_1 := Lib.hid (hB_0.out.trans (hbx.mono hz_0))
      have hS_1 : Hid (_ ∧ _) := Lib.hid (two_on hS_0.out hbx)
      have hz_1 : w1.heap.size ≤ (wd.alloc (.cells #[.slice none 0 0, .int .i64 0] 24)).heap.size := hB_1.out.size
      have hN := Lib.hid (Tb.new wd (.slice none 0 0) 0 24)
      have HTe := Lib.hid (HTd.out.alloc (.cells #[.slice none 0 0, .int .i64 0] 24) hwd)
      have hsz : (wd.alloc (.cells #[.slice none 0 0, .int .i64 0] 24)).heap.size = wd.heap.size + 1 := by simp
      clear hB_0 hS_0 HTd
      generalize wd.alloc (.cells #[.slice none 0 0, .int .i64 0] 24) = wb at *
      generalize wd.heap.size = g at *
      clear hbx
      refine hK.out _ _ hS_1.out ?_
      clear hK
      refine p_one ?_
      intro KK hK
      go_simp
      refine (HCL.out _ HTe.out (by omega)).mono ?_
      rintro e we ⟨v, rfl, hown, hbx⟩
      obtain ⟨A2, c2, rfl, _, hh2⟩ := hown.has
      have hB_2 := Lib.hid (hB_1.out.trans (hbx.mono hz_1))
      have hS_2 : Hid (_ ∧ _) := Lib.hid (two_on hS_1.out hbx)
      have hN1 := Lib.hid (hN.out.on hbx)
      have hO2 : Hid (Off we w1.heap.size g A2 T) := Lib.hid ⟨_, _, hz_1, .inl (by omega), Nat.le_refl _, hh2⟩
      clear hB_1 hS_1 hN hown hh2 hbx
      refine hK.out _ _ hS_2.out ?_
      clear hK
      iterate 1 (first | (refine' p_yes ?_ (by rfl) ?_ ?_; rotate_left; (intro w' hS; (try dsimp only at hS); go_simp; try (with_reducible rfl)); simp only [Act.put, List.setIfInBounds_toArray, List.set_cons_zero, List.set_cons_succ]) | (refine p_no (by rfl) ?_; simp only [Act.put, List.setIfInBounds_toArray, List.set_cons_zero, List.set_cons_succ]))
      refine p_one ?_
      intro KK hK
      obtain ⟨g0, g1, gf0, gf1⟩ := hN1.out
      go_simp
      have hN2 := Lib.hid (hN1.out.put (.slice A2 T.length c2) p)
      have hB2 := Lib.hid ((hB_2.out.setCell (p := ⟨g, 0, none⟩) hz_0 (.slice A2 T.length c2)).setCell (p := ⟨g, 1, none⟩) hz_0 (.int .i64 p))
      have hS2 : Hid (_ ∧ _) := Lib.hid (two_set hS_2.out g (by show w.heap.size ≠ g; omega) (by show w.heap.size ≠ g; omega) (.slice A2 T.length c2) (.int .i64 p))
      have hO3 := Lib.hid ((hO2.out.set (p := ⟨g, 0, none⟩) (.inl rfl) (.slice A2 T.length c2)).set (p := ⟨g, 1, none⟩) (.inl rfl) (.int .i64 p))
      refine hK.out _ _ hS2.out ?_
      clear hK
      refine p_done ?_
      go_wp2_with fail
      go_meet
      exact ⟨g, A2, c2, rfl, hz_0, hN2, hO3, hB2⟩
  case rest =>
  obtain ⟨g, A2, c2, rfl, hg, HN, HO, HC⟩ := hcut
  have HB2 := Lib.hid (HB.out.trans (HC.out.mono (by have := hz4.out; omega)))
  have HX2 := Lib.hid (HX.out.on HC.out)
  have HY2 := Lib.hid (HY.out.on HC.out)
  have HZ2 := Lib.hid (HZ.out.on HC.out)
  have HV2 := Lib.hid (HV.out.on HC.out)
  have hz5 : Hid (w1.heap.size ≤ wc.heap.size) := Lib.hid HC.out.size
  clear HC HB HX HY HZ HV HT1 HCL
  have z0 : okE true = 0 := rfl
  have z1 : okE false = 1 := rfl
  obtain ⟨x0, x1, _, _⟩ := HX2.out
  obtain ⟨y0, y1, _, _⟩ := HY2.out
  go_upto_region 2 with (fail)
  refine z_enter [(0, true), (2, true), (4, true), (1, false), (3, false), (5, false), (6, false), (7, false), (8, true)] (fun w' => w'.cell? ⟨w.heap.size, 0, none⟩ = some (.slice A T.length c) ∧ w'.cell? ⟨w.heap.size, 1, none⟩ = some (.int .i64 p) ∧ w'.cell? ⟨w.heap.size + 1, 0, none⟩ = some (.string s) ∧ w'.cell? ⟨w.heap.size + 1, 1, none⟩ = some (.int .i64 a)) (by kernel_rfl) (by kernel_rfl) (by kernel_rfl) (fun _ _ d _ _ h => by cases d <;> exact h) ⟨x0, x1, y0, y1⟩ ?_
  simp only [pickL, List.drop_succ_cons, List.drop_zero]
  have hS_0 : Hid (_ ∧ _) := Lib.hid (four_on ⟨x0, x1, y0, y1⟩ (Below.refl wc.heap.size wc).drew)
  have hdr : Below wc.heap.size wc wc.drew := (Below.refl _ _).drew
  clear x0 x1 y0 y1
  have HB_1 : Hid (Below w.heap.size w wc.drew) := Lib.hid (HB2.out.trans (hdr.mono HB2.out.size))
  have X_1 := Lib.hid (HX2.out.on hdr)
  have Y_1 := Lib.hid (HY2.out.on hdr)
  have Z_1 := Lib.hid (HZ2.out.on hdr)
  have V_1 := Lib.hid (HV2.out.on hdr)
  have N_1 := Lib.hid (HN.out.on hdr)
  have O_1 := Lib.hid (HO.out.on hdr)
  clear HB2 HX2 HY2 HZ2 HV2 HN HO hdr
  generalize wc.drew = wd at *
  iterate 3 (first | (refine' z_yes ?_ (by rfl) ?_ ?_; rotate_left; (intro w' hS; (try dsimp only at hS); go_simp; try (with_reducible rfl)); simp only [Act.put, List.setIfInBounds_toArray, List.set_cons_zero, List.set_cons_succ]) | (refine z_no (by rfl) ?_; simp only [Act.put, List.setIfInBounds_toArray, List.set_cons_zero, List.set_cons_succ]))
  refine z_mem ?_
  intro KK hK
  go_simp
  refine (HK1.out _ (H.out.on HB_1.out hh) (Nat.le_trans hh HB_1.out.size)).mono ?_
  rintro e w5 ⟨rfl, hb⟩
  have hS_1 : Hid (_ ∧ _) := Lib.hid (four_on hS_0.out hb)
  clear hS_0
  have HB_2 : Hid (Below w.heap.size w w5) := Lib.hid (HB_1.out.trans (hb.mono HB_1.out.size))
  have X_2 := Lib.hid (X_1.out.on hb)
  have Y_2 := Lib.hid (Y_1.out.on hb)
  have Z_2 := Lib.hid (Z_1.out.on hb)
  have V_2 := Lib.hid (V_1.out.on hb)
  have N_2 := Lib.hid (N_1.out.on hb)
  have O_2 := Lib.hid (O_1.out.on hb)
  clear HB_1 X_1 Y_1 Z_1 V_1 N_1 O_1 hb
  refine hK.out _ _ hS_1.out ?_
  clear hK
  refine z_mem ?_
  intro KK hK
  go_simp
  refine (HK2.out _ (H'.out.on HB_2.out hh') (Nat.le_trans hh' HB_2.out.size)).mono ?_
  rintro e w6 ⟨rfl, hb⟩
  have hS_2 : Hid (_ ∧ _) := Lib.hid (four_on hS_1.out hb)
  clear hS_1
  have HB_3 : Hid (Below w.heap.size w w6) := Lib.hid (HB_2.out.trans (hb.mono HB_2.out.size))
  have X_3 := Lib.hid (X_2.out.on hb)
  have Y_3 := Lib.hid (Y_2.out.on hb)
  have Z_3 := Lib.hid (Z_2.out.on hb)
  have V_3 := Lib.hid (V_2.out.on hb)
  have N_3 := Lib.hid (N_2.out.on hb)
  have O_3 := Lib.hid (O_2.out.on hb)
  clear HB_2 X_2 Y_2 Z_2 V_2 N_2 O_2 hb
  refine hK.out _ _ hS_2.out ?_
  clear hK
  refine z_mem ?_
  intro KK hK
  go_simp
  refine (HK3.out _).mono ?_
  rintro e w7 ⟨rfl, hb⟩
  have hS_3 : Hid (_ ∧ _) := Lib.hid (four_on hS_2.out hb)
  clear hS_2
  have HB_4 : Hid (Below w.heap.size w w7) := Lib.hid (HB_3.out.trans (hb.mono HB_3.out.size))
  have X_4 := Lib.hid (X_3.out.on hb)
  have Y_4 := Lib.hid (Y_3.out.on hb)
  have Z_4 := Lib.hid (Z_3.out.on hb)
  have V_4 := Lib.hid (V_3.out.on hb)
  have N_4 := Lib.hid (N_3.out.on hb)
  have O_4 := Lib.hid (O_3.out.on hb)
  clear HB_3 X_3 Y_3 Z_3 V_3 N_3 O_3 hb
  refine hK.out _ _ hS_3.out ?_
  clear hK
  refine z_mem ?_
  intro KK hK
  go_simp
  have hb : Below w7.heap.size w7 (w7.alloc (.cells #[.int .i64 (okE L1), .int .i64 (okE L2), .int .i64 (okE L3)] 29)) := (Below.refl _ _).alloc (Nat.le_refl _) _
  have hL := Lib.hid (three_new w7 (okE L1) (okE L2) (okE L3) 29)
  have hS_4 : Hid (_ ∧ _) := Lib.hid (four_on hS_3.out hb)
  clear hS_3
  have HB_5 : Hid (Below w.heap.size w (w7.alloc (.cells #[.int .i64 (okE L1), .int .i64 (okE L2), .int .i64 (okE L3)] 29))) := Lib.hid (HB_4.out.trans (hb.mono HB_4.out.size))
  have X_5 := Lib.hid (X_4.out.on hb)
  have Y_5 := Lib.hid (Y_4.out.on hb)
  have Z_5 := Lib.hid (Z_4.out.on hb)
  have V_5 := Lib.hid (V_4.out.on hb)
  have N_5 := Lib.hid (N_4.out.on hb)
  have O_5 := Lib.hid (O_4.out.on hb)
  clear HB_4 X_4 Y_4 Z_4 V_4 N_4 O_4 hb
  generalize w7.alloc (.cells #[.int .i64 (okE L1), .int .i64 (okE L2), .int .i64 (okE L3)] 29) = w8 at *
  refine hK.out _ _ hS_4.out ?_
  clear hK
  refine z_mem ?_
  intro KK hK
  go_simp
  refine (HOR.out _ _ hL.out).mono ?_
  rintro e w' ⟨rfl, rfl⟩
  refine hK.out _ _ hS_4.out ?_
  clear hK
  iterate 1 (first | (refine' z_yes ?_ (by rfl) ?_ ?_; rotate_left; (intro w' hS; (try dsimp only at hS); go_simp; try (with_reducible rfl)); simp only [Act.put, List.setIfInBounds_toArray, List.set_cons_zero, List.set_cons_succ]) | (refine z_no (by rfl) ?_; simp only [Act.put, List.setIfInBounds_toArray, List.set_cons_zero, List.set_cons_succ]))
  refine z_nil ?_
  clear hS_4 hL HK1 HK2 HK3 HOR
  have HE : Hid ((L1 && (L2 && L3)) = true → okT T p = true ∧ nodesB l = true ∧ 0 ≤ a ∧ a ≤ (s.size : Int)) := Lib.hid (fun h => by
    simp only [Bool.and_eq_true] at h
    have h3 := H3.out.trans h.2.2
    simp only [okD, Bool.and_eq_true, decide_eq_true_iff] at h3
    exact ⟨H1.out.trans h.1, H2.out.trans h.2.1, h3.1, h3.2⟩)
  have HEF : Hid ((L1 && (L2 && L3)) = false → okT T p = false ∨ nodesB l = false ∨ a < 0 ∨ (s.data.toList.length : Int) < a) := Lib.hid (fun h => by
    rcases hq1 : L1 with _ | _
    · exact .inl (H1.out.trans hq1)
    rcases hq2 : L2 with _ | _
    · exact .inr (.inl (H2.out.trans hq2))
    rw [hq1, hq2] at h
    have h3 : okD s a = false := H3.out.trans (by simpa using h)
    simp only [okD, Bool.and_eq_false_iff, decide_eq_false_iff_not] at h3
    have e : s.data.toList.length = s.size := by simp
    rw [e]
    omega)
  clear H1 H2 H3
  generalize (L1 && (L2 && L3)) = E at *
  have HWL : Hid (w.heap.size + 4 ≤ w1.heap.size) := hz4
  rcases E with _ | _
  · obtain rfl : R = ⟨0, T, p, a, 1⟩ := by rw [← HR.out]; exact ans_bad _ _ _ _ _ (HEF.out rfl)
    clear HE HEF HR
    obtain ⟨g0, g1, gf0, gf1⟩ := N_5.out
    obtain ⟨y0, y1, _, _⟩ := Y_5.out
    obtain ⟨u0, u1, uf0, uf1⟩ := Z_5.out
    obtain ⟨v0, v1, vf0, vf1⟩ := V_5.out
    go_wp2_with fail
    go_region
    go_wp2_with fail
    refine bodyPost_ret (v := .tuple #[.int .i64 0, .agg #[.slice A2 T.length c2, .int .i64 p], .agg #[.string s, .int .i64 a], .int .i64 1]) (by simp [results, Try.results11, go_sem, u0, u1, v0, v1, z1]) rfl (nx_post A2 c2 (fin_has O_5.out.has HWL.out _ _ _ _) (fin_below HB_5.out _ _ _ _))
  · obtain ⟨ho, hn, ha0, ha1⟩ := HE.out rfl
    clear HE HEF
    by_cases hln : l = []
    · subst hln
      obtain rfl : R = ⟨0, T, p, a, 6⟩ := by rw [← HR.out]; exact ans_nil _ _ _ _ ho ha0 (by simpa using ha1)
      clear HR ho hn
      obtain ⟨g0, g1, gf0, gf1⟩ := N_5.out
      obtain ⟨y0, y1, _, _⟩ := Y_5.out
      obtain ⟨u0, u1, uf0, uf1⟩ := Z_5.out
      obtain ⟨v0, v1, vf0, vf1⟩ := V_5.out
      go_wp2_with fail
      go_region
      go_wp2_with fail
      refine bodyPost_ret (v := .tuple #[.int .i64 0, .agg #[.slice A2 T.length c2, .int .i64 p], .agg #[.string s, .int .i64 a], .int .i64 6]) (by simp [results, Try.results11, go_sem, u0, u1, v0, v1]) rfl (nx_post A2 c2 (fin_has O_5.out.has HWL.out _ _ _ _) (fin_below HB_5.out _ _ _ _))
    · obtain ⟨P, rfl⟩ := Int.eq_ofNat_of_zero_le (show 0 ≤ p from ((okT_iff T p).1 ho).2.1)
      obtain ⟨b, rfl⟩ := Int.eq_ofNat_of_zero_le ha0
      have hP : P ≤ T.length := by have := ((okT_iff T P).1 ho).2.2; omega
      have hb' : b ≤ s.size := by omega
      have HRN : Hid (R = ⟨(nx s.data.toList l T P b).1, (nx s.data.toList l T P b).2.1, (nx s.data.toList l T P b).2.2.1, (nx s.data.toList l T P b).2.2.2, 0⟩) := Lib.hid (by rw [← HR.out]; exact ans_ok _ _ _ _ _ ho hn (by simpa using hb') hln)
      have HNT : Hid (∀ k, k < T.length → 0 ≤ T.getD k 0 ∧ T.getD k 0 < 64) := Lib.hid (fun k hk => ((numsB_iff T).1 ((okT_iff T P).1 ho).1).1 _ (getD_mem T k hk))
      have hl0 : 0 < l.length := List.length_pos_iff.2 hln
      have hl0' : (0 : Int) < (l.length : Int) := by omega
      have e0 : ((l.length : Int) == 0) = false := by simp; omega
      have HMT := Lib.hid (fun (W : World) (h : Has W lo' hi' A' l) (hh : hi' ≤ W.heap.size) => meet_any A' c' lo' hi' l W (by omega) h hh true (nodesB_nums hn))
      have HSH := Lib.hid (fun (W : World) (h : Has W lo' hi' A' l) (hh : hi' ≤ W.heap.size) => shuffle_yes s b c' lo' hi' A' l W hs hb' hl h hh)
      have hzv := zero_arr
      have HST := Lib.hid (fun (W : World) (bs cs : List Bool) => storeC_new W bs cs)
      have HZL : Hid ((List.replicate 64 false).length = 64) := Lib.hid (by simp)
      generalize List.replicate 64 false = zs at *
      clear HR ho hn ha0 ha1 hln
      go_wp2_with fail
      refine (HMT.out _ (H'.out.on HB_5.out hh') (Nat.le_trans hh' HB_5.out.size)).mono ?_
      rintro e w9 ⟨bs, rfl, hbl, hbm, hb⟩
      obtain rfl := hbm trivial
      clear hbm
      have HB_6 : Hid (Below w.heap.size w w9) := Lib.hid (HB_5.out.trans (hb.mono HB_5.out.size))
      have X_6 := Lib.hid (X_5.out.on hb)
      have Y_6 := Lib.hid (Y_5.out.on hb)
      have Z_6 := Lib.hid (Z_5.out.on hb)
      have V_6 := Lib.hid (V_5.out.on hb)
      have N_6 := Lib.hid (N_5.out.on hb)
      have O_6 := Lib.hid (O_5.out.on hb)
      clear HB_5 X_5 Y_5 Z_5 V_5 N_5 O_5 hb
      have hst := HST.out w9 zs (marks l) HZL.out hbl
      have hsz : (bools (marks l)).size = 64 := by rw [bools_len, hbl]
      have hbn : Below w9.heap.size w9 (w9.alloc (.cells (bools (marks l)) 52)) := (Below.refl _ _).alloc (Nat.le_refl _) _
      have HG := Lib.hid (Arr.new w9 (marks l))
      have HB_7 : Hid (Below w.heap.size w (w9.alloc (.cells (bools (marks l)) 52))) := Lib.hid (HB_6.out.trans (hbn.mono HB_6.out.size))
      have X_7 := Lib.hid (X_6.out.on hbn)
      have Y_7 := Lib.hid (Y_6.out.on hbn)
      have Z_7 := Lib.hid (Z_6.out.on hbn)
      have V_7 := Lib.hid (V_6.out.on hbn)
      have N_7 := Lib.hid (N_6.out.on hbn)
      have O_7 := Lib.hid (O_6.out.on hbn)
      clear HB_6 X_6 Y_6 Z_6 V_6 N_6 O_6 hbn
      generalize bools (marks l) = cs at *
      generalize bools zs = ys at *
      clear HST HZL HMT
      go_upto_region 8 with (fail)
      generalize w9.alloc (.cells cs 52) = w10 at *
      generalize w9.heap.size = gb at *
      clear hst hzv
      have hg4 : w.heap.size + 4 ≤ w10.heap.size := by have := N_7.out.lt; have := HWL.out; omega
      have HTX : Hid (Has w10 lo hi A T) := Lib.hid (H.out.on HB_7.out hh)
      obtain ⟨x0, x1, _, _⟩ := X_7.out
      go_wp2_with fail
      go_loop [14] (fun i => ∃ k : Nat, i = .int .i64 k ∧ P ≤ k ∧ k ≤ T.length ∧ Hid (∀ j, P ≤ j → j < k → l.contains (T.getD j 0) = false)) (fun i => T.length - (intOf i).toNat)
      case atStart => exact ⟨P, rfl, Nat.le_refl _, hP, Lib.hid (fun j h1 h2 => by omega)⟩
      case round =>
        obtain ⟨k, rfl, hPk, hk, hno⟩ := hrel
        by_cases hlt : k < T.length
        · obtain ⟨ad, rfl, _, _, hc⟩ := HTX.out k hlt
          obtain ⟨t0, t1⟩ := HNT.out k hlt
          have k0 : (0 : Int) ≤ (k : Int) := by omega
          have k1 : (k : Int) < (T.length : Int) := by omega
          have HFO : Hid (l.contains (T.getD k 0) = true → R = ⟨T.getD k 0, T, (k : Int) + 1, b, 0⟩) := Lib.hid (fun h => by
            rw [HRN.out, nx_found s.data.toList l T P b k hPk hlt h hno.out]
            simp)
          have HNX : Hid (l.contains (T.getD k 0) = false → ∀ j, P ≤ j → j < k + 1 → l.contains (T.getD j 0) = false) := Lib.hid (fun h j h1 h2 => by
            rcases Nat.lt_or_ge j k with hj | hj
            · exact hno.out j h1 hj
            · obtain rfl : j = k := by omega
              exact h)
          generalize T.getD k 0 = y at *
          obtain ⟨v, rfl⟩ := Int.eq_ofNat_of_zero_le t0
          have v0 : (0 : Int) ≤ (v : Int) := by omega
          have v1 : (v : Int) < 64 := by omega
          have v2 : v < 64 := by omega
          have hcv := HG.out.cell v (by rw [marks_len]; exact v2)
          rw [marks_at _ v v2, met_mk] at hcv
          clear t0 t1
          rcases hm : l.contains (v : Int) with _ | _
          · rw [hm] at hcv
            have HNX' := Lib.hid (HNX.out hm)
            clear HFO HNX hm
            go_wp2_with fail
            go_round
            case rel => exact ⟨k + 1, by go_num, by omega, by omega, HNX'⟩
            case measure => simp [intOf]; omega
          · rw [hm] at hcv
            obtain rfl := HFO.out hm
            clear HFO HNX hm HRN
            obtain ⟨g0, g1, gf0, gf1⟩ := N_7.out
            obtain ⟨y0, y1, _, _⟩ := Y_7.out
            obtain ⟨u0, u1, uf0, uf1⟩ := Z_7.out
            obtain ⟨v0, v1, vf0, vf1⟩ := V_7.out
            go_upto_region 14 with (fail)
            have HN2 := Lib.hid (N_7.out.put1 ((k : Int) + 1))
            have HO2 := Lib.hid (O_7.out.set (p := ⟨g, 1, none⟩) (.inl rfl) (.int .i64 ((k : Int) + 1)))
            have hgw : w.heap.size ≤ g := by have := HWL.out; omega
            have HB2' := Lib.hid (HB_7.out.setCell (p := ⟨g, 1, none⟩) hgw (.int .i64 ((k : Int) + 1)))
            have HY2' := Lib.hid (show Box _ _ _ _ from Y_7.out.far (p := ⟨g, 1, none⟩) (by show w.heap.size + 1 ≠ g; have := HWL.out; omega) (.int .i64 ((k : Int) + 1)))
            have HZ2' := Lib.hid (Z_7.out.far (a := ⟨g, 1, none⟩) (by show w.heap.size + 2 ≠ g; have := HWL.out; omega) (.int .i64 ((k : Int) + 1)))
            have HV2' := Lib.hid (V_7.out.far (p := ⟨g, 1, none⟩) (by show w.heap.size + 3 ≠ g; have := HWL.out; omega) (.int .i64 ((k : Int) + 1)))
            clear g0 g1 gf0 gf1 y0 y1 u0 u1 uf0 uf1 v0 v1 vf0 vf1
            generalize w10.setCell ⟨g, 1, none⟩ (.int .i64 ((k : Int) + 1)) = w11 at *
            obtain ⟨g0, g1, gf0, gf1⟩ := HN2.out
            obtain ⟨y0, y1, _, _⟩ := HY2'.out
            obtain ⟨u0, u1, uf0, uf1⟩ := HZ2'.out
            obtain ⟨v0, v1, vf0, vf1⟩ := HV2'.out
            go_wp2_with fail
            go_region
            go_wp2_with fail
            refine bodyPost_ret (v := .tuple #[.int .i64 v, .agg #[.slice A2 T.length c2, .int .i64 ((k : Int) + 1)], .agg #[.string s, .int .i64 b], .int .i64 0]) (by simp [results, Try.results11, go_sem, u0, u1, v0, v1]) rfl (nx_post A2 c2 (fin_has HO2.out.has HWL.out _ _ _ _) (fin_below HB2'.out _ _ _ _))
        · obtain rfl : k = T.length := by omega
          have e1 : decide ((T.length : Int) < (T.length : Int)) = false := by simp
          have hRe : R = ⟨(shufAll s.data.toList b l).1.getD 0 0, (shufAll s.data.toList b l).1, 1, (shufAll s.data.toList b l).2, 0⟩ := by rw [HRN.out, nx_none s.data.toList l T P b hno.out]; rfl
          have hlen := shufAll_len s.data.toList b l
          clear hno HRN HNT
          generalize hsf : shufAll s.data.toList b l = sf at *
          obtain ⟨order, a2⟩ := sf
          clear hsf
          simp only at hRe hlen
          subst hRe
          obtain ⟨y0, y1, _, _⟩ := Y_7.out
          go_wp2_with fail
          refine (HSH.out _ (H'.out.on HB_7.out hh') (Nat.le_trans hh' HB_7.out.size)).mono ?_
          rintro e w11 ⟨A3, c3, rfl, _, hh3, hb⟩
          have HO3 : Hid (Has w11 w10.heap.size w11.heap.size A3 order) := Lib.hid hh3
          clear hh3 y0 y1
          have hz11 : Hid (w10.heap.size ≤ w11.heap.size) := Lib.hid hb.size
          clear HG X_7 N_7 O_7
          have HB_8 : Hid (Below w.heap.size w w11) := Lib.hid (HB_7.out.trans (hb.mono HB_7.out.size))
          have Y_8 := Lib.hid (Y_7.out.on hb)
          have Z_8 := Lib.hid (Z_7.out.on hb)
          have V_8 := Lib.hid (V_7.out.on hb)
          clear HB_7 Y_7 Z_7 V_7 hb
          have hbn : Below w11.heap.size w11 (w11.alloc (.cells #[.string s, .int .i64 (a2 : Nat)] 26)) := (Below.refl _ _).alloc (Nat.le_refl _) _
          have HD := Lib.hid (Box.new w11 s (a2 : Nat) 26)
          have HO4 : Hid (Has (w11.alloc (.cells #[.string s, .int .i64 (a2 : Nat)] 26)) w10.heap.size (w11.alloc (.cells #[.string s, .int .i64 (a2 : Nat)] 26)).heap.size A3 order) := Lib.hid ((HO3.out.alloc (.cells #[.string s, .int .i64 (a2 : Nat)] 26) (Nat.le_refl _)).wide (Nat.le_refl _) (by simp))
          have HB_9 : Hid (Below w.heap.size w (w11.alloc (.cells #[.string s, .int .i64 (a2 : Nat)] 26))) := Lib.hid (HB_8.out.trans (hbn.mono HB_8.out.size))
          have Y_9 := Lib.hid (Y_8.out.on hbn)
          have Z_9 := Lib.hid (Z_8.out.on hbn)
          have V_9 := Lib.hid (V_8.out.on hbn)
          clear HB_8 Y_8 Z_8 V_8 hbn
          have hgd : w.heap.size + 4 ≤ w11.heap.size := by have := hz11.out; omega
          have n1 : ¬ w11.heap.size = w.heap.size + 2 := by omega
          have n2 : ¬ w11.heap.size = w.heap.size + 3 := by omega
          go_upto_region 18 with (fail)
          generalize w11.alloc (.cells #[.string s, .int .i64 (a2 : Nat)] 26) = w12 at *
          generalize w11.heap.size = gd at *
          clear HO3 HSH
          obtain ⟨ad, rfl, _, _, hc⟩ := HO4.out 0 (by omega)
          have hc0 : w12.cell? ad = some (.int .i64 (order.getD 0 0)) := hc
          clear hc
          obtain ⟨y, hy⟩ : ∃ y, y = order.getD 0 0 := ⟨_, rfl⟩
          rw [← hy] at hc0
          have HYO := Lib.hid hy
          clear hy
          obtain ⟨y0, y1, _, _⟩ := HD.out
          obtain ⟨u0, u1, uf0, uf1⟩ := Z_9.out
          obtain ⟨v0, v1, vf0, vf1⟩ := V_9.out
          go_region
          go_wp2_with fail
          refine bodyPost_ret (v := .tuple #[.int .i64 y, .agg #[.slice (some ad) l.length c3, .int .i64 1], .agg #[.string s, .int .i64 (a2 : Nat)], .int .i64 0]) (by simp [results, Try.results11, go_sem, u0, u1, v0, v1]) rfl ?_
          have e : Value.tuple #[.int .i64 y, .agg #[.slice (some ad) l.length c3, .int .i64 1], .agg #[.string s, .int .i64 (a2 : Nat)], .int .i64 0] = nxV (some ad) c3 s ⟨y, order, 1, a2, 0⟩ := by simp only [nxV, hlen]
          rw [e, ← HYO.out]
          exact nx_post (R := ⟨y, order, 1, a2, 0⟩) (some ad) c3 (fin_has HO4.out hg4 _ _ _ _) (fin_below HB_9.out _ _ _ _)
end Go.Proofs.Ytphcmjhphoacgaa
