/-
  LoadTells: which tasks may be, any bound, what is put where, and any task's node, exactly as the document says: the law returns true for every input.
-/
import Derived.Test.YthcjjogomknddaaDoorLp
import Derived.Test.YthcjjogomknddaaDoorCards
import Derived.Test.YthcjjogomknddaaDoorTie
namespace Go.Proofs.YthcjjogomknddaaDoor.lawTells
open Go.ChangeMaps (open_string)
open Go.Sort Go.ChangeShapes Go.WideShapes Go.ChangeAt Go.RowKit Go.Joins Go.Proofs.YthcjjogomknddaaDoor.Pure

def cutN (xs : List Int) : List Int := if 6 < xs.length ∧ nodesB xs = true then xs.take 6 else xs
def cutL (l : List ByteArray) : List ByteArray := if 12 < l.length ∧ l.length ≤ 100 then l.take 12 else l
theorem cutL_short {l : List ByteArray} (h : ∀ j, j < l.length → (ba l j).size ≤ 21) : ∀ j, j < (cutL l).length → (ba (cutL l) j).size ≤ 21 := by
  unfold cutL
  split
  · intro j hj
    rw [List.length_take] at hj
    rw [ba_take l 12 j (by omega)]
    exact h j (by omega)
  · exact h
/-- What the law finds among what is put is what Of answers. -/
theorem of_want {u : List Pu} {tk : ByteArray} {wv fv : Int} (hP : putB u = true) (h : ((∀ j, j < u.length → ¬ (pu u j).t = tk) ∧ wv = 0 ∧ fv = 6) ∨ ∃ j, j < u.length ∧ (pu u j).t = tk ∧ wv = (pu u j).n ∧ fv = 0) :
    ofE u tk = fv ∧ (if ofE u tk = 0 then ofI u tk else 0) = wv := by
  rcases h with ⟨h1, rfl, rfl⟩ | ⟨j, hj, ht, rfl, rfl⟩
  · have hf : ¬ u.findIdx (fun p => decide (p.t = tk)) < u.length := by
      intro hc
      have := List.findIdx_getElem (w := hc)
      rw [decide_eq_true_eq] at this
      have h2 := h1 _ hc
      rw [pu_lt u hc] at h2
      exact h2 this
    have he : ofE u tk = 6 := by unfold ofE; rw [if_pos hP, if_neg hf]
    rw [he]
    exact ⟨rfl, by rw [if_neg (by decide)]⟩
  · have hr : RiseK (u.map Pu.t) := by
      unfold putB at hP
      rw [Bool.and_eq_true] at hP
      exact ((tasksB_iff _ _).1 hP.2).2.2
    have hf : u.findIdx (fun p => decide (p.t = tk)) = j := by
      rw [List.findIdx_eq hj]
      rw [pu_lt u hj] at ht
      refine ⟨decide_eq_true ht, fun i hi => decide_eq_false fun e => ?_⟩
      have := rise_two hr hi (by simpa using hj)
      rw [ba_map u (by omega), ba_map u hj, pu_lt u (by omega), pu_lt u hj, e, ht, ltS_irrefl] at this
      cases this
    have he : ofE u tk = 0 := by unfold ofE; rw [if_pos hP, hf, if_pos hj]
    rw [he, if_pos rfl]
    refine ⟨rfl, ?_⟩
    unfold ofI
    rw [hf, if_pos hj]
set_option maxRecDepth 100000 in
set_option maxHeartbeats 4000000 in
theorem walk (A B C : Option Addr) (c d e : Nat) (xs0 : List Int) (s t : Int) (l0 : List ByteArray) (u0 : List Pu) (w : World) (hc : xs0.length ≤ c) (hm : c ≤ maxLen) (hx : Has w 0 w.heap.size A xs0) (hd : l0.length ≤ d) (hmd : d ≤ maxLen) (hl : Ss w B l0) (hsh : Shrt l0)
    (he : u0.length ≤ e) (hme : e ≤ maxLen) (hu : Us w C u0) (hsu : ShrtU u0) :
    Calls Tryd.prog 3 #[.agg #[.slice A xs0.length c, .int .i64 s, .slice B l0.length d, .slice C u0.length e, .int .i64 t]] w fun e w' => e = .returned (.bool true) ∧ Below w.heap.size w w' := by
  obtain ⟨xs, hxs⟩ : ∃ xs, cutF xs0 = xs := ⟨_, rfl⟩
  obtain ⟨u, huu⟩ : ∃ u, u0.take 101 = u := ⟨_, rfl⟩
  have hlen : xs.length ≤ 65 := by rw [← hxs]; simp [cutF]; omega
  have hul : u.length ≤ 101 := by rw [← huu, List.length_take]; omega
  have HX : Hid (∀ W, Below w.heap.size w W → Has W 0 w.heap.size A xs) := Lib.hid (fun W hb => by rw [← hxs]; exact (hx.take 65).on hb (Nat.le_refl _))
  have HU : Hid (∀ W, Below w.heap.size w W → Us W C u) := Lib.hid (fun W hb => by rw [← huu]; exact (hu.take 101).on hb)
  have hsu2 : Shrt (u.map Pu.t) := by rw [← huu, List.map_take]; exact hsu.map.take 101
  have HB1 : Hid (Below w.heap.size w (w.alloc (.cells #[.slice A xs0.length c, .int .i64 s, .slice B l0.length d, .slice C u0.length e, .int .i64 t] 26))) := Lib.hid ((Below.refl _ w).alloc (Nat.le_refl _) _)
  have HQ1 : Hid (Ab (w.alloc (.cells #[.slice A xs0.length c, .int .i64 s, .slice B l0.length d, .slice C u0.length e, .int .i64 t] 26)) w.heap.size (.slice A xs0.length c) (.int .i64 s) (.slice B l0.length d) (.slice C u0.length e) (.int .i64 t)) := Lib.hid (Ab.new w A B C xs0.length l0.length u0.length c d e s t)
  have HC1 : Hid (∀ W, Below w.heap.size w W → Calls Tryd.prog 10 #[.slice A xs0.length c] W fun e w' => e = .returned (.slice A xs.length c) ∧ Below W.heap.size W w') := Lib.hid (fun W hb => by rw [← hxs]; exact fewl_below A c 0 w.heap.size xs0 W hc hm (hx.on hb (Nat.le_refl _)))
  have HC2 := Lib.hid (fun (W : World) (hb : Below w.heap.size w W) => fews_any B d l0 W (by unfold maxLen at hmd; omega) (hl.on hb) hsh)
  have hl1s := cutS_short l0
  have hl1 : (cutS l0).length ≤ 101 := by rw [cutS_len]; omega
  generalize cutS l0 = l1 at *
  have hlc : xs.length ≤ c := by have h := cutF_le xs0; rw [hxs] at h; omega
  have hxA : 0 < xs.length → ∃ ad, A = some ad := fun h0 => by obtain ⟨ad, e, _⟩ := HX.out w (Below.refl _ _) 0 h0; exact ⟨ad, e⟩
  have huC : 0 < u.length → ∃ ad, C = some ad := fun h0 => by obtain ⟨ad, e, _⟩ := HU.out w (Below.refl _ _) 0 h0; exact ⟨ad, e⟩
  have HUU : Hid ((101 < u0.length → u.length = 101) ∧ (¬ 101 < u0.length → u.length = u0.length)) := Lib.hid (by rw [← huu, List.length_take]; omega)
  clear hx hxs hl hu hsu huu hsh
  go_enter Tryd.func3, Tryd.ntmps3
  go_upto_region 1 with (fail)
  generalize w.alloc (.cells #[.slice A xs0.length c, .int .i64 s, .slice B l0.length d, .slice C u0.length e, .int .i64 t] 26) = w1 at *
  have HBd : Hid (Below w.heap.size w w1.drew) := Lib.hid (HB1.out.trans (below_drewN (Below.refl _ _) 1))
  have HQd : Hid (Ab w1.drew w.heap.size (.slice A xs0.length c) (.int .i64 s) (.slice B l0.length d) (.slice C u0.length e) (.int .i64 t)) := Lib.hid HQ1.out
  refine z_enter [(0, true), (1, true), (3, true), (4, true), (2, false), (5, false), (6, true), (7, true)] (fun W => W.cell? ⟨w.heap.size, 0, none⟩ = some (.slice A xs0.length c) ∧ W.cell? ⟨w.heap.size, 2, none⟩ = some (.slice B l0.length d)) (by kernel_rfl) (by kernel_rfl) (by kernel_rfl) (fun _ _ d _ _ h => by cases d <;> exact h) ⟨HQd.out.1, HQd.out.2.2.1⟩ ?_
  simp only [pickL, List.drop_succ_cons, List.drop_zero]
  generalize w1.drew = wd at *
  clear HB1 HQ1
  iterate 4 (first | (refine' z_yes ?_ (by rfl) ?_ ?_; rotate_left; (intro w' hS; (try dsimp only at hS); go_simp; try (with_reducible rfl)); simp only [Act.put, List.setIfInBounds_toArray, List.set_cons_zero, List.set_cons_succ]) | (refine z_no (by rfl) ?_; simp only [Act.put, List.setIfInBounds_toArray, List.set_cons_zero, List.set_cons_succ]))
  refine z_mem ?_
  intro K hK
  go_simp
  refine (HC1.out _ HBd.out).mono ?_
  rintro e w2 ⟨rfl, hb⟩
  have B_1 := Lib.hid (HBd.out.trans (hb.mono HBd.out.size))
  have Q_1 := Lib.hid (HQd.out.on hb)
  clear HBd HQd
  clear hb HC1
  refine hK.out _ _ ⟨Q_1.out.1, Q_1.out.2.2.1⟩ ?_
  clear hK
  refine z_mem ?_
  intro K hK
  go_simp
  refine (HC2.out _ B_1.out).mono ?_
  rintro e w3 ⟨v3, rfl, ho, hb⟩
  have B_2 := Lib.hid (B_1.out.trans (hb.mono B_1.out.size))
  have Q_2 := Lib.hid (Q_1.out.on hb)
  clear B_1 Q_1
  obtain ⟨B1, d1, rfl, hd1, hs1⟩ := Ss.of ho
  have L_3 := Lib.hid (hs1)
  clear ho hs1 hb HC2
  refine hK.out _ _ ⟨Q_2.out.1, Q_2.out.2.2.1⟩ ?_
  clear hK
  iterate 2 (first | (refine' z_yes ?_ (by rfl) ?_ ?_; rotate_left; (intro w' hS; (try dsimp only at hS); go_simp; try (with_reducible rfl)); simp only [Act.put, List.setIfInBounds_toArray, List.set_cons_zero, List.set_cons_succ]) | (refine z_no (by rfl) ?_; simp only [Act.put, List.setIfInBounds_toArray, List.set_cons_zero, List.set_cons_succ]))
  refine z_nil ?_
  obtain ⟨L, hL⟩ : ∃ L, nodesB xs = L := ⟨_, rfl⟩
  have HND := Lib.hid (fun (W : World) (h : Has W 0 w.heap.size A xs) => rnodes_t A c 0 w.heap.size xs W (by omega) h L hL)
  obtain ⟨ys, hys⟩ : ∃ ys, ys = cutN xs := ⟨_, rfl⟩
  have HYS := Lib.hid hys
  have HY : Hid (∀ W, Below w.heap.size w W → Has W 0 w.heap.size A ys) := Lib.hid (fun W hb => by rw [hys]; unfold cutN; split; exact (HX.out W hb).take 6; exact HX.out W hb)
  have hyl : ys.length ≤ 65 := by rw [hys]; unfold cutN; split; simp; omega; exact hlen
  clear hys
  go_upto_region 2 with (fail)
  go_cut [28] from 22 to 28 (fun b wx => b = .bool (decide (6 < xs.length) && L) ∧ Hid (Below w3.heap.size w3 wx))
  case first =>
    by_cases h6 : 6 < xs.length
    · have e1 : decide ((6 : Int) < (xs.length : Int)) = true := decide_eq_true (by omega)
      have e1' : decide (6 < xs.length) = true := decide_eq_true h6
      clear h6
      go_wp2_with fail
      refine (HND.out _ (HX.out _ B_2.out)).mono ?_
      rintro e w9 ⟨rfl, hb3⟩
      go_wp2_with fail
      go_meet
      exact ⟨by simp [e1'], Lib.hid hb3⟩
    · have e1 : decide ((6 : Int) < (xs.length : Int)) = false := decide_eq_false (by omega)
      have e1' : decide (6 < xs.length) = false := decide_eq_false h6
      clear h6
      go_wp2_with fail
      go_meet
      exact ⟨by simp [e1'], Lib.hid (Below.refl _ _)⟩
  case rest =>
  obtain ⟨rfl, hbq⟩ := hcut
  obtain ⟨w4, eww4⟩ : ∃ x, x = wc := ⟨_, rfl⟩
  subst eww4
  have B_4 := Lib.hid (B_2.out.trans (hbq.out.mono B_2.out.size))
  have Q_4 := Lib.hid (Q_2.out.on hbq.out)
  have L_4 := Lib.hid (L_3.out.on hbq.out)
  clear B_2 Q_2 L_3
  clear hbq
  clear HND
  obtain ⟨T, hT⟩ : ∃ T, (decide (6 < xs.length) && L) = T := ⟨_, rfl⟩
  rw [hT]
  go_upto_if 28 with (fail)
  go_cut [3] from 29 to 30 (fun v wx => v = .slice A ys.length c ∧ w4 = wx)
  case first =>
    rcases T with _ | _
    · have hyx : ys = xs := by rw [HYS.out]; unfold cutN; rw [if_neg (by rintro ⟨h1, h2⟩; rw [hL] at h2; subst h2; rw [decide_eq_true h1] at hT; cases hT)]
      go_wp2_with fail
      go_meet
      exact ⟨by rw [hyx], rfl⟩
    · have h6 : 6 < xs.length ∧ L = true := by rw [Bool.and_eq_true, decide_eq_true_iff] at hT; exact hT
      have hyx : ys.length = 6 := by rw [HYS.out]; unfold cutN; rw [if_pos ⟨h6.1, by rw [hL]; exact h6.2⟩]; simp; omega
      obtain ⟨ad, rfl⟩ := hxA (by omega)
      have h7 := h6.1
      have c6 : (6 : Int) ≤ (c : Int) := by omega
      have HYX := Lib.hid hyx
      clear h6 hT hxA hyx
      go_wp2_with fail
      go_meet
      exact ⟨by rw [HYX.out], rfl⟩
  case rest =>
  obtain ⟨rfl, rfl⟩ := hcut
  clear hT HX hxA HYS hL
  obtain ⟨l, hll⟩ : ∃ l, l = cutL l1 := ⟨_, rfl⟩
  have hls : ∀ j, j < l.length → (ba l j).size ≤ 21 := by rw [hll]; exact cutL_short hl1s
  have hlle : l.length ≤ 101 := by rw [hll]; unfold cutL; split; rw [List.length_take]; omega; exact hl1
  have HLC : Hid (∀ W, Ss W B1 l1 → Ss W B1 l) := Lib.hid (fun W h => by rw [hll]; unfold cutL; split; exact h.take 12; exact h)
  have hLB : 0 < l1.length → ∃ ad, B1 = some ad := fun h0 => by obtain ⟨ad, e, _⟩ := L_4.out 0 h0; exact ⟨ad, e⟩
  have HLL : Hid (if 12 < l1.length ∧ l1.length ≤ 100 then l.length = 12 else l.length = l1.length) := Lib.hid (by split; rename_i h; rw [hll, cutL, if_pos h, List.length_take]; omega; rename_i h; rw [hll, cutL, if_neg h])
  obtain ⟨T, hT⟩ : ∃ T, (decide (12 < l1.length) && decide (l1.length ≤ 100)) = T := ⟨_, rfl⟩
  clear hll hl1s
  go_upto_region 4 with (fail)
  go_cut [38] from 31 to 38 (fun b wx => b = .bool T ∧ w4 = wx)
  case first =>
    by_cases h1 : 12 < l1.length
    · have e1 : decide ((12 : Int) < (l1.length : Int)) = true := decide_eq_true (by omega)
      have e1' : decide (12 < l1.length) = true := decide_eq_true h1
      have hT2 : T = decide (l1.length ≤ 100) := by rw [← hT, e1']; rfl
      by_cases h2 : l1.length ≤ 100
      · have e2 : decide ((l1.length : Int) ≤ 100) = true := decide_eq_true (by omega)
        have e2' : decide (l1.length ≤ 100) = true := decide_eq_true h2
        rw [e2'] at hT2
        subst hT2
        clear h1 h2 hT
        go_wp2_with fail
        go_meet
        exact ⟨rfl, rfl⟩
      · have e2 : decide ((l1.length : Int) ≤ 100) = false := decide_eq_false (by omega)
        have e2' : decide (l1.length ≤ 100) = false := decide_eq_false h2
        rw [e2'] at hT2
        subst hT2
        clear h1 h2 hT
        go_wp2_with fail
        go_meet
        exact ⟨rfl, rfl⟩
    · have e1 : decide ((12 : Int) < (l1.length : Int)) = false := decide_eq_false (by omega)
      have e1' : decide (12 < l1.length) = false := decide_eq_false h1
      have hT2 : T = false := by rw [← hT, e1']; rfl
      subst hT2
      clear h1 hT
      go_wp2_with fail
      go_meet
      exact ⟨rfl, rfl⟩
  case rest =>
  obtain ⟨rfl, rfl⟩ := hcut
  go_upto_if 38 with (fail)
  go_cut [4] from 39 to 40 (fun v wx => v = .slice B1 l.length d1 ∧ w4 = wx)
  case first =>
    rcases T with _ | _
    · have hn : ¬ (12 < l1.length ∧ l1.length ≤ 100) := by rintro ⟨h1, h2⟩; rw [decide_eq_true h1, decide_eq_true h2] at hT; cases hT
      have hyx := HLL.out
      rw [if_neg hn] at hyx
      clear hn hT
      have HYX := Lib.hid hyx
      clear hyx
      go_wp2_with fail
      go_meet
      exact ⟨by rw [HYX.out], rfl⟩
    · have h6 : 12 < l1.length ∧ l1.length ≤ 100 := by rw [Bool.and_eq_true, decide_eq_true_iff, decide_eq_true_iff] at hT; exact hT
      have hyx := HLL.out
      rw [if_pos h6] at hyx
      obtain ⟨ad, rfl⟩ := hLB (by omega)
      have h7 := h6.1
      have c6 : (12 : Int) ≤ (d1 : Int) := by omega
      have HYX := Lib.hid hyx
      clear h6 hT hLB hyx
      go_wp2_with fail
      go_meet
      exact ⟨by rw [HYX.out], rfl⟩
  case rest =>
  obtain ⟨rfl, rfl⟩ := hcut
  have HS1 := Lib.hid (HLC.out _ L_4.out)
  clear hT hLB HLL HLC L_4
  obtain ⟨a0, a1, a2, a3, a4⟩ := Q_4.out
  obtain ⟨TU, hTU⟩ : ∃ T, decide (101 < u0.length) = T := ⟨_, rfl⟩
  have hTU2 : decide ((101 : Int) < (u0.length : Int)) = TU := by rw [← hTU]; exact decide_eq_decide.2 (by omega)
  go_upto_if 45 with (fail)
  clear a0 a1 a2 a3 a4
  go_cut [5] from 46 to 47 (fun v wx => v = .slice C u.length e ∧ w4 = wx)
  case first =>
    rcases TU with _ | _
    · have hyx := HUU.out.2 (of_decide_eq_false hTU)
      have HYX := Lib.hid hyx
      clear hyx hTU hTU2
      go_wp2_with fail
      go_meet
      exact ⟨by rw [HYX.out], rfl⟩
    · have h1 := of_decide_eq_true hTU
      have hyx := HUU.out.1 h1
      obtain ⟨ad, rfl⟩ := huC (by omega)
      have c6 : (101 : Int) ≤ (e : Int) := by omega
      have HYX := Lib.hid hyx
      clear hyx huC hTU hTU2
      go_wp2_with fail
      go_meet
      exact ⟨by rw [HYX.out], rfl⟩
  case rest =>
  obtain ⟨rfl, rfl⟩ := hcut
  clear HUU huC hTU hTU2
  obtain ⟨bad, hbad⟩ : ∃ bad, (decide (t < 0) || (decide (100 < t) || (decide (s < 1) || decide (64 < s)))) = bad := ⟨_, rfl⟩
  obtain ⟨bb, ee, hbe, hbc⟩ : ∃ bb ee : Int, (∀ W, Calls Tryd.prog 13 #[.int .i64 t, .int .i64 s] W fun e w' => e = .returned (.tuple #[.int .i64 bb, .int .i64 ee]) ∧ W = w') ∧ ((bad = true ∧ bb = 0 ∧ ee = 1) ∨ (bad = false ∧ ee = 0 ∧ ∃ tn sn : Nat, t = (tn : Int) ∧ s = (sn : Int) ∧ tn ≤ 100 ∧ 1 ≤ sn ∧ sn ≤ 64 ∧ bb = ((boundN tn sn : Nat) : Int))) := by
    rcases bad with _ | _
    · simp only [Bool.or_eq_false_iff, decide_eq_false_iff_not] at hbad
      obtain ⟨tn, rfl⟩ := Int.eq_ofNat_of_zero_le (show 0 ≤ t by omega)
      obtain ⟨sn, rfl⟩ := Int.eq_ofNat_of_zero_le (show 0 ≤ s by omega)
      exact ⟨_, _, fun W => bound_yes tn sn W (by omega) (by omega) (by omega), Or.inr ⟨rfl, rfl, tn, sn, rfl, rfl, by omega, by omega, by omega, rfl⟩⟩
    · simp only [Bool.or_eq_true, decide_eq_true_eq] at hbad
      exact ⟨0, 1, fun W => bound_no t s W (by omega), Or.inl ⟨rfl, rfl, rfl⟩⟩
  have HBE := Lib.hid hbe
  have HBC := Lib.hid hbc
  clear hbe hbc
  obtain ⟨a0, a1, a2, a3, a4⟩ := Q_4.out
  go_wp2_with fail
  refine (HBE.out _).mono ?_
  rintro e w9 ⟨rfl, rfl⟩
  go_upto_region 10 with (fail)
  clear HBE
  go_cut [73] from 56 to 73 (fun b wx => b = .bool bad ∧ w4 = wx)
  case first =>
    rcases h1 : decide (t < 0) with _ | _
    · rcases h2 : decide (100 < t) with _ | _
      · rcases h3 : decide (s < 1) with _ | _
        · obtain ⟨x4, h4⟩ : ∃ x4, decide (64 < s) = x4 := ⟨_, rfl⟩
          rw [h1, h2, h3, h4] at hbad
          obtain rfl : x4 = bad := hbad
          go_wp2_with fail
          go_meet
          exact ⟨rfl, rfl⟩
        · rw [h1, h2, h3] at hbad
          obtain rfl : true = bad := hbad
          go_wp2_with fail
          go_meet
          exact ⟨rfl, rfl⟩
      · rw [h1, h2] at hbad
        obtain rfl : true = bad := hbad
        go_wp2_with fail
        go_meet
        exact ⟨rfl, rfl⟩
    · rw [h1] at hbad
      obtain rfl : true = bad := hbad
      go_wp2_with fail
      go_meet
      exact ⟨rfl, rfl⟩
  case rest =>
  obtain ⟨rfl, rfl⟩ := hcut
  clear hbad
  go_upto_if 73 with (fail)
  go_cut [] from 74 to 90 (fun wx => w4 = wx)
  case first =>
    rcases HBC.out with ⟨rfl, rfl, rfl⟩ | ⟨rfl, rfl, tn, sn, rfl, rfl, k1, k2, k3, rfl⟩
    · go_wp2_with fail
      go_meet
      rfl
    · have HRB := Lib.hid (fun W => rbound_any tn sn W (by omega) k2 (by omega))
      generalize boundN tn sn = bn at *
      have y1 : ((bn : Int) != (bn : Int)) = false := by simp
      have y1' : (bn != bn) = false := by simp
      clear HBC k1 k2 k3
      go_wp2_with fail
      refine (HRB.out _).mono ?_
      rintro e w9 ⟨rfl, rfl⟩
      go_wp2_with fail
      go_meet
      rfl
  case rest =>
  obtain rfl := hcut
  clear HBC a0 a1 a2 a3 a4
  obtain ⟨tk, htk⟩ : ∃ tk, tk = (if 0 < l.length then ba l 0 else ByteArray.empty) := ⟨_, rfl⟩
  have HTK := Lib.hid htk
  clear htk
  obtain ⟨TL, hTL⟩ : ∃ T, decide (0 < l.length) = T := ⟨_, rfl⟩
  have hTL2 : decide ((0 : Int) < (l.length : Int)) = TL := by rw [← hTL]; exact decide_eq_decide.2 (by omega)
  go_upto_if 93 with (fail)
  go_cut [8] from 94 to 96 (fun v wx => v = .string tk ∧ w4 = wx)
  case first =>
    rcases TL with _ | _
    · have h2 := HTK.out
      rw [if_neg (of_decide_eq_false hTL)] at h2
      subst h2
      clear hTL hTL2 HTK
      go_wp2_with fail
      go_meet
      exact ⟨rfl, rfl⟩
    · have h1 := of_decide_eq_true hTL
      have h2 := HTK.out
      rw [if_pos h1] at h2
      obtain ⟨ad, rfl, _, b0⟩ := HS1.out 0 h1
      rw [← h2] at b0
      have b1 : w4.cell? ad = some (.string tk) := b0
      have e2 : (0 : Int) < (l.length : Int) := by omega
      clear h2 b0 HTK hTL hTL2
      go_wp2_with fail
      go_meet
      exact ⟨rfl, rfl⟩
  case rest =>
  obtain ⟨rfl, rfl⟩ := hcut
  clear HTK hTL hTL2
  obtain ⟨e0, he0⟩ : ∃ e0, ofE u tk = e0 := ⟨_, rfl⟩
  obtain ⟨n0, hn0⟩ : ∃ n0, (if e0 = 0 then ofI u tk else 0) = n0 := ⟨_, rfl⟩
  have HOF := Lib.hid (fun (W : World) (h : Us W C u) => of_any C e u tk W (by omega) h hsu2 n0 e0 he0 hn0)
  obtain ⟨P, hP⟩ : ∃ P, putB u = P := ⟨_, rfl⟩
  have HCK := Lib.hid (fun (W : World) (h : Us W C u) => chkU_any C e u W (by omega) h hsu2 P hP)
  have HRM := Lib.hid (fun (W : World) (h : Us W C u) => rmay_any C e u W (by omega) h hsu2 P hP)
  have HWV : Hid (∀ wv fv : Int, (((∀ j, j < u.length → ¬ (pu u j).t = tk) ∧ wv = 0 ∧ fv = 6) ∨ ∃ j, j < u.length ∧ (pu u j).t = tk ∧ wv = (pu u j).n ∧ fv = 0) → P = true → e0 = fv ∧ n0 = wv) := Lib.hid (fun wv fv h hp => by
    have := of_want (hP.trans hp) h
    rw [he0] at this
    exact ⟨this.1, by rw [← hn0]; exact this.2⟩)
  have HWN : Hid (P = false → e0 = 1 ∧ n0 = 0) := Lib.hid (fun hp => by
    have h1 : e0 = 1 := by rw [← he0, ofE, hP, hp]; rfl
    exact ⟨h1, by rw [← hn0, h1]; rfl⟩)
  clear he0 hn0 hP hsu2
  go_wp2_with fail
  refine (HOF.out _ (HU.out _ B_4.out)).mono ?_
  rintro e w5 ⟨rfl, hb⟩
  have B_5 := Lib.hid (B_4.out.trans (hb.mono B_4.out.size))
  have Q_5 := Lib.hid (Q_4.out.on hb)
  have L_5 := Lib.hid (HS1.out.on hb)
  clear B_4 Q_4 HS1
  clear hb HOF
  go_wp2_with fail
  go_loopw [11, 12, 13] (fun a b i wr => ∃ (q : Nat) (wv fv : Int), i = .int .i64 q ∧ a = .int .i64 wv ∧ b = .int .i64 fv ∧ q ≤ u.length ∧ Hid (((∀ j, j < q → ¬ (pu u j).t = tk) ∧ wv = 0 ∧ fv = 6) ∨ ∃ j, j < q ∧ (pu u j).t = tk ∧ wv = (pu u j).n ∧ fv = 0) ∧ w5 = wr) (fun _ _ i _ => u.length - (intOf i).toNat)
  case atStart => exact ⟨0, 0, 6, rfl, rfl, rfl, Nat.zero_le _, Lib.hid (Or.inl ⟨fun j hj => absurd hj (Nat.not_lt_zero j), rfl, rfl⟩), rfl⟩
  case round =>
    obtain ⟨q, wv, fv, rfl, rfl, rfl, hq, hrl, rfl⟩ := hrel
    by_cases hlt : q < u.length
    · have q0 : (0 : Int) ≤ (q : Int) := by omega
      have q1 : (q : Int) < (u.length : Int) := by omega
      obtain ⟨ad, rfl, _, h1⟩ := (HU.out _ B_5.out) q hlt
      obtain ⟨r0, r1⟩ := h1.flat
      have heq := eq_is (pu u q).t tk
      have hql : q + 1 ≤ u.length := hlt
      by_cases hx : (pu u q).t = tk
      · have hrl2 : Hid (((∀ j, j < q + 1 → ¬ (pu u j).t = tk) ∧ (pu u q).n = 0 ∧ (0 : Int) = 6) ∨ ∃ j, j < q + 1 ∧ (pu u j).t = tk ∧ (pu u q).n = (pu u j).n ∧ (0 : Int) = 0) := Lib.hid (Or.inr ⟨q, Nat.lt_succ_self q, hx, rfl, rfl⟩)
        rw [decide_eq_true hx] at heq
        obtain ⟨y, hy⟩ : ∃ y, (pu u q).n = y := ⟨_, rfl⟩
        obtain ⟨x, hxe⟩ : ∃ x, (pu u q).t = x := ⟨_, rfl⟩
        rw [hy] at r1 hrl2
        rw [hxe] at r0 heq
        clear hx hrl h1 hy hxe hlt
        go_wp2_with fail
        go_roundw
        case rel => exact ⟨q + 1, y, 0, by go_num, rfl, rfl, hql, hrl2, trivial⟩
        case measure => simp [intOf]; omega
      · have hrl2 : Hid (((∀ j, j < q + 1 → ¬ (pu u j).t = tk) ∧ wv = 0 ∧ fv = 6) ∨ ∃ j, j < q + 1 ∧ (pu u j).t = tk ∧ wv = (pu u j).n ∧ fv = 0) := Lib.hid (by
          rcases hrl.out with ⟨h2, h3, h4⟩ | ⟨j, h2, h3⟩
          · exact Or.inl ⟨fun j hj => (if h5 : j < q then h2 j h5 else (show j = q by omega) ▸ hx), h3, h4⟩
          · exact Or.inr ⟨j, by omega, h3⟩)
        rw [decide_eq_false hx] at heq
        obtain ⟨x, hxe⟩ : ∃ x, (pu u q).t = x := ⟨_, rfl⟩
        rw [hxe] at r0 heq
        clear hx hrl h1 hxe hlt r1
        go_wp2_with fail
        go_roundw
        case rel => exact ⟨q + 1, wv, fv, by go_num, rfl, rfl, hql, hrl2, trivial⟩
        case measure => simp [intOf]; omega
    · obtain rfl : q = u.length := by omega
      have HWV2 := Lib.hid (HWV.out wv fv hrl.out)
      have x0 : decide ((u.length : Int) < (u.length : Int)) = false := by simp
      clear hrl HWV
      go_wp2_with fail
      refine (HRM.out _ (HU.out _ B_5.out)).mono ?_
      rintro e w6 ⟨rfl, hb⟩
      have B_6 := Lib.hid (B_5.out.trans (hb.mono B_5.out.size))
      have Q_6 := Lib.hid (Q_5.out.on hb)
      have L_6 := Lib.hid (L_5.out.on hb)
      clear B_5 Q_5 L_5
      clear hb
      go_upto_if 123 with (fail)
      go_cut [11, 12] from 123 to 123 (fun a b wx => a = .int .i64 n0 ∧ b = .int .i64 e0 ∧ w6 = wx)
      case first =>
        rcases P with _ | _
        · obtain ⟨rfl, rfl⟩ := HWN.out rfl
          go_wp2_with fail
          go_meet
          exact ⟨rfl, rfl, rfl⟩
        · obtain ⟨rfl, rfl⟩ := HWV2.out rfl
          go_wp2_with fail
          go_meet
          exact ⟨rfl, rfl, rfl⟩
      case rest =>
      obtain ⟨rfl, rfl, rfl⟩ := hcut
      clear HWV2 HWN
      obtain ⟨TB, hTB⟩ : ∃ TB, tskB l = TB := ⟨_, rfl⟩
      have hsl : Shrt l := fun j hj => Nat.le_trans (hls j hj) (by decide)
      have HT1 := Lib.hid (fun (W : World) (h : Ss W B1 l) => tasks_any B1 d1 l W (by omega) h hsl TB hTB)
      have HT2 := Lib.hid (fun (W : World) (h : Ss W B1 l) => rtasks_any B1 d1 l W (by omega) h hsl TB hTB)
      have o1 : okE true = 0 := rfl
      have o0 : okE false = 1 := rfl
      have z1 : (n0 != n0) = false := by simp
      have z2 : (e0 != e0) = false := by simp
      go_upto_region 27 with (fail)
      go_cut [147] from 124 to 147 (fun b wx => b = .bool false ∧ Hid (Below w6.heap.size w6 wx))
      case first =>
        rcases P with _ | _ <;> rcases TB with _ | _
        all_goals
          clear hTB
          first | rw [o0] at HCK | rw [o1] at HCK
          first | rw [o0] at HT1 | rw [o1] at HT1
          go_wp2_with fail
          refine (HCK.out _ (HU.out _ B_6.out)).mono ?_
          rintro e w7 ⟨rfl, hb7⟩
          have hB7 := Lib.hid (B_6.out.trans (hb7.mono B_6.out.size))
          have hS7 := Lib.hid (L_6.out.on hb7)
          go_wp2_with fail
          refine (HRM.out _ (HU.out _ hB7.out)).mono ?_
          rintro e w8 ⟨rfl, hb8⟩
          have hS8 := Lib.hid (hS7.out.on hb8)
          go_wp2_with fail
          refine (HT1.out _ hS8.out).mono ?_
          rintro e w9 ⟨rfl, hb9⟩
          have hS9 := Lib.hid (hS8.out.on hb9)
          go_wp2_with fail
          refine (HT2.out _ hS9.out).mono ?_
          rintro e w10 ⟨rfl, hb10⟩
          have h78 := hb7.trans (hb8.mono hb7.size)
          have h79 := h78.trans (hb9.mono h78.size)
          have h710 := Lib.hid (h79.trans (hb10.mono h79.size))
          clear hb7 hb8 hb9 hb10 h78 h79 hS7 hS8 hS9 hB7
          go_wp2_with fail
          go_meet
          exact ⟨rfl, h710⟩
      case rest =>
      obtain ⟨rfl, hbq⟩ := hcut
      obtain ⟨w7, ew7⟩ : ∃ x, x = wc := ⟨_, rfl⟩
      subst ew7
      have B_7 := Lib.hid (B_6.out.trans (hbq.out.mono B_6.out.size))
      have Q_7 := Lib.hid (Q_6.out.on hbq.out)
      have L_7 := Lib.hid (L_6.out.on hbq.out)
      clear B_6 Q_6 L_6
      clear hbq HCK HRM HT1 z1 z2 o0 o1 HU
      obtain ⟨M, hM⟩ : ∃ M, nodesB ys = M := ⟨_, rfl⟩
      have HNY := Lib.hid (fun (W : World) (h : Has W 0 w.heap.size A ys) => rnodes_t A c 0 w.heap.size ys W (by omega) h M hM)
      obtain ⟨a0, a1, a2, a3, a4⟩ := Q_7.out
      rcases M with _ | _
      · have HAS := Lib.hid (assign_bad A B1 c d1 0 w.heap.size ys s l w7 (by omega) (HY.out _ B_7.out) B_7.out.size (by omega) L_7.out hsl (Or.inl hM))
        go_wp2_with fail
        refine HAS.out.mono ?_
        rintro e w8 ⟨rfl, hb⟩
        clear a0 a1 a2 a3 a4
        have B_8 := Lib.hid (B_7.out.trans (hb.mono B_7.out.size))
        have Q_8 := Lib.hid (Q_7.out.on hb)
        have L_8 := Lib.hid (L_7.out.on hb)
        clear B_7 Q_7 L_7
        clear hb HAS
        obtain ⟨a0, a1, a2, a3, a4⟩ := Q_8.out
        go_wp2_with fail
        refine (HNY.out _ (HY.out _ B_8.out)).mono ?_
        rintro e w9 ⟨rfl, hb⟩
        clear a0 a1 a2 a3 a4
        have B_9 := Lib.hid (B_8.out.trans (hb.mono B_8.out.size))
        have Q_9 := Lib.hid (Q_8.out.on hb)
        have L_9 := Lib.hid (L_8.out.on hb)
        clear B_8 Q_8 L_8
        clear hb
        obtain ⟨a0, a1, a2, a3, a4⟩ := Q_9.out
        go_wp2_with fail
        refine (awake_any _).mono ?_
        rintro e w9 ⟨rfl, hb9⟩
        go_wp2_with fail
        go_ret
        exact ⟨rfl, B_9.out.trans (hb9.mono B_9.out.size)⟩
      by_cases h1 : s < 1
      · have e1 : decide (s < 1) = true := decide_eq_true h1
        have HAS := Lib.hid (assign_bad A B1 c d1 0 w.heap.size ys s l w7 (by omega) (HY.out _ B_7.out) B_7.out.size (by omega) L_7.out hsl (Or.inr (Or.inl h1)))
        go_wp2_with fail
        refine HAS.out.mono ?_
        rintro e w8 ⟨rfl, hb⟩
        clear a0 a1 a2 a3 a4
        have B_8 := Lib.hid (B_7.out.trans (hb.mono B_7.out.size))
        have Q_8 := Lib.hid (Q_7.out.on hb)
        have L_8 := Lib.hid (L_7.out.on hb)
        clear B_7 Q_7 L_7
        clear hb HAS
        obtain ⟨a0, a1, a2, a3, a4⟩ := Q_8.out
        go_wp2_with fail
        refine (HNY.out _ (HY.out _ B_8.out)).mono ?_
        rintro e w9 ⟨rfl, hb⟩
        clear a0 a1 a2 a3 a4
        have B_9 := Lib.hid (B_8.out.trans (hb.mono B_8.out.size))
        have Q_9 := Lib.hid (Q_8.out.on hb)
        have L_9 := Lib.hid (L_8.out.on hb)
        clear B_8 Q_8 L_8
        clear hb
        obtain ⟨a0, a1, a2, a3, a4⟩ := Q_9.out
        go_wp2_with fail
        refine (awake_any _).mono ?_
        rintro e w9 ⟨rfl, hb9⟩
        go_wp2_with fail
        go_ret
        exact ⟨rfl, B_9.out.trans (hb9.mono B_9.out.size)⟩
      have e1 : decide (s < 1) = false := decide_eq_false h1
      by_cases h2 : 32 < s
      · have e2 : decide (32 < s) = true := decide_eq_true h2
        have HAS := Lib.hid (assign_bad A B1 c d1 0 w.heap.size ys s l w7 (by omega) (HY.out _ B_7.out) B_7.out.size (by omega) L_7.out hsl (Or.inr (Or.inr (Or.inl h2))))
        go_wp2_with fail
        refine HAS.out.mono ?_
        rintro e w8 ⟨rfl, hb⟩
        clear a0 a1 a2 a3 a4
        have B_8 := Lib.hid (B_7.out.trans (hb.mono B_7.out.size))
        have Q_8 := Lib.hid (Q_7.out.on hb)
        have L_8 := Lib.hid (L_7.out.on hb)
        clear B_7 Q_7 L_7
        clear hb HAS
        obtain ⟨a0, a1, a2, a3, a4⟩ := Q_8.out
        go_wp2_with fail
        refine (HNY.out _ (HY.out _ B_8.out)).mono ?_
        rintro e w9 ⟨rfl, hb⟩
        clear a0 a1 a2 a3 a4
        have B_9 := Lib.hid (B_8.out.trans (hb.mono B_8.out.size))
        have Q_9 := Lib.hid (Q_8.out.on hb)
        have L_9 := Lib.hid (L_8.out.on hb)
        clear B_8 Q_8 L_8
        clear hb
        obtain ⟨a0, a1, a2, a3, a4⟩ := Q_9.out
        go_wp2_with fail
        refine (awake_any _).mono ?_
        rintro e w9 ⟨rfl, hb9⟩
        go_wp2_with fail
        go_ret
        exact ⟨rfl, B_9.out.trans (hb9.mono B_9.out.size)⟩
      have e2 : decide (32 < s) = false := decide_eq_false h2
      rcases TB with _ | _
      · have HAS := Lib.hid (assign_bad A B1 c d1 0 w.heap.size ys s l w7 (by omega) (HY.out _ B_7.out) B_7.out.size (by omega) L_7.out hsl (Or.inr (Or.inr (Or.inr hTB))))
        go_wp2_with fail
        refine HAS.out.mono ?_
        rintro e w8 ⟨rfl, hb⟩
        clear a0 a1 a2 a3 a4
        have B_8 := Lib.hid (B_7.out.trans (hb.mono B_7.out.size))
        have Q_8 := Lib.hid (Q_7.out.on hb)
        have L_8 := Lib.hid (L_7.out.on hb)
        clear B_7 Q_7 L_7
        clear hb HAS
        obtain ⟨a0, a1, a2, a3, a4⟩ := Q_8.out
        go_wp2_with fail
        refine (HNY.out _ (HY.out _ B_8.out)).mono ?_
        rintro e w9 ⟨rfl, hb⟩
        clear a0 a1 a2 a3 a4
        have B_9 := Lib.hid (B_8.out.trans (hb.mono B_8.out.size))
        have Q_9 := Lib.hid (Q_8.out.on hb)
        have L_9 := Lib.hid (L_8.out.on hb)
        clear B_8 Q_8 L_8
        clear hb
        obtain ⟨a0, a1, a2, a3, a4⟩ := Q_9.out
        go_wp2_with fail
        refine (HT2.out _ L_9.out).mono ?_
        rintro e w10 ⟨rfl, hb⟩
        clear a0 a1 a2 a3 a4
        have B_10 := Lib.hid (B_9.out.trans (hb.mono B_9.out.size))
        have Q_10 := Lib.hid (Q_9.out.on hb)
        have L_10 := Lib.hid (L_9.out.on hb)
        clear B_9 Q_9 L_9
        clear hb
        obtain ⟨a0, a1, a2, a3, a4⟩ := Q_10.out
        go_wp2_with fail
        refine (awake_any _).mono ?_
        rintro e w9 ⟨rfl, hb9⟩
        go_wp2_with fail
        go_ret
        exact ⟨rfl, B_10.out.trans (hb9.mono B_10.out.size)⟩
      obtain ⟨sn, rfl⟩ := Int.eq_ofNat_of_zero_le (show 0 ≤ s by omega)
      by_cases h3 : ys = []
      · have e3 : ((ys.length : Int) == 0) = true := by rw [h3]; rfl
        have e3' : (ys.length == 0) = true := by rw [h3]; rfl
        have hy0 : ys.length = 0 := by rw [h3]; rfl
        have HAS : Hid (Calls Tryd.prog 20 #[.slice A ys.length c, .int .i64 (sn : Int), .slice B1 l.length d1] w7 fun r w' => r = .returned (.tuple #[.slice none 0 0, .int .i64 6]) ∧ Below w7.heap.size w7 w') := Lib.hid (by rw [hy0]; exact assign_none A B1 c d1 0 w.heap.size ys sn l w7 (HY.out _ B_7.out) B_7.out.size (by omega) L_7.out hsl h3 (by omega) (by omega) hTB)
        clear hy0 h3 hM hTB h1 h2
        go_wp2_with fail
        refine HAS.out.mono ?_
        rintro e w8 ⟨rfl, hb⟩
        clear a0 a1 a2 a3 a4
        have B_8 := Lib.hid (B_7.out.trans (hb.mono B_7.out.size))
        have Q_8 := Lib.hid (Q_7.out.on hb)
        have L_8 := Lib.hid (L_7.out.on hb)
        clear B_7 Q_7 L_7
        clear hb HAS
        obtain ⟨a0, a1, a2, a3, a4⟩ := Q_8.out
        go_wp2_with fail
        refine (HNY.out _ (HY.out _ B_8.out)).mono ?_
        rintro e w9 ⟨rfl, hb⟩
        clear a0 a1 a2 a3 a4
        have B_9 := Lib.hid (B_8.out.trans (hb.mono B_8.out.size))
        have Q_9 := Lib.hid (Q_8.out.on hb)
        have L_9 := Lib.hid (L_8.out.on hb)
        clear B_8 Q_8 L_8
        clear hb
        obtain ⟨a0, a1, a2, a3, a4⟩ := Q_9.out
        go_wp2_with fail
        refine (HT2.out _ L_9.out).mono ?_
        rintro e w10 ⟨rfl, hb⟩
        clear a0 a1 a2 a3 a4
        have B_10 := Lib.hid (B_9.out.trans (hb.mono B_9.out.size))
        have Q_10 := Lib.hid (Q_9.out.on hb)
        have L_10 := Lib.hid (L_9.out.on hb)
        clear B_9 Q_9 L_9
        clear hb
        obtain ⟨a0, a1, a2, a3, a4⟩ := Q_10.out
        go_wp2_with fail
        refine (awake_any _).mono ?_
        rintro e w9 ⟨rfl, hb9⟩
        go_wp2_with fail
        go_ret
        exact ⟨rfl, B_10.out.trans (hb9.mono B_10.out.size)⟩
      have hy0 : 0 < ys.length := List.length_pos_iff.2 h3
      have e3 : ((ys.length : Int) == 0) = false := by rw [beq_eq_false_iff_ne]; omega
      have e3' : (ys.length == 0) = false := by rw [beq_eq_false_iff_ne]; omega
      have hl100 : l.length ≤ 100 := ((tasksB_iff _ _).1 hTB).1
      have HAS := Lib.hid (assign_yes A B1 c d1 0 w.heap.size ys sn l w7 (HY.out _ B_7.out) B_7.out.size L_7.out hsl hM hy0 (by omega) (by omega) hTB)
      have HRA := Lib.hid (fun (W : World) (hb : Below w.heap.size w W) (h : Ss W B1 l) => rassign_any A B1 c d1 0 w.heap.size ys sn l W (HY.out W hb) hb.size h (fun j hj => by have := hls j hj; omega) hM hy0 (by omega) (by omega) hl100)
      have HRl := Lib.hid (lb_len ys sn l)
      generalize asgA2 ys sn l = R at *
      clear h1 h2 h3 hM hTB
      go_wp2_with fail
      refine HAS.out.mono ?_
      rintro e w8 ⟨v8, rfl, ho, hb⟩
      clear a0 a1 a2 a3 a4
      have B_48 := Lib.hid (B_7.out.trans (hb.mono B_7.out.size))
      have Q_48 := Lib.hid (Q_7.out.on hb)
      have L_48 := Lib.hid (L_7.out.on hb)
      clear B_7 Q_7 L_7
      obtain ⟨AR, cR, rfl, hcR, hu⟩ := ho.lst
      have R_49 := Lib.hid (hu)
      clear hb ho hu HAS
      obtain ⟨a0, a1, a2, a3, a4⟩ := Q_48.out
      go_wp2_with fail
      refine (HNY.out _ (HY.out _ B_48.out)).mono ?_
      rintro e w9 ⟨rfl, hb⟩
      clear a0 a1 a2 a3 a4
      have B_50 := Lib.hid (B_48.out.trans (hb.mono B_48.out.size))
      have Q_50 := Lib.hid (Q_48.out.on hb)
      have L_50 := Lib.hid (L_48.out.on hb)
      have R_50 := Lib.hid (R_49.out.on hb)
      clear B_48 Q_48 L_48 R_49
      clear hb
      obtain ⟨a0, a1, a2, a3, a4⟩ := Q_50.out
      go_wp2_with fail
      refine (HT2.out _ L_50.out).mono ?_
      rintro e w10 ⟨rfl, hb⟩
      clear a0 a1 a2 a3 a4
      have B_51 := Lib.hid (B_50.out.trans (hb.mono B_50.out.size))
      have Q_51 := Lib.hid (Q_50.out.on hb)
      have L_51 := Lib.hid (L_50.out.on hb)
      have R_51 := Lib.hid (R_50.out.on hb)
      clear B_50 Q_50 L_50 R_50
      clear hb
      obtain ⟨a0, a1, a2, a3, a4⟩ := Q_51.out
      go_wp2_with fail
      refine (HRA.out _ B_51.out L_51.out).mono ?_
      rintro e w11 ⟨v11, rfl, ho, hb⟩
      clear a0 a1 a2 a3 a4
      have B_52 := Lib.hid (B_51.out.trans (hb.mono B_51.out.size))
      have Q_52 := Lib.hid (Q_51.out.on hb)
      have L_52 := Lib.hid (L_51.out.on hb)
      have R_52 := Lib.hid (R_51.out.on hb)
      clear B_51 Q_51 L_51 R_51
      obtain ⟨AS, cS, rfl, hcS, hu⟩ := ho.lst
      have R2_53 := Lib.hid (hu)
      clear hb ho hu HRA
      obtain ⟨a0, a1, a2, a3, a4⟩ := Q_52.out
      clear e1 e2 e3 e3'
      have HSM := Lib.hid (same_puts AR AS cR cS R R w11 (by have := HRl.out; omega) R_52.out R2_53.out true (by simp))
      go_wp2_with fail
      refine HSM.out.mono ?_
      rintro e w12 ⟨rfl, hb⟩
      have B_54 := Lib.hid (B_52.out.trans (hb.mono B_52.out.size))
      have Q_54 := Lib.hid (Q_52.out.on hb)
      have L_54 := Lib.hid (L_52.out.on hb)
      have R_54 := Lib.hid (R_52.out.on hb)
      have R2_54 := Lib.hid (R2_53.out.on hb)
      clear B_52 Q_52 L_52 R_52 R2_53
      clear hb HSM
      go_wp2_with fail
      refine (awake_any _).mono ?_
      rintro e w9 ⟨rfl, hb9⟩
      go_wp2_with fail
      go_ret
      exact ⟨rfl, B_54.out.trans (hb9.mono B_54.out.size)⟩

theorem parOk : ∀ t ∈ (#[26] : Array TypeId).toList, Tryd.prog.readableRec t = true ∧ t < Tryd.prog.types.size := by
  have hall : ([26].all fun t => Tryd.prog.readableRec t && decide (t < Tryd.prog.types.size)) = true := by kernel_rfl
  intro t ht
  simpa using List.all_eq_true.1 hall t ht

set_option maxRecDepth 100000 in
/-- What the walk gives, for every argument and every world that holds the table. -/
theorem contract (H : Type) (enc : TypeId × Value → H) (W : World) (base : Nat) (args : Array Value) (ds gs : List (DataW H)) (before : List MemPlace)
    (hval : ∀ (j : Nat) t v, Tryd.f3.params[j]? = some t → args[j]? = some v → Value.okWide Tryd.prog W .any base t v)
    (hW : DataW.Whole enc Tryd.prog Tryd.f3.params.toList Rows.loadTellsSpec.vars false W args.toList ds gs before) (_ : laidMetH Tryd.prog Rows.loadTellsRow.laid W) :
    Calls Tryd.prog 3 args W fun e W' => ∃ v, e = .returned v ∧ Rows.loadTellsSpec.post enc Tryd.prog Tryd.f3 false true false false W args v W' := by
  have hW' := hW
  obtain ⟨p, q, hA0, hV, rfl, hfz, hnd⟩ := hW
  have hA : DataW.TrodAll enc Tryd.prog W 0 (fun _ => true) true Tryd.f3.params.toList args.toList ds p := hA0
  rw [Tryd.params3] at hA hval
  obtain ⟨v0, vs0, d0, ds0, p0, q0, hargs, rfl, rfl, h0, r0⟩ := trodAll_cons hA
  obtain ⟨rfl, rfl, rfl⟩ := trodAll_nil r0
  obtain rfl : args = #[v0] := by cases args; simp_all
  obtain ⟨rfl, rfl⟩ := trodVars_none hV
  obtain ⟨A, c, xs, s, B, d, l, C, e, u, t, rfl, hc, hm, hx, hd, hmd, hl, hsh, he, hme, hu, hsu, _, _⟩ := open_ask (hval 0 26 v0 rfl rfl) h0
  clear hA0
  refine (walk A B C c d e xs s t l u W hc hm hx hd hmd hl hsh he hme hu hsu).mono fun e W' ⟨he, hb⟩ => ?_
  subst he
  exact ⟨_, rfl, law_post rfl (by rw [Tryd.params3]; exact parOk) rfl hW' rfl rfl rfl hb⟩

set_option maxRecDepth 100000 in
theorem laid_met (os : Os) : laidMet Tryd.prog Rows.loadTellsRow.laid ((laidWorld os).forCall (fun _ _ => 0) ⟨#[], #[.agg #[.slice none 0 0, .int .i64 0, .slice none 0 0, .slice none 0 0, .int .i64 0]], []⟩).memory :=
  laidMet_of_run' 8 (by kernel_rfl) (by kernel_rfl)
set_option maxRecDepth 100000 in
theorem reads (os : Os) {H : Type} (enc : TypeId × Value → H) : ∃ places, DataW.whole enc Tryd.prog ((laidWorld os).forCall (fun _ _ => 0) ⟨#[], #[.agg #[.slice none 0 0, .int .i64 0, .slice none 0 0, .slice none 0 0, .int .i64 0]], []⟩).memory Tryd.f3.params.toList Rows.loadTellsSpec.vars false (#[.agg #[.slice none 0 0, .int .i64 0, .slice none 0 0, .slice none 0 0, .int .i64 0]] : Array Value).toList 8 = some ([.agg [.nil, .lit (.int .i64 0), .nil, .nil, .lit (.int .i64 0)]], [], places) :=
  ⟨[], by kernel_rfl⟩

set_option maxRecDepth 100000 in
theorem lifted (os : Os) (started : os.Started) (H : Type) (enc : TypeId × Value → H) (F : Stop.Interp) :
    ReturnsInHanded {} Tryd.checked os 3 .any ((OpenSpec.ofChange Rows.loadTellsSpec).preRow enc Tryd.prog Tryd.f3 Rows.loadTellsRow.domain false Rows.loadTellsRow.laid) (((OpenSpec.ofChange Rows.loadTellsSpec).at F).post enc Tryd.prog Tryd.f3 false true false false) := by
  obtain ⟨places, hx⟩ := reads os enc
  refine returnsInHanded_of_row (C := Tryd.checked) (s := OpenSpec.ofChange Rows.loadTellsSpec) own started (by kernel_rfl) Tryd.func3
    (witness_row_at (enc := enc) (C := Tryd.checked) false (laidWorld os) #[.agg #[.slice none 0 0, .int .i64 0, .slice none 0 0, .slice none 0 0, .int .i64 0]] rfl (by kernel_rfl) (by kernel_rfl) (by kernel_rfl)
      (OpenSpec.preRow_of_cond 8 hx (by kernel_rfl) (fun k hk => by cases hk) (by kernel_rfl) (laid_met os))) ?_
  intro W base args ds gs before hval hW _ _ _ hL _ _
  exact contract H enc W base args ds gs before hval hW hL

theorem said : Rows.LoadTellsSaid :=
  OpenClaim.holds_of_cond 3 Tryd.f3 rfl rfl rfl rfl rfl rfl rfl ⟨rfl, rfl, rfl, rfl, rfl⟩ rfl rfl rfl rfl rfl (by kernel_rfl) Tryd.func3 (by kernel_rfl)
    (of_decide_eq_true (by kernel_rfl)) (by unfold Func.isWrapper; first | (rw [if_pos (by decide +kernel)]; kernel_rfl) | (rw [if_neg (by decide +kernel)]; exact ⟨rfl, rfl⟩))
    (fun os started H enc _ F => by rw [OpenClaim.pre_eq_preRow]; exact lifted os started H enc F)

set_option maxRecDepth 100000 in
/-- No parameter wants a stand-in; the program's own looks are off. -/
theorem plain (f : FuncId) (fn : Func) (hf : Tryd.pinned.checked.prog.funcNamed "tattle/tattlelaw14.LoadTells" = some f) (hfn : Tryd.pinned.checked.prog.funcs[f]? = some fn) :
    false = Tryd.pinned.checked.prog.looks [] ∧ ∀ (j : Nat) t, fn.params[j]? = some t → Tryd.pinned.checked.prog.wantsStandIn t = false := by
  obtain rfl : f = 3 := Option.some.inj ((show Tryd.prog.funcNamed "tattle/tattlelaw14.LoadTells" = some 3 by kernel_rfl).symm.trans hf) |>.symm
  obtain rfl : fn = Tryd.f3 := (Option.some.inj (Tryd.func3.symm.trans hfn)).symm
  refine ⟨by kernel_rfl, fun j t ht => ?_⟩
  rw [Tryd.params3] at ht
  have hm : t ∈ [26] := by simpa using Array.mem_of_getElem? ht
  have hall : ([26].all fun u => !Tryd.prog.wantsStandIn u) = true := by kernel_rfl
  exact (show Tryd.prog.wantsStandIn t = false by simpa using List.all_eq_true.1 hall t hm)

/-- THE CARD. -/
theorem card : Rows.LoadTellsCardSaid :=
  Claim7.holds_tied_plain_at .later [] _ _ _ _ said (fun _ h => by cases h) (by kernel_rfl) (fun _ h => by cases h) loadTells_row_tie rfl ⟨rfl, rfl⟩ (by kernel_rfl) rfl plain (by kernel_rfl)
end Go.Proofs.YthcjjogomknddaaDoor.lawTells
