/-
  THE LAW KnowGrows: told in whatever order, as often as it will, what is known never falls, and comes to the same.
  For every list, and every order; the law itself looks at the first twenty of the one, and at the first sixty of the other.
-/
import Derived.Test.YtcichjphfdepmaaLaw
import Derived.Test.YtcichjphfdepmaaPlan
namespace Go.Proofs.Ytcichjphfdepmaa.lawGrows
open Go.Sort Go.ChangeShapes Go.WideShapes Go.ChangeAt Go.RowKit Go.Joins Go.Proofs.Ytcichjphfdepmaa.Pure

theorem cell_on {w w' : World} {p : Addr} {v : Value} (h : w.cell? p = some v) (hb : Below w.heap.size w w') : w'.cell? p = some v := (hb.cell (World.block_lt_of_cell? w _ h)).trans h
theorem cell_set {w : World} {p : Addr} {v : Value} (h : w.cell? p = some v) (g : Nat) (hg : p.block ≠ g) (u u' : Value) : ((w.setCell ⟨g, 0, none⟩ u).setCell ⟨g, 1, none⟩ u').cell? p = some v := by
  rw [World.cell?_setCell_other _ _ _ _ (fun e => hg (by rw [← e])), World.cell?_setCell_other _ _ _ _ (fun e => hg (by rw [← e]))]
  exact h
section
variable {w w' : World} {p q r s t : Addr} {v1 v2 v3 v4 v5 : Value}
theorem four_on (h : w.cell? p = some v1 ∧ w.cell? q = some v2 ∧ w.cell? r = some v3 ∧ w.cell? s = some v4) (hb : Below w.heap.size w w') : w'.cell? p = some v1 ∧ w'.cell? q = some v2 ∧ w'.cell? r = some v3 ∧ w'.cell? s = some v4 :=
  ⟨cell_on h.1 hb, cell_on h.2.1 hb, cell_on h.2.2.1 hb, cell_on h.2.2.2 hb⟩
theorem five_on (h : w.cell? p = some v1 ∧ w.cell? q = some v2 ∧ w.cell? r = some v3 ∧ w.cell? s = some v4 ∧ w.cell? t = some v5) (hb : Below w.heap.size w w') : w'.cell? p = some v1 ∧ w'.cell? q = some v2 ∧ w'.cell? r = some v3 ∧ w'.cell? s = some v4 ∧ w'.cell? t = some v5 :=
  ⟨cell_on h.1 hb, cell_on h.2.1 hb, cell_on h.2.2.1 hb, cell_on h.2.2.2.1 hb, cell_on h.2.2.2.2 hb⟩
theorem four_set (h : w.cell? p = some v1 ∧ w.cell? q = some v2 ∧ w.cell? r = some v3 ∧ w.cell? s = some v4) (g : Nat) (hg : p.block ≠ g ∧ q.block ≠ g ∧ r.block ≠ g ∧ s.block ≠ g) (u u' : Value) :
    ((w.setCell ⟨g, 0, none⟩ u).setCell ⟨g, 1, none⟩ u').cell? p = some v1 ∧ ((w.setCell ⟨g, 0, none⟩ u).setCell ⟨g, 1, none⟩ u').cell? q = some v2 ∧ ((w.setCell ⟨g, 0, none⟩ u).setCell ⟨g, 1, none⟩ u').cell? r = some v3 ∧ ((w.setCell ⟨g, 0, none⟩ u).setCell ⟨g, 1, none⟩ u').cell? s = some v4 :=
  ⟨cell_set h.1 g hg.1 u u', cell_set h.2.1 g hg.2.1 u u', cell_set h.2.2.1 g hg.2.2.1 u u', cell_set h.2.2.2 g hg.2.2.2 u u'⟩
theorem five_set (h : w.cell? p = some v1 ∧ w.cell? q = some v2 ∧ w.cell? r = some v3 ∧ w.cell? s = some v4 ∧ w.cell? t = some v5) (g : Nat) (hg : p.block ≠ g ∧ q.block ≠ g ∧ r.block ≠ g ∧ s.block ≠ g ∧ t.block ≠ g) (u u' : Value) :
    ((w.setCell ⟨g, 0, none⟩ u).setCell ⟨g, 1, none⟩ u').cell? p = some v1 ∧ ((w.setCell ⟨g, 0, none⟩ u).setCell ⟨g, 1, none⟩ u').cell? q = some v2 ∧ ((w.setCell ⟨g, 0, none⟩ u).setCell ⟨g, 1, none⟩ u').cell? r = some v3 ∧ ((w.setCell ⟨g, 0, none⟩ u).setCell ⟨g, 1, none⟩ u').cell? s = some v4 ∧ ((w.setCell ⟨g, 0, none⟩ u).setCell ⟨g, 1, none⟩ u').cell? t = some v5 :=
  ⟨cell_set h.1 g hg.1 u u', cell_set h.2.1 g hg.2.1 u u', cell_set h.2.2.1 g hg.2.2.1 u u', cell_set h.2.2.2.1 g hg.2.2.2.1 u u', cell_set h.2.2.2.2 g hg.2.2.2.2 u u'⟩
end

set_option maxRecDepth 100000 in
set_option maxHeartbeats 4000000 in
theorem wayBad (A B : Option Addr) (n0 c d m : Nat) (l : List Kn) (w : World) (HF : Hid (∀ W : World, Calls Try.prog 17 #[.slice A n0 c] W fun e w' => e = .returned (.slice A l.length c) ∧ W = w')) (HL : Hid (Lst w A l)) (er : Int) (her : er = 1 ∨ er = 0 ∧ l.length = 0)
    (HCK : Hid (∀ W : World, Lst W A l → Calls Try.prog 14 #[.slice A l.length c] W fun e w' => e = .returned (.int .i64 er) ∧ Below W.heap.size W w')) :
    Calls Try.prog 7 #[.slice A n0 c, .slice B m d] w fun e w' => e = .returned (.bool true) ∧ Below w.heap.size w w' := by
  have HER := Lib.hid her
  clear her
  go_enter Try.func7, Try.ntmps7
  go_wp2_with fail
  refine (HF.out _).mono ?_
  rintro e w' ⟨rfl, rfl⟩
  go_wp2_with fail
  refine (HCK.out _ HL.out).mono ?_
  rintro e w1 ⟨rfl, hb1⟩
  have HB1 := Lib.hid hb1
  clear hb1
  rcases HER.out with rfl | ⟨rfl, h0⟩
  · go_wp2_with fail
    refine (awake_any _).mono ?_
    rintro e wE ⟨rfl, hbE⟩
    have HE : Hid (Below w.heap.size w wE) := Lib.hid (HB1.out.trans (hbE.mono HB1.out.size))
    clear hbE
    go_wp2_with fail
    go_ret
    exact ⟨rfl, HE.out⟩
  · have e0 : ((l.length : Int) == 0) = true := by simp [h0]
    clear h0
    go_wp2_with fail
    refine (awake_any _).mono ?_
    rintro e wE ⟨rfl, hbE⟩
    have HE : Hid (Below w.heap.size w wE) := Lib.hid (HB1.out.trans (hbE.mono HB1.out.size))
    clear hbE
    go_wp2_with fail
    go_ret
    exact ⟨rfl, HE.out⟩

set_option maxRecDepth 100000 in
set_option maxHeartbeats 4000000 in
theorem run_walk (A B : Option Addr) (n0 c d : Nat) (l : List Kn) (is : List Int) (w : World) (HF : Hid (∀ W : World, Calls Try.prog 17 #[.slice A n0 c] W fun e w' => e = .returned (.slice A l.length c) ∧ W = w')) (HL : Hid (Lst w A l)) (HIS : Hid (∀ j, j < is.length → ∃ ad, B = some ad ∧ ad.block < w.heap.size ∧ w.cell? (ad.add j) = some (.int .u8 (is.getD j 0)))) (HO : Hid (∀ i ∈ is, 0 ≤ i ∧ i ≤ 255))
    (hn : l.length ≤ 20) (h0 : 0 < l.length) (hi : is.length ≤ maxLen) (HM : Hid (mayL l = true)) (HFT : Hid (∀ x ∈ l, Fit x)) :
    Calls Try.prog 7 #[.slice A n0 c, .slice B is.length d] w fun e w' => e = .returned (.bool true) ∧ Below w.heap.size w w' := by
  have HCK : Hid (∀ W : World, Lst W A l → Calls Try.prog 14 #[.slice A l.length c] W fun e w' => e = .returned (.int .i64 0) ∧ Below W.heap.size W w') := Lib.hid fun W h => check_any A c l W (by omega) h true HM.out
  have HJA : Hid (∀ W : World, Lst W A l → Calls Try.prog 18 #[.slice A l.length c] W fun e w' => e = .returned (.tuple #[.agg #[.int .u64 (joinL l).i, .int .i64 (joinL l).s], .int .i64 0]) ∧ Below W.heap.size W w') := Lib.hid fun W h => join_yes A c l W (by omega) h HM.out
  have HJM : Hid (mayK (joinL l) = true ∧ Fit (joinL l)) := Lib.hid ⟨join_may l, join_fit l HFT.out⟩
  have HKL : Hid (∀ j, j < l.length → mayK (kn l j) = true ∧ Fit (kn l j) ∧ key (kn l j) ≤ key (joinL l)) := Lib.hid fun j hj => ⟨(mayL_iff l).1 HM.out j hj, HFT.out _ (by
    have : kn l j = l[j] := by simp [kn, hj]
    rw [this]
    exact List.getElem_mem hj), key_join_ge l HM.out HFT.out j hj⟩
  have HJE : Hid (∀ K : Int, 0 ≤ K → (∀ j, j < l.length → key (kn l j) ≤ K) → key (joinL l) ≤ K) := Lib.hid fun K hK h => (key_join_le l HM.out K hK).2 h
  generalize joinL l = J at *
  obtain ⟨ad, rfl, hal, _⟩ := HL.out 0 h0
  have en0 : ((l.length : Int) == 0) = false := by rw [beq_eq_false_iff_ne]; omega
  have nl : ¬l = [] := fun h => by rw [h] at h0; simp at h0
  have hi' : is.length ≤ 9223372036854775807 := by unfold maxLen at hi; omega
  clear hi HM HFT
  go_enter Try.func7, Try.ntmps7
  go_wp2_with fail
  refine (HF.out _).mono ?_
  rintro e w' ⟨rfl, rfl⟩
  go_wp2_with fail
  refine (HCK.out _ HL.out).mono ?_
  rintro e w1 ⟨rfl, hb1⟩
  have HB1 := Lib.hid hb1
  have HL1 := Lib.hid (HL.out.on hb1)
  clear hb1
  go_wp2_with fail
  refine (HJA.out _ HL1.out).mono ?_
  rintro e w2 ⟨rfl, hb2⟩
  have HB2 : Hid (Below w.heap.size w w2) := Lib.hid (HB1.out.trans (hb2.mono HB1.out.size))
  clear hb2 HB1 HL1 HF HCK HJA
  go_upto_region 5 with (fail)
  have BA3 := Lib.hid (Vr.new w2 J 24)
  have HB3 : Hid (Below w.heap.size w (w2.alloc (.cells #[.int .u64 J.i, .int .i64 J.s] 24))) := Lib.hid (HB2.out.alloc HB2.out.size _)
  have hg2 : w.heap.size ≤ w2.heap.size := HB2.out.size
  generalize w2.alloc (.cells #[.int .u64 J.i, .int .i64 J.s] 24) = w3 at *
  generalize w2.heap.size = ga at *
  clear HB2
  go_upto_region 6 with (fail)
  have BN4 := Lib.hid (Vr.zero (w := w3) rfl 24)
  have BA4 := Lib.hid (BA3.out.alloc (.cells #[.int .u64 0, .int .i64 0] 24))
  have HB4 : Hid (Below w.heap.size w (w3.alloc (.cells #[.int .u64 0, .int .i64 0] 24))) := Lib.hid (HB3.out.alloc HB3.out.size _)
  have hg3 : ga < w3.heap.size := BA3.out.lt
  generalize w3.alloc (.cells #[.int .u64 0, .int .i64 0] 24) = w4 at *
  generalize w3.heap.size = gn at *
  clear HB3 BA3
  go_wp2_with fail
  go_loopw [8] (fun i wr => ∃ k : Nat, i = .int .i64 k ∧ k ≤ is.length ∧ Hid (∃ N : Kn, mayK N = true ∧ Fit N ∧ key N ≤ key J ∧ Vr wr gn N) ∧ Hid (Vr wr ga J) ∧ Hid (Below w.heap.size w wr)) (fun i _ => is.length - (intOf i).toNat)
  case atStart => exact ⟨0, rfl, Nat.zero_le _, Lib.hid ⟨z0, may_z0, fit_z0, by rw [key_z0]; exact key_pos HJM.out.1 HJM.out.2, BN4.out⟩, BA4, HB4⟩
  case round =>
    clear BA4 BN4 HB4
    obtain ⟨k, rfl, hk, hN, hbj, hb⟩ := hrel
    obtain ⟨N, mN, fN, kN, hbn⟩ := hN.out
    have HN := Lib.hid (⟨mN, fN, kN⟩ : mayK N = true ∧ Fit N ∧ key N ≤ key J)
    have hbn := Lib.hid hbn
    clear hN mN fN kN
    have hcd : k < is.length ∨ ¬k < is.length := by omega
    obtain ⟨bc, hbc⟩ : ∃ b : Bool, b = decide (k < is.length ∧ k < 60) := ⟨_, rfl⟩
    have HBC := Lib.hid hbc
    clear hbc
    go_upto_region 7 with (fail)
    go_cut [38] (fun s wx => s = .bool bc ∧ wr = wx)
    case first =>
      rcases hcd with h1 | h1
      · have e0 : decide ((k : Int) < (is.length : Int)) = true := by simp; omega
        by_cases h2 : k < 60
        · have e1 : decide ((k : Int) < 60) = true := by simp; omega
          obtain rfl : bc = true := by rw [HBC.out]; simp [h1, h2]
          go_wp2_with fail
          go_meet
          exact ⟨rfl, rfl⟩
        · have e1 : decide ((k : Int) < 60) = false := by simp; omega
          obtain rfl : bc = false := by rw [HBC.out]; simp [h2]
          go_wp2_with fail
          go_meet
          exact ⟨rfl, rfl⟩
      · have e0 : decide ((k : Int) < (is.length : Int)) = false := by simp; omega
        obtain rfl : bc = false := by rw [HBC.out]; simp [h1]
        go_wp2_with fail
        go_meet
        exact ⟨rfl, rfl⟩
    case rest =>
    obtain ⟨rfl, rfl⟩ := hcut
    clear hcd
    rcases bc with _ | _
    · clear HBC
      have wl : IntKind.i64.wrap ((l.length : Int) - 1) = (l.length : Int) - 1 := IntWalk.i64_in _ (by omega)
      have HN0 : Hid (∃ N : Kn, mayK N = true ∧ Fit N ∧ key N ≤ key J ∧ (∀ j, l.length ≤ j → j < l.length → key (kn l j) ≤ key N) ∧ Vr wr gn N) := Lib.hid ⟨N, HN.out.1, HN.out.2.1, HN.out.2.2, fun j h1 h2 => absurd h1 (by omega), hbn.out⟩
      clear HN hbn hk
      go_wp2_with fail
      obtain ⟨wp, ewp⟩ : ∃ wp, wp = wr := ⟨_, rfl⟩
      subst ewp
      go_loopw [11] (fun i wr => ∃ m : Nat, i = .int .i64 ((m : Int) - 1) ∧ m ≤ l.length ∧ Hid (∃ N : Kn, mayK N = true ∧ Fit N ∧ key N ≤ key J ∧ (∀ j, m ≤ j → j < l.length → key (kn l j) ≤ key N) ∧ Vr wr gn N) ∧ Hid (Vr wr ga J) ∧ Hid (Below w.heap.size w wr)) (fun i _ => (intOf i + 1).toNat)
      case atStart => exact ⟨l.length, rfl, Nat.le_refl _, HN0, hbj, hb⟩
      case round =>
        clear HN0 hbj hb wl
        obtain ⟨m, rfl, hm, hN, hbj, hb⟩ := hrel
        obtain ⟨N, mN, fN, kN, aN, hbn⟩ := hN.out
        have HN := Lib.hid (⟨mN, fN, kN⟩ : mayK N = true ∧ Fit N ∧ key N ≤ key J)
        have HAN := Lib.hid aN
        have hbn := Lib.hid hbn
        clear hN mN fN kN aN
        by_cases hm0 : 0 < m
        · obtain ⟨j, rfl⟩ : ∃ j, m = j + 1 := ⟨m - 1, by omega⟩
          have ej : ((j + 1 : Nat) : Int) - 1 = (j : Int) := by omega
          rw [ej]
          have e0 : decide ((0 : Int) ≤ (j : Int)) = true := by simp
          have j0 : (0 : Int) ≤ (j : Int) := by omega
          have j1 : (j : Int) < (l.length : Int) := by omega
          have wj : IntKind.i64.wrap ((j : Int) - 1) = (j : Int) - 1 := IntWalk.i64_in _ (by omega)
          obtain ⟨_, ee, _, h1⟩ := (HL.out.on hb.out) j (by omega)
          obtain rfl := Option.some.inj ee
          obtain ⟨a0, a1⟩ := h1.flat
          have HK := Lib.hid (HKL.out j (by omega))
          have HAJ : Hid (∀ i, j ≤ i → i < l.length → i ≠ j → key (kn l i) ≤ key N) := Lib.hid fun i h1 h2 h3 => HAN.out i (by omega) h2
          obtain ⟨K, hKn⟩ : ∃ K, kn l j = K := ⟨_, rfl⟩
          rw [hKn] at HK a0 a1
          have HKn := Lib.hid hKn
          clear h1 ee hm0 ej hKn HAN
          obtain ⟨⟨m0, m1⟩, _⟩ := hbn.out
          have HJ2 : Hid (∀ (W : World) (g : Nat), Lst W (some ⟨g, 0, none⟩) [K, N] → Calls Try.prog 18 #[.slice (some ⟨g, 0, none⟩) 2 2] W fun e w' => e = .returned (.tuple #[.agg #[.int .u64 (stepK K N).i, .int .i64 (stepK K N).s], .int .i64 0]) ∧ Below W.heap.size W w') := Lib.hid fun W g h => join2_any g K N W HK.out.1 HN.out.1 HK.out.2.1 h
          have HM' : Hid (mayK (stepK K N) = true ∧ Fit (stepK K N) ∧ key (stepK K N) ≤ key J ∧ ∀ i, j ≤ i → i < l.length → key (kn l i) ≤ key (stepK K N)) := Lib.hid ⟨stepK_may HK.out.1, stepK_fit HK.out.2.1 HN.out.2.1, by
            rw [stepK_key HK.out.1 HN.out.1]
            have h1 := HN.out.2.2
            have h2 := HK.out.2.2
            omega, fun i h1 h2 => by
            rw [stepK_key HK.out.1 HN.out.1]
            by_cases e : i = j
            · rw [e, HKn.out]; omega
            · have := HAJ.out i h1 h2 e
              omega⟩
          generalize stepK K N = M at *
          have hbl : gn < wr.heap.size := hbn.out.lt
          have hsz : w.heap.size ≤ wr.heap.size := hb.out.size
          have bad : Hid ((ad.add (j * 2)).block = ad.block) := Lib.hid (block_add _ _)
          go_upto_region 16 with (fail)
          go_cut [12, 13] (fun s9 s10 wx => ∃ g, s9 = .pointer (some ⟨g, 0, none⟩) ∧ s10 = .int .i64 0 ∧ Hid (Vr wx g M) ∧ Hid (Below wr.heap.size wr wx))
          case first =>
            refine p_enter (.take 0 (.take 1 (.take 2 (.take 3 (.take 4 (.two 5 (.two 6 (.take 7 (.take 8 (.take 9 (.one 10 (.one 11 (.take 12 .done)))))) 10 (.one 6 (.take 7 (.take 8 (.take 9 (.one 11 (.take 12 .done))))))) 10 (.one 5 (.one 6 (.take 7 (.take 8 (.take 9 (.one 11 (.take 12 .done))))))))))))) (fun w' => w'.cell? ⟨gn, 0, none⟩ = some (.int .u64 N.i) ∧ w'.cell? ⟨gn, 1, none⟩ = some (.int .i64 N.s) ∧ w'.cell? (ad.add (j * 2)) = some (.int .u64 K.i) ∧ w'.cell? ⟨(ad.add (j * 2)).block, (ad.add (j * 2)).off + 1, none⟩ = some (.int .i64 K.s)) (by kernel_rfl) (by kernel_rfl) (by kernel_rfl) (fun _ _ d _ _ h => by cases d <;> exact h) ⟨m0, m1, a0, a1⟩ ?_
            simp only [pickP, opAt, List.drop_succ_cons, List.drop_zero]
            have hB_0 := Lib.hid ((Below.refl wr.heap.size wr).drew)
            have hS_0 : Hid (_ ∧ _) := Lib.hid (four_on ⟨m0, m1, a0, a1⟩ (Below.refl wr.heap.size wr).drew)
            have hz_0 : wr.heap.size ≤ wr.drew.heap.size := hB_0.out.size
            generalize wr.drew = wd at *
            clear m0 m1 a0 a1
            iterate 5 (first | (refine' p_yes ?_ (by rfl) ?_ ?_; rotate_left; (intro w' hS; (try dsimp only at hS); go_simp; try (with_reducible rfl)); simp only [Act.put, List.setIfInBounds_toArray, List.set_cons_zero, List.set_cons_succ]) | (refine p_no (by rfl) ?_; simp only [Act.put, List.setIfInBounds_toArray, List.set_cons_zero, List.set_cons_succ]))
            refine p_two ?_ ?_
            · intro KK hK
              go_simp
              have hbx : Below wd.heap.size wd (wd.alloc (.cells #[.int .u64 K.i, .int .i64 K.s, .int .u64 N.i, .int .i64 N.s] 24)) := (Below.refl _ _).alloc (Nat.le_refl _) _
              have hB_1 := Lib.hid (hB_0.out.trans (hbx.mono hz_0))
              have hS_1 : Hid (_ ∧ _) := Lib.hid (four_on hS_0.out hbx)
              have hz_1 : wr.heap.size ≤ (wd.alloc (.cells #[.int .u64 K.i, .int .i64 K.s, .int .u64 N.i, .int .i64 N.s] 24)).heap.size := hB_1.out.size
              have hL := Lib.hid (Lst.two wd K N 24)
              clear hB_0 hS_0 hz_0
              generalize wd.alloc (.cells #[.int .u64 K.i, .int .i64 K.s, .int .u64 N.i, .int .i64 N.s] 24) = wb at *
              clear hbx
              refine hK.out _ _ hS_1.out ?_
              clear hK
              refine p_two ?_ ?_
              · intro KK hK
                go_simp
                refine (HJ2.out _ _ hL.out).mono ?_
                rintro e wc' ⟨rfl, hbx⟩
                have hB_2 := Lib.hid (hB_1.out.trans (hbx.mono hz_1))
                have hS_2 : Hid (_ ∧ _) := Lib.hid (four_on hS_1.out hbx)
                have hz_2 : wr.heap.size ≤ wc'.heap.size := hB_2.out.size
                clear hB_1 hS_1 hz_1
                clear hbx hL
                refine hK.out _ _ hS_2.out ?_
                clear hK
                iterate 3 (first | (refine' p_yes ?_ (by rfl) ?_ ?_; rotate_left; (intro w' hS; (try dsimp only at hS); go_simp; try (with_reducible rfl)); simp only [Act.put, List.setIfInBounds_toArray, List.set_cons_zero, List.set_cons_succ]) | (refine p_no (by rfl) ?_; simp only [Act.put, List.setIfInBounds_toArray, List.set_cons_zero, List.set_cons_succ]))
                refine p_one ?_
                intro KK hK
                go_simp
                have hbx : Below wc'.heap.size wc' (wc'.alloc (.cells #[.int .u64 0, .int .i64 0] 24)) := (Below.refl _ _).alloc (Nat.le_refl _) _
                have hB_3 := Lib.hid (hB_2.out.trans (hbx.mono hz_2))
                have hS_3 : Hid (_ ∧ _) := Lib.hid (four_on hS_2.out hbx)
                have hz_3 : wr.heap.size ≤ (wc'.alloc (.cells #[.int .u64 0, .int .i64 0] 24)).heap.size := hB_3.out.size
                have hV := Lib.hid (Vr.zero (w := wc') rfl 24)
                have hgz : wr.heap.size ≤ wc'.heap.size := hz_2
                clear hB_2 hS_2 hz_2
                generalize wc'.alloc (.cells #[.int .u64 0, .int .i64 0] 24) = we at *
                generalize wc'.heap.size = g at *
                clear hbx
                refine hK.out _ _ hS_3.out ?_
                clear hK
                refine p_one ?_
                intro KK hK
                obtain ⟨⟨g0, g1⟩, gf⟩ := hV.out
                simp only [show z0.i = 0 from rfl, show z0.s = 0 from rfl] at g0 g1
                have gf0 := gf 0
                have gf1 := gf 1
                go_simp
                have hV2 := Lib.hid (hV.out.set M)
                have hB2 := Lib.hid ((hB_3.out.setCell (p := ⟨g, 0, none⟩) hgz (.int .u64 M.i)).setCell (p := ⟨g, 1, none⟩) hgz (.int .i64 M.s))
                have hS2 : Hid (_ ∧ _) := Lib.hid (four_set hS_3.out g ⟨by show gn ≠ g; omega, by show gn ≠ g; omega, by rw [bad.out]; omega, by show (ad.add (j * 2)).block ≠ g; rw [bad.out]; omega⟩ (.int .u64 M.i) (.int .i64 M.s))
                refine hK.out _ _ hS2.out ?_
                clear hK
                iterate 1 (first | (refine' p_yes ?_ (by rfl) ?_ ?_; rotate_left; (intro w' hS; (try dsimp only at hS); go_simp; try (with_reducible rfl)); simp only [Act.put, List.setIfInBounds_toArray, List.set_cons_zero, List.set_cons_succ]) | (refine p_no (by rfl) ?_; simp only [Act.put, List.setIfInBounds_toArray, List.set_cons_zero, List.set_cons_succ]))
                refine p_done ?_
                go_wp2_with fail
                go_meet
                exact ⟨g, rfl, rfl, hV2, hB2⟩
              · intro KK hK
                go_simp
                have hbx : Below wb.heap.size wb (wb.alloc (.cells #[.int .u64 0, .int .i64 0] 24)) := (Below.refl _ _).alloc (Nat.le_refl _) _
                have hB_2 := Lib.hid (hB_1.out.trans (hbx.mono hz_1))
                have hS_2 : Hid (_ ∧ _) := Lib.hid (four_on hS_1.out hbx)
                have hz_2 : wr.heap.size ≤ (wb.alloc (.cells #[.int .u64 0, .int .i64 0] 24)).heap.size := hB_2.out.size
                have hV := Lib.hid (Vr.zero (w := wb) rfl 24)
                have hgz : wr.heap.size ≤ wb.heap.size := hz_1
                have hL' := Lib.hid (hL.out.on hbx)
                clear hL
                have hL := hL'
                clear hL'
                clear hB_1 hS_1 hz_1
                generalize wb.alloc (.cells #[.int .u64 0, .int .i64 0] 24) = wc' at *
                generalize wb.heap.size = g at *
                clear hbx
                refine hK.out _ _ hS_2.out ?_
                clear hK
                refine p_one ?_
                intro KK hK
                go_simp
                refine (HJ2.out _ _ hL.out).mono ?_
                rintro e we ⟨rfl, hbx⟩
                have hB_3 := Lib.hid (hB_2.out.trans (hbx.mono hz_2))
                have hS_3 : Hid (_ ∧ _) := Lib.hid (four_on hS_2.out hbx)
                have hz_3 : wr.heap.size ≤ we.heap.size := hB_3.out.size
                have hV' := Lib.hid (hV.out.on hbx)
                clear hV
                have hV := hV'
                clear hV'
                clear hB_2 hS_2 hz_2
                clear hbx hL
                refine hK.out _ _ hS_3.out ?_
                clear hK
                iterate 3 (first | (refine' p_yes ?_ (by rfl) ?_ ?_; rotate_left; (intro w' hS; (try dsimp only at hS); go_simp; try (with_reducible rfl)); simp only [Act.put, List.setIfInBounds_toArray, List.set_cons_zero, List.set_cons_succ]) | (refine p_no (by rfl) ?_; simp only [Act.put, List.setIfInBounds_toArray, List.set_cons_zero, List.set_cons_succ]))
                refine p_one ?_
                intro KK hK
                obtain ⟨⟨g0, g1⟩, gf⟩ := hV.out
                simp only [show z0.i = 0 from rfl, show z0.s = 0 from rfl] at g0 g1
                have gf0 := gf 0
                have gf1 := gf 1
                go_simp
                have hV2 := Lib.hid (hV.out.set M)
                have hB2 := Lib.hid ((hB_3.out.setCell (p := ⟨g, 0, none⟩) hgz (.int .u64 M.i)).setCell (p := ⟨g, 1, none⟩) hgz (.int .i64 M.s))
                have hS2 : Hid (_ ∧ _) := Lib.hid (four_set hS_3.out g ⟨by show gn ≠ g; omega, by show gn ≠ g; omega, by rw [bad.out]; omega, by show (ad.add (j * 2)).block ≠ g; rw [bad.out]; omega⟩ (.int .u64 M.i) (.int .i64 M.s))
                refine hK.out _ _ hS2.out ?_
                clear hK
                iterate 1 (first | (refine' p_yes ?_ (by rfl) ?_ ?_; rotate_left; (intro w' hS; (try dsimp only at hS); go_simp; try (with_reducible rfl)); simp only [Act.put, List.setIfInBounds_toArray, List.set_cons_zero, List.set_cons_succ]) | (refine p_no (by rfl) ?_; simp only [Act.put, List.setIfInBounds_toArray, List.set_cons_zero, List.set_cons_succ]))
                refine p_done ?_
                go_wp2_with fail
                go_meet
                exact ⟨g, rfl, rfl, hV2, hB2⟩
            · intro KK hK
              go_simp
              have hbx : Below wd.heap.size wd (wd.alloc (.cells #[.int .u64 0, .int .i64 0] 24)) := (Below.refl _ _).alloc (Nat.le_refl _) _
              have hB_1 := Lib.hid (hB_0.out.trans (hbx.mono hz_0))
              have hS_1 : Hid (_ ∧ _) := Lib.hid (four_on hS_0.out hbx)
              have hz_1 : wr.heap.size ≤ (wd.alloc (.cells #[.int .u64 0, .int .i64 0] 24)).heap.size := hB_1.out.size
              have hV := Lib.hid (Vr.zero (w := wd) rfl 24)
              have hgz : wr.heap.size ≤ wd.heap.size := hz_0
              clear hB_0 hS_0 hz_0
              generalize wd.alloc (.cells #[.int .u64 0, .int .i64 0] 24) = wb at *
              generalize wd.heap.size = g at *
              clear hbx
              refine hK.out _ _ hS_1.out ?_
              clear hK
              refine p_one ?_
              intro KK hK
              go_simp
              have hbx : Below wb.heap.size wb (wb.alloc (.cells #[.int .u64 K.i, .int .i64 K.s, .int .u64 N.i, .int .i64 N.s] 24)) := (Below.refl _ _).alloc (Nat.le_refl _) _
              have hB_2 := Lib.hid (hB_1.out.trans (hbx.mono hz_1))
              have hS_2 : Hid (_ ∧ _) := Lib.hid (four_on hS_1.out hbx)
              have hz_2 : wr.heap.size ≤ (wb.alloc (.cells #[.int .u64 K.i, .int .i64 K.s, .int .u64 N.i, .int .i64 N.s] 24)).heap.size := hB_2.out.size
              have hL := Lib.hid (Lst.two wb K N 24)
              have hV' := Lib.hid (hV.out.on hbx)
              clear hV
              have hV := hV'
              clear hV'
              clear hB_1 hS_1 hz_1
              generalize wb.alloc (.cells #[.int .u64 K.i, .int .i64 K.s, .int .u64 N.i, .int .i64 N.s] 24) = wc' at *
              clear hbx
              refine hK.out _ _ hS_2.out ?_
              clear hK
              refine p_one ?_
              intro KK hK
              go_simp
              refine (HJ2.out _ _ hL.out).mono ?_
              rintro e we ⟨rfl, hbx⟩
              have hB_3 := Lib.hid (hB_2.out.trans (hbx.mono hz_2))
              have hS_3 : Hid (_ ∧ _) := Lib.hid (four_on hS_2.out hbx)
              have hz_3 : wr.heap.size ≤ we.heap.size := hB_3.out.size
              have hV' := Lib.hid (hV.out.on hbx)
              clear hV
              have hV := hV'
              clear hV'
              clear hB_2 hS_2 hz_2
              clear hbx hL
              refine hK.out _ _ hS_3.out ?_
              clear hK
              iterate 3 (first | (refine' p_yes ?_ (by rfl) ?_ ?_; rotate_left; (intro w' hS; (try dsimp only at hS); go_simp; try (with_reducible rfl)); simp only [Act.put, List.setIfInBounds_toArray, List.set_cons_zero, List.set_cons_succ]) | (refine p_no (by rfl) ?_; simp only [Act.put, List.setIfInBounds_toArray, List.set_cons_zero, List.set_cons_succ]))
              refine p_one ?_
              intro KK hK
              obtain ⟨⟨g0, g1⟩, gf⟩ := hV.out
              simp only [show z0.i = 0 from rfl, show z0.s = 0 from rfl] at g0 g1
              have gf0 := gf 0
              have gf1 := gf 1
              go_simp
              have hV2 := Lib.hid (hV.out.set M)
              have hB2 := Lib.hid ((hB_3.out.setCell (p := ⟨g, 0, none⟩) hgz (.int .u64 M.i)).setCell (p := ⟨g, 1, none⟩) hgz (.int .i64 M.s))
              have hS2 : Hid (_ ∧ _) := Lib.hid (four_set hS_3.out g ⟨by show gn ≠ g; omega, by show gn ≠ g; omega, by rw [bad.out]; omega, by show (ad.add (j * 2)).block ≠ g; rw [bad.out]; omega⟩ (.int .u64 M.i) (.int .i64 M.s))
              refine hK.out _ _ hS2.out ?_
              clear hK
              iterate 1 (first | (refine' p_yes ?_ (by rfl) ?_ ?_; rotate_left; (intro w' hS; (try dsimp only at hS); go_simp; try (with_reducible rfl)); simp only [Act.put, List.setIfInBounds_toArray, List.set_cons_zero, List.set_cons_succ]) | (refine p_no (by rfl) ?_; simp only [Act.put, List.setIfInBounds_toArray, List.set_cons_zero, List.set_cons_succ]))
              refine p_done ?_
              go_wp2_with fail
              go_meet
              exact ⟨g, rfl, rfl, hV2, hB2⟩
          case rest =>
          obtain ⟨g, rfl, rfl, HV, HC⟩ := hcut
          have HB5 : Hid (Below w.heap.size w _) := Lib.hid (hb.out.trans (HC.out.mono hb.out.size))
          have BN5 := Lib.hid (hbn.out.on HC.out)
          have BJ5 := Lib.hid (hbj.out.on HC.out)
          clear m0 m1 a0 a1 hbn hbj HC hb HJ2
          obtain ⟨⟨m0, m1⟩, fz⟩ := BN5.out
          obtain ⟨⟨g0, g1⟩, _⟩ := HV.out
          have fz0 := fz 0
          have fz1 := fz 1
          have HE := Lib.hid ((HB5.out.setCell (p := ⟨gn, 0, none⟩) (by simp; omega) (.int .u64 M.i)).setCell (p := ⟨gn, 1, none⟩) (by simp; omega) (.int .i64 M.s))
          have HNN := Lib.hid (BN5.out.set M)
          have HJJ := Lib.hid (BJ5.out.apart (c := gn) (by omega) M)
          have HREL : Hid (∃ N : Kn, mayK N = true ∧ Fit N ∧ key N ≤ key J ∧ (∀ i, j ≤ i → i < l.length → key (kn l i) ≤ key N) ∧ Vr ((wc.setCell ⟨gn, 0, none⟩ (.int .u64 M.i)).setCell ⟨gn, 1, none⟩ (.int .i64 M.s)) gn N) := Lib.hid (Exists.intro M ⟨HM'.out.1, HM'.out.2.1, HM'.out.2.2.1, HM'.out.2.2.2, HNN.out⟩)
          clear fz
          go_wp2_with fail
          go_roundw
          case rel => exact ⟨j, by go_num, by omega, HREL, HJJ, HE⟩
          case measure => simp [intOf]
        · obtain rfl : m = 0 := by omega
          obtain rfl : N = J := key_inj HN.out.1 HJM.out.1 (Int.le_antisymm HN.out.2.2 (HJE.out _ (key_pos HN.out.1 HN.out.2.1) fun j hj => HAN.out j (by omega) hj))
          obtain ⟨⟨m0, m1⟩, _⟩ := hbn.out
          obtain ⟨⟨g0, g1⟩, _⟩ := hbj.out
          have e0 : decide ((0 : Int) ≤ ((0 : Nat) : Int) - 1) = false := by decide
          have e1 : decide ((0 : Int) ≤ -1) = false := by decide
          go_wp2_with fail
          refine (awake_any _).mono ?_
          rintro e wE ⟨rfl, hbE⟩
          have HE : Hid (Below w.heap.size w wE) := Lib.hid (hb.out.trans (hbE.mono hb.out.size))
          clear hbE
          go_wp2_with fail
          go_ret
          exact ⟨rfl, HE.out⟩
    · obtain ⟨hlt, h60⟩ : k < is.length ∧ k < 60 := by simpa using HBC.out.symm
      have k0 : (0 : Int) ≤ (k : Int) := by omega
      have k1 : (k : Int) < (is.length : Int) := by omega
      obtain ⟨od, rfl, hob, oc⟩ := HIS.out k hlt
      have hor := HO.out (is.getD k 0) (by
        have : is.getD k 0 = is[k] := by simp [List.getD, hlt]
        rw [this]
        exact List.getElem_mem hlt)
      have oc' := (hb.out.cell (p := od.add k) (by rw [block_add]; exact hob)).trans oc
      generalize is.getD k 0 = o at *
      obtain ⟨j, hj, hjl⟩ : ∃ j : Nat, Int.tmod o (l.length : Int) = (j : Int) ∧ j < l.length := by
        have h1 := Int.tmod_eq_emod_of_nonneg (b := (l.length : Int)) hor.1
        have h2 := Int.emod_nonneg o (b := (l.length : Int)) (by omega)
        have h3 := Int.emod_lt_of_pos o (b := (l.length : Int)) (by omega)
        exact ⟨(o % (l.length : Int)).toNat, by omega, by omega⟩
      have wo : IntKind.i64.wrap o = o := IntWalk.i64_in _ (by omega)
      have wj : IntKind.i64.wrap (j : Int) = (j : Int) := IntWalk.i64_in _ (by omega)
      have j0 : (0 : Int) ≤ (j : Int) := by omega
      have j1 : (j : Int) < (l.length : Int) := by omega
      have nz : ¬(l.length : Int) = 0 := by omega
      obtain ⟨_, ee, _, h1⟩ := (HL.out.on hb.out) j hjl
      obtain rfl := Option.some.inj ee
      obtain ⟨a0, a1⟩ := h1.flat
      have HK := Lib.hid (HKL.out j hjl)
      generalize hKn : kn l j = K at *
      clear h1 hKn oc hlt ee
      obtain ⟨⟨m0, m1⟩, _⟩ := hbn.out
      have HJ2 : Hid (∀ (W : World) (g : Nat), Lst W (some ⟨g, 0, none⟩) [N, K] → Calls Try.prog 18 #[.slice (some ⟨g, 0, none⟩) 2 2] W fun e w' => e = .returned (.tuple #[.agg #[.int .u64 (stepK N K).i, .int .i64 (stepK N K).s], .int .i64 0]) ∧ Below W.heap.size W w') := Lib.hid fun W g h => join2_any g N K W HN.out.1 HK.out.1 HN.out.2.1 h
      have HBF : Hid (∀ W : World, Calls Try.prog 12 #[.agg #[.int .u64 N.i, .int .i64 N.s], .agg #[.int .u64 (stepK N K).i, .int .i64 (stepK N K).s]] W fun e w' => e = .returned (.bool false) ∧ Below W.heap.size W w') := Lib.hid fun W => by
        have := beats_any N (stepK N K) W
        rwa [show beatsB N (stepK N K) = false by
          rw [beats_key HN.out.1 (stepK_may HN.out.1), stepK_key HN.out.1 HK.out.1]
          simp only [decide_eq_false_iff_not]
          omega] at this
      have HM' : Hid (mayK (stepK N K) = true ∧ Fit (stepK N K) ∧ key (stepK N K) ≤ key J) := Lib.hid ⟨stepK_may HN.out.1, stepK_fit HN.out.2.1 HK.out.2.1, by
        rw [stepK_key HN.out.1 HK.out.1]
        have h1 := HN.out.2.2
        have h2 := HK.out.2.2
        omega⟩
      generalize stepK N K = M at *
      have hbl : gn < wr.heap.size := hbn.out.lt
      have hsz : w.heap.size ≤ wr.heap.size := hb.out.size
      have bad : Hid ((ad.add (j * 2)).block = ad.block) := Lib.hid (block_add _ _)
      have bod : Hid ((od.add k).block = od.block) := Lib.hid (block_add _ _)
      go_upto_region 9 with (fail)
      go_cut [9, 10] (fun s9 s10 wx => ∃ g, s9 = .pointer (some ⟨g, 0, none⟩) ∧ s10 = .int .i64 0 ∧ Hid (Vr wx g M) ∧ Hid (Below wr.heap.size wr wx))
      case first =>
        refine p_enter (.take 0 (.take 1 (.take 2 (.take 3 (.take 4 (.take 5 (.take 6 (.take 7 (.take 8 (.take 9 (.take 10 (.take 11 (.two 12 (.two 13 (.take 14 (.take 15 (.take 16 (.one 17 (.one 18 (.take 19 .done)))))) 17 (.one 13 (.take 14 (.take 15 (.take 16 (.one 18 (.take 19 .done))))))) 17 (.one 12 (.one 13 (.take 14 (.take 15 (.take 16 (.one 18 (.take 19 .done)))))))))))))))))))) (fun w' => w'.cell? ⟨gn, 0, none⟩ = some (.int .u64 N.i) ∧ w'.cell? ⟨gn, 1, none⟩ = some (.int .i64 N.s) ∧ w'.cell? (od.add k) = some (.int .u8 o) ∧ w'.cell? (ad.add (j * 2)) = some (.int .u64 K.i) ∧ w'.cell? ⟨(ad.add (j * 2)).block, (ad.add (j * 2)).off + 1, none⟩ = some (.int .i64 K.s)) (by kernel_rfl) (by kernel_rfl) (by kernel_rfl) (fun _ _ d _ _ h => by cases d <;> exact h) ⟨m0, m1, oc', a0, a1⟩ ?_
        simp only [pickP, opAt, List.drop_succ_cons, List.drop_zero]
        have hB_0 := Lib.hid ((Below.refl wr.heap.size wr).drew)
        have hS_0 : Hid (_ ∧ _) := Lib.hid (five_on ⟨m0, m1, oc', a0, a1⟩ (Below.refl wr.heap.size wr).drew)
        have hz_0 : wr.heap.size ≤ wr.drew.heap.size := hB_0.out.size
        generalize wr.drew = wd at *
        clear m0 m1 oc' a0 a1
        iterate 12 (first | (refine' p_yes ?_ (by rfl) ?_ ?_; rotate_left; (intro w' hS; (try dsimp only at hS); go_simp; try (with_reducible rfl)); simp only [Act.put, List.setIfInBounds_toArray, List.set_cons_zero, List.set_cons_succ]) | (refine p_no (by rfl) ?_; simp only [Act.put, List.setIfInBounds_toArray, List.set_cons_zero, List.set_cons_succ]))
        refine p_two ?_ ?_
        · intro KK hK
          go_simp
          have hbx : Below wd.heap.size wd (wd.alloc (.cells #[.int .u64 N.i, .int .i64 N.s, .int .u64 K.i, .int .i64 K.s] 24)) := (Below.refl _ _).alloc (Nat.le_refl _) _
          have hB_1 := Lib.hid (hB_0.out.trans (hbx.mono hz_0))
          have hS_1 : Hid (_ ∧ _) := Lib.hid (five_on hS_0.out hbx)
          have hz_1 : wr.heap.size ≤ (wd.alloc (.cells #[.int .u64 N.i, .int .i64 N.s, .int .u64 K.i, .int .i64 K.s] 24)).heap.size := hB_1.out.size
          have hL := Lib.hid (Lst.two wd N K 24)
          clear hB_0 hS_0 hz_0
          generalize wd.alloc (.cells #[.int .u64 N.i, .int .i64 N.s, .int .u64 K.i, .int .i64 K.s] 24) = wb at *
          clear hbx
          refine hK.out _ _ hS_1.out ?_
          clear hK
          refine p_two ?_ ?_
          · intro KK hK
            go_simp
            refine (HJ2.out _ _ hL.out).mono ?_
            rintro e wc' ⟨rfl, hbx⟩
            have hB_2 := Lib.hid (hB_1.out.trans (hbx.mono hz_1))
            have hS_2 : Hid (_ ∧ _) := Lib.hid (five_on hS_1.out hbx)
            have hz_2 : wr.heap.size ≤ wc'.heap.size := hB_2.out.size
            clear hB_1 hS_1 hz_1
            clear hbx hL
            refine hK.out _ _ hS_2.out ?_
            clear hK
            iterate 3 (first | (refine' p_yes ?_ (by rfl) ?_ ?_; rotate_left; (intro w' hS; (try dsimp only at hS); go_simp; try (with_reducible rfl)); simp only [Act.put, List.setIfInBounds_toArray, List.set_cons_zero, List.set_cons_succ]) | (refine p_no (by rfl) ?_; simp only [Act.put, List.setIfInBounds_toArray, List.set_cons_zero, List.set_cons_succ]))
            refine p_one ?_
            intro KK hK
            go_simp
            have hbx : Below wc'.heap.size wc' (wc'.alloc (.cells #[.int .u64 0, .int .i64 0] 24)) := (Below.refl _ _).alloc (Nat.le_refl _) _
            have hB_3 := Lib.hid (hB_2.out.trans (hbx.mono hz_2))
            have hS_3 : Hid (_ ∧ _) := Lib.hid (five_on hS_2.out hbx)
            have hz_3 : wr.heap.size ≤ (wc'.alloc (.cells #[.int .u64 0, .int .i64 0] 24)).heap.size := hB_3.out.size
            have hV := Lib.hid (Vr.zero (w := wc') rfl 24)
            have hgz : wr.heap.size ≤ wc'.heap.size := hz_2
            clear hB_2 hS_2 hz_2
            generalize wc'.alloc (.cells #[.int .u64 0, .int .i64 0] 24) = we at *
            generalize wc'.heap.size = g at *
            clear hbx
            refine hK.out _ _ hS_3.out ?_
            clear hK
            refine p_one ?_
            intro KK hK
            obtain ⟨⟨g0, g1⟩, gf⟩ := hV.out
            simp only [show z0.i = 0 from rfl, show z0.s = 0 from rfl] at g0 g1
            have gf0 := gf 0
            have gf1 := gf 1
            go_simp
            have hV2 := Lib.hid (hV.out.set M)
            have hB2 := Lib.hid ((hB_3.out.setCell (p := ⟨g, 0, none⟩) hgz (.int .u64 M.i)).setCell (p := ⟨g, 1, none⟩) hgz (.int .i64 M.s))
            have hS2 : Hid (_ ∧ _) := Lib.hid (five_set hS_3.out g ⟨by show gn ≠ g; omega, by show gn ≠ g; omega, by rw [bod.out]; omega, by rw [bad.out]; omega, by show (ad.add (j * 2)).block ≠ g; rw [bad.out]; omega⟩ (.int .u64 M.i) (.int .i64 M.s))
            refine hK.out _ _ hS2.out ?_
            clear hK
            iterate 1 (first | (refine' p_yes ?_ (by rfl) ?_ ?_; rotate_left; (intro w' hS; (try dsimp only at hS); go_simp; try (with_reducible rfl)); simp only [Act.put, List.setIfInBounds_toArray, List.set_cons_zero, List.set_cons_succ]) | (refine p_no (by rfl) ?_; simp only [Act.put, List.setIfInBounds_toArray, List.set_cons_zero, List.set_cons_succ]))
            refine p_done ?_
            go_wp2_with fail
            go_meet
            exact ⟨g, rfl, rfl, hV2, hB2⟩
          · intro KK hK
            go_simp
            have hbx : Below wb.heap.size wb (wb.alloc (.cells #[.int .u64 0, .int .i64 0] 24)) := (Below.refl _ _).alloc (Nat.le_refl _) _
            have hB_2 := Lib.hid (hB_1.out.trans (hbx.mono hz_1))
            have hS_2 : Hid (_ ∧ _) := Lib.hid (five_on hS_1.out hbx)
            have hz_2 : wr.heap.size ≤ (wb.alloc (.cells #[.int .u64 0, .int .i64 0] 24)).heap.size := hB_2.out.size
            have hV := Lib.hid (Vr.zero (w := wb) rfl 24)
            have hgz : wr.heap.size ≤ wb.heap.size := hz_1
            have hL' := Lib.hid (hL.out.on hbx)
            clear hL
            have hL := hL'
            clear hL'
            clear hB_1 hS_1 hz_1
            generalize wb.alloc (.cells #[.int .u64 0, .int .i64 0] 24) = wc' at *
            generalize wb.heap.size = g at *
            clear hbx
            refine hK.out _ _ hS_2.out ?_
            clear hK
            refine p_one ?_
            intro KK hK
            go_simp
            refine (HJ2.out _ _ hL.out).mono ?_
            rintro e we ⟨rfl, hbx⟩
            have hB_3 := Lib.hid (hB_2.out.trans (hbx.mono hz_2))
            have hS_3 : Hid (_ ∧ _) := Lib.hid (five_on hS_2.out hbx)
            have hz_3 : wr.heap.size ≤ we.heap.size := hB_3.out.size
            have hV' := Lib.hid (hV.out.on hbx)
            clear hV
            have hV := hV'
            clear hV'
            clear hB_2 hS_2 hz_2
            clear hbx hL
            refine hK.out _ _ hS_3.out ?_
            clear hK
            iterate 3 (first | (refine' p_yes ?_ (by rfl) ?_ ?_; rotate_left; (intro w' hS; (try dsimp only at hS); go_simp; try (with_reducible rfl)); simp only [Act.put, List.setIfInBounds_toArray, List.set_cons_zero, List.set_cons_succ]) | (refine p_no (by rfl) ?_; simp only [Act.put, List.setIfInBounds_toArray, List.set_cons_zero, List.set_cons_succ]))
            refine p_one ?_
            intro KK hK
            obtain ⟨⟨g0, g1⟩, gf⟩ := hV.out
            simp only [show z0.i = 0 from rfl, show z0.s = 0 from rfl] at g0 g1
            have gf0 := gf 0
            have gf1 := gf 1
            go_simp
            have hV2 := Lib.hid (hV.out.set M)
            have hB2 := Lib.hid ((hB_3.out.setCell (p := ⟨g, 0, none⟩) hgz (.int .u64 M.i)).setCell (p := ⟨g, 1, none⟩) hgz (.int .i64 M.s))
            have hS2 : Hid (_ ∧ _) := Lib.hid (five_set hS_3.out g ⟨by show gn ≠ g; omega, by show gn ≠ g; omega, by rw [bod.out]; omega, by rw [bad.out]; omega, by show (ad.add (j * 2)).block ≠ g; rw [bad.out]; omega⟩ (.int .u64 M.i) (.int .i64 M.s))
            refine hK.out _ _ hS2.out ?_
            clear hK
            iterate 1 (first | (refine' p_yes ?_ (by rfl) ?_ ?_; rotate_left; (intro w' hS; (try dsimp only at hS); go_simp; try (with_reducible rfl)); simp only [Act.put, List.setIfInBounds_toArray, List.set_cons_zero, List.set_cons_succ]) | (refine p_no (by rfl) ?_; simp only [Act.put, List.setIfInBounds_toArray, List.set_cons_zero, List.set_cons_succ]))
            refine p_done ?_
            go_wp2_with fail
            go_meet
            exact ⟨g, rfl, rfl, hV2, hB2⟩
        · intro KK hK
          go_simp
          have hbx : Below wd.heap.size wd (wd.alloc (.cells #[.int .u64 0, .int .i64 0] 24)) := (Below.refl _ _).alloc (Nat.le_refl _) _
          have hB_1 := Lib.hid (hB_0.out.trans (hbx.mono hz_0))
          have hS_1 : Hid (_ ∧ _) := Lib.hid (five_on hS_0.out hbx)
          have hz_1 : wr.heap.size ≤ (wd.alloc (.cells #[.int .u64 0, .int .i64 0] 24)).heap.size := hB_1.out.size
          have hV := Lib.hid (Vr.zero (w := wd) rfl 24)
          have hgz : wr.heap.size ≤ wd.heap.size := hz_0
          clear hB_0 hS_0 hz_0
          generalize wd.alloc (.cells #[.int .u64 0, .int .i64 0] 24) = wb at *
          generalize wd.heap.size = g at *
          clear hbx
          refine hK.out _ _ hS_1.out ?_
          clear hK
          refine p_one ?_
          intro KK hK
          go_simp
          have hbx : Below wb.heap.size wb (wb.alloc (.cells #[.int .u64 N.i, .int .i64 N.s, .int .u64 K.i, .int .i64 K.s] 24)) := (Below.refl _ _).alloc (Nat.le_refl _) _
          have hB_2 := Lib.hid (hB_1.out.trans (hbx.mono hz_1))
          have hS_2 : Hid (_ ∧ _) := Lib.hid (five_on hS_1.out hbx)
          have hz_2 : wr.heap.size ≤ (wb.alloc (.cells #[.int .u64 N.i, .int .i64 N.s, .int .u64 K.i, .int .i64 K.s] 24)).heap.size := hB_2.out.size
          have hL := Lib.hid (Lst.two wb N K 24)
          have hV' := Lib.hid (hV.out.on hbx)
          clear hV
          have hV := hV'
          clear hV'
          clear hB_1 hS_1 hz_1
          generalize wb.alloc (.cells #[.int .u64 N.i, .int .i64 N.s, .int .u64 K.i, .int .i64 K.s] 24) = wc' at *
          clear hbx
          refine hK.out _ _ hS_2.out ?_
          clear hK
          refine p_one ?_
          intro KK hK
          go_simp
          refine (HJ2.out _ _ hL.out).mono ?_
          rintro e we ⟨rfl, hbx⟩
          have hB_3 := Lib.hid (hB_2.out.trans (hbx.mono hz_2))
          have hS_3 : Hid (_ ∧ _) := Lib.hid (five_on hS_2.out hbx)
          have hz_3 : wr.heap.size ≤ we.heap.size := hB_3.out.size
          have hV' := Lib.hid (hV.out.on hbx)
          clear hV
          have hV := hV'
          clear hV'
          clear hB_2 hS_2 hz_2
          clear hbx hL
          refine hK.out _ _ hS_3.out ?_
          clear hK
          iterate 3 (first | (refine' p_yes ?_ (by rfl) ?_ ?_; rotate_left; (intro w' hS; (try dsimp only at hS); go_simp; try (with_reducible rfl)); simp only [Act.put, List.setIfInBounds_toArray, List.set_cons_zero, List.set_cons_succ]) | (refine p_no (by rfl) ?_; simp only [Act.put, List.setIfInBounds_toArray, List.set_cons_zero, List.set_cons_succ]))
          refine p_one ?_
          intro KK hK
          obtain ⟨⟨g0, g1⟩, gf⟩ := hV.out
          simp only [show z0.i = 0 from rfl, show z0.s = 0 from rfl] at g0 g1
          have gf0 := gf 0
          have gf1 := gf 1
          go_simp
          have hV2 := Lib.hid (hV.out.set M)
          have hB2 := Lib.hid ((hB_3.out.setCell (p := ⟨g, 0, none⟩) hgz (.int .u64 M.i)).setCell (p := ⟨g, 1, none⟩) hgz (.int .i64 M.s))
          have hS2 : Hid (_ ∧ _) := Lib.hid (five_set hS_3.out g ⟨by show gn ≠ g; omega, by show gn ≠ g; omega, by rw [bod.out]; omega, by rw [bad.out]; omega, by show (ad.add (j * 2)).block ≠ g; rw [bad.out]; omega⟩ (.int .u64 M.i) (.int .i64 M.s))
          refine hK.out _ _ hS2.out ?_
          clear hK
          iterate 1 (first | (refine' p_yes ?_ (by rfl) ?_ ?_; rotate_left; (intro w' hS; (try dsimp only at hS); go_simp; try (with_reducible rfl)); simp only [Act.put, List.setIfInBounds_toArray, List.set_cons_zero, List.set_cons_succ]) | (refine p_no (by rfl) ?_; simp only [Act.put, List.setIfInBounds_toArray, List.set_cons_zero, List.set_cons_succ]))
          refine p_done ?_
          go_wp2_with fail
          go_meet
          exact ⟨g, rfl, rfl, hV2, hB2⟩
      case rest =>
      obtain ⟨g, rfl, rfl, HV, HC⟩ := hcut
      have HB5 : Hid (Below w.heap.size w _) := Lib.hid (hb.out.trans (HC.out.mono hb.out.size))
      have BN5 := Lib.hid (hbn.out.on HC.out)
      have BJ5 := Lib.hid (hbj.out.on HC.out)
      clear m0 m1 a0 a1 oc' hbn hbj HC hb HJ2
      obtain ⟨⟨m0, m1⟩, _⟩ := BN5.out
      obtain ⟨⟨g0, g1⟩, _⟩ := HV.out
      go_wp2_with fail
      refine (HBF.out _).mono ?_
      rintro e w6 ⟨rfl, hb6⟩
      have HB6 : Hid (Below w.heap.size w w6) := Lib.hid (HB5.out.trans (hb6.mono HB5.out.size))
      have BN6 := Lib.hid (BN5.out.on hb6)
      have BJ6 := Lib.hid (BJ5.out.on hb6)
      have BM6 := Lib.hid (HV.out.on hb6)
      clear m0 m1 g0 g1 hb6 BN5 BJ5 HV HB5 HBF
      obtain ⟨⟨m0, m1⟩, fz⟩ := BN6.out
      obtain ⟨⟨g0, g1⟩, _⟩ := BM6.out
      have fz0 := fz 0
      have fz1 := fz 1
      have HE : Hid (Below w.heap.size w ((w6.setCell ⟨gn, 0, none⟩ (.int .u64 M.i)).setCell ⟨gn, 1, none⟩ (.int .i64 M.s))) := Lib.hid ((HB6.out.setCell (by simp; omega) _).setCell (by simp; omega) _)
      have HNN := Lib.hid (BN6.out.set M)
      have HJJ := Lib.hid (BJ6.out.apart (c := gn) (by omega) M)
      have HREL : Hid (∃ N : Kn, mayK N = true ∧ Fit N ∧ key N ≤ key J ∧ Vr ((w6.setCell ⟨gn, 0, none⟩ (.int .u64 M.i)).setCell ⟨gn, 1, none⟩ (.int .i64 M.s)) gn N) := Lib.hid ⟨M, HM'.out.1, HM'.out.2.1, HM'.out.2.2, HNN.out⟩
      clear fz
      go_wp2_with fail
      go_roundw
      case rel => exact ⟨k + 1, by go_num, by omega, HREL, HJJ, HE⟩
      case measure => simp [intOf]; omega

theorem walk (A B : Option Addr) (c d : Nat) (l : List Kn) (is : List Int) (w : World) (hc : l.length ≤ c) (hm : c ≤ maxLen) (h : Lst w A l) (hf : ∀ x ∈ l, Fit x) (hi : is.length ≤ maxLen)
    (hs : ∀ j, j < is.length → ∃ ad, B = some ad ∧ ad.block < w.heap.size ∧ w.cell? (ad.add j) = some (.int .u8 (is.getD j 0))) (ho : ∀ i ∈ is, 0 ≤ i ∧ i ≤ 255) :
    Calls Try.prog 7 #[.slice A l.length c, .slice B is.length d] w fun e w' => e = .returned (.bool true) ∧ Below w.heap.size w w' := by
  have hl : (l.take 20).length ≤ 20 := by rw [List.length_take]; omega
  have HF := Lib.hid (few_any A c l w hc hm h)
  have HL := Lib.hid (h.take 20)
  have hft : ∀ x ∈ l.take 20, Fit x := fun x hx => hf x (List.mem_of_mem_take hx)
  generalize l.take 20 = l' at *
  rcases hv : mayL l' with _ | _
  · exact wayBad A B l.length c d is.length l' w HF HL 1 (.inl rfl) (Lib.hid fun W hW => check_any A c l' W (by omega) hW false hv)
  · by_cases h0 : 0 < l'.length
    · exact run_walk A B l.length c d l' is w HF HL (Lib.hid hs) (Lib.hid ho) hl h0 hi (Lib.hid hv) (Lib.hid hft)
    · exact wayBad A B l.length c d is.length l' w HF HL 0 (.inr ⟨rfl, by omega⟩) (Lib.hid fun W hW => check_any A c l' W (by omega) hW true hv)

/-! ### the statement -/
theorem parOk : ∀ t ∈ (#[35, 43] : Array TypeId).toList, Try.prog.readableRec t = true ∧ t < Try.prog.types.size := by
  have hall : ([35, 43].all fun t => Try.prog.readableRec t && decide (t < Try.prog.types.size)) = true := by kernel_rfl
  intro t ht
  simpa using List.all_eq_true.1 hall t ht

/-- What the walk gives, for every argument. -/
theorem contract (H : Type) (enc : TypeId × Value → H) (W : World) (base : Nat) (args : Array Value) (ds gs : List (DataW H)) (before : List MemPlace)
    (hval : ∀ (j : Nat) t v, Try.f7.params[j]? = some t → args[j]? = some v → Value.okWide Try.prog W .any base t v)
    (hW : DataW.Whole enc Try.prog Try.f7.params.toList Rows.knowGrowsSpec.vars false W args.toList ds gs before) :
    Calls Try.prog 7 args W fun e W' => ∃ v, e = .returned v ∧ Rows.knowGrowsSpec.post enc Try.prog Try.f7 false true false false W args v W' := by
  have hW' := hW
  obtain ⟨p, q, hA0, hV, rfl, hfz, hnd⟩ := hW
  have hA : DataW.TrodAll enc Try.prog W 0 (fun _ => true) true Try.f7.params.toList args.toList ds p := hA0
  rw [Try.params7] at hA hval
  obtain ⟨v0, vs0, d0, ds0, p0, q0, hargs, rfl, rfl, h0, r0⟩ := trodAll_cons hA
  obtain ⟨v1, vs1, d1, ds1, p1, q1, rfl, rfl, rfl, h1, r1⟩ := trodAll_cons r0
  obtain ⟨rfl, rfl, rfl⟩ := trodAll_nil r1
  obtain rfl : args = #[v0, v1] := by cases args; simp_all
  obtain ⟨rfl, rfl⟩ := trodVars_none hV
  obtain ⟨A, c, xs, rfl, hc, hm, hl, hf⟩ := open_kns (hval 0 35 v0 rfl rfl) h0
  obtain ⟨B, d, is, rfl, hcis, hmis, his, hfis⟩ := open_octs (hval 1 43 v1 rfl rfl) h1
  clear hA0
  refine (walk A B c d xs is W hc hm hl hf (Nat.le_trans hcis hmis) his hfis).mono fun e W' ⟨he, hb⟩ => ?_
  subst he
  exact ⟨_, rfl, law_post rfl (by rw [Try.params7]; exact parOk) rfl hW' rfl rfl rfl hb⟩

set_option maxRecDepth 100000 in
theorem lifted (os : Os) (started : os.Started) (H : Type) (enc : TypeId × Value → H) :
    ReturnsInHanded {} Try.checked os 7 .any (Rows.knowGrowsSpec.pre6 enc Try.prog Try.f7 Rows.knowGrowsRow.domain false) (Rows.knowGrowsSpec.post enc Try.prog Try.f7 false true false false) := by
  refine returnsInHanded_of_change (C := Try.checked) own started (by kernel_rfl) Try.func7
    (ChangeSpec.witness6 (enc := enc) (C := Try.checked) false ⟨#[], #[.slice none 0 0, .slice none 0 0], []⟩ 8 (by kernel_rfl) (by kernel_rfl) (by kernel_rfl) (by kernel_rfl)) ?_
  intro W base args ds gs before hval hW _ _
  exact contract H enc W base args ds gs before hval hW

/-- THE STATEMENT. -/
theorem said : Rows.KnowGrowsSaid :=
  OpenClaim.holds_of_wide 7 Try.f7 rfl rfl rfl rfl rfl rfl rfl ⟨rfl, rfl, rfl, rfl, rfl⟩ rfl rfl rfl rfl rfl (by kernel_rfl) Try.func7 (by kernel_rfl)
    (of_decide_eq_true (by kernel_rfl)) (by unfold Func.isWrapper; first | (rw [if_pos (by decide +kernel)]; kernel_rfl) | (rw [if_neg (by decide +kernel)]; exact ⟨rfl, rfl⟩))
    (fun os started H enc _ => lifted os started H enc)
end Go.Proofs.Ytcichjphfdepmaa.lawGrows
