/-
  The document's At, and its names of two lists and of moves.
-/
import Derived.Test.YtdbndkccgpmkbaaMr
import Derived.Test.YtdbndkccgpmkbaaLf
namespace Go.Proofs.Ytdbndkccgpmkbaa
open Go.Sort Go.RowKit Go.Proofs.Ytdbndkccgpmkbaa.Pure

set_option maxRecDepth 100000 in
set_option maxHeartbeats 2000000 in
theorem at_any (A : Option Addr) (c : Nat) (l : List Pu) (t : ByteArray) (w : World) (hn : l.length ≤ 100000) (h : Us w A l) (N : Int) (hN : atP l t = N) :
    Calls Try.prog 35 #[.slice A l.length c, .string t] w fun e w' => e = .returned (.int .i64 N) ∧ w = w' := by
  have H := Lib.hid h
  have HH := Lib.hid (fun (k : Nat) (hk : k < l.length) (hb : ∀ j, j < k → ¬ (pu l j).t = t) (he : (pu l k).t = t) => (atP_here hk hb he).symm.trans hN)
  have HW := Lib.hid (fun (hb : ∀ j, j < l.length → ¬ (pu l j).t = t) => (atP_nowhere hb).symm.trans hN)
  clear h hN
  go_enter Try.func35, Try.ntmps35
  go_wp2_with fail
  go_loop [5] (fun i => ∃ k : Nat, i = .int .i64 k ∧ k ≤ l.length ∧ Hid (∀ j, j < k → ¬ (pu l j).t = t)) (fun i => l.length - (intOf i).toNat)
  case atStart => exact ⟨0, rfl, Nat.zero_le _, Lib.hid (fun j hj => absurd hj (Nat.not_lt_zero j))⟩
  case round =>
    obtain ⟨k, rfl, hk, hb⟩ := hrel
    by_cases hlt : k < l.length
    · obtain ⟨ad, rfl, hlo, h1⟩ := H.out k hlt
      obtain ⟨a0, a1⟩ := h1.flat
      have k0 : (0 : Int) ≤ (k : Int) := by omega
      have k1 : (k : Int) < (l.length : Int) := by omega
      have HF := Lib.hid (HH.out k hlt hb.out)
      have HNX : Hid (¬ (pu l k).t = t → ∀ j, j < k + 1 → ¬ (pu l j).t = t) := Lib.hid (fun hne j hj => by
        rcases Nat.lt_or_ge j k with hjk | hjk
        · exact hb.out j hjk
        · obtain rfl : j = k := by omega
          exact hne)
      generalize pu l k = x at *
      have q := eq_is x.t t
      clear h1 hb
      by_cases he : x.t = t
      · rw [decide_eq_true he] at q
        have HX := Lib.hid (HF.out he)
        clear HF HNX he
        go_wp2_with fail
        go_ret
        exact ⟨ret_int HX.out, rfl⟩
      · rw [decide_eq_false he] at q
        have HX := Lib.hid (HNX.out he)
        clear HF HNX he
        go_wp2_with fail
        go_round
        case rel => exact ⟨k + 1, by go_num, by omega, HX⟩
        case measure => simp [intOf]; omega
    · obtain rfl : k = l.length := by omega
      have d0 : decide ((l.length : Int) < (l.length : Int)) = false := by simp
      have HX := Lib.hid (HW.out hb.out)
      clear hb HW HH
      go_wp2_with fail
      go_ret
      exact ⟨ret_int HX.out, rfl⟩
theorem gather_pu (l : List Pu) {k : Nat} (h : k < l.length) : (l.take (k + 1)).map Pu.t = (l.take k).map Pu.t ++ [(pu l k).t] := by
  rw [List.take_succ_eq_append_getElem h, List.map_append, pu_lt l h]
  rfl
theorem gather_mv (l : List Mv) {k : Nat} (h : k < l.length) : (l.take (k + 1)).map Mv.t = (l.take k).map Mv.t ++ [(mv l k).t] := by
  rw [List.take_succ_eq_append_getElem h, List.map_append, mv_lt l h]
  rfl
theorem F.own_mono {w : World} {B B' : Nat} {v : Value} {xs : List ByteArray} (h : F.Own w B v xs) (hB : B' ≤ B) : F.Own w B' v xs := by
  refine ⟨h.1, ?_⟩
  rcases h.2 with h | ⟨g, cap, cur, h1, h2, h3⟩
  · exact .inl h
  · exact .inr ⟨g, cap, cur, h1, Nat.le_trans hB h2, h3⟩
/-- The best one so far: what the variables hold. -/
def accB (b : ByteArray) (f : Bool) : Option ByteArray := if f then some b else none
theorem bestB_zero (o l : List ByteArray) : bestB o (l.take 0) = none := rfl
/-- One more is looked at. -/
theorem accB_step (o : List ByteArray) (b : ByteArray) (f : Bool) (x : ByteArray) : stepB o (accB b f) x = if candB o x && (!f || ltS x b) then accB x true else accB b f := by
  unfold accB stepB
  cases f <;> simp
set_option maxRecDepth 10000000 in
set_option maxHeartbeats 8000000 in
theorem names_any (A B C : Option Addr) (ca cb cc : Nat) (a b : List Pu) (l : List Mv) (w : World) (ha : a.length ≤ 300) (hb' : b.length ≤ 300) (hl' : l.length ≤ 300) (hA : Us w A a) (hB : Us w B b) (hC : Vs w C l)
    (TL : List ByteArray) (hTL : a.map Pu.t ++ b.map Pu.t ++ l.map Mv.t = TL) :
    Calls Try.prog 34 #[.slice A a.length ca, .slice B b.length cb, .slice C l.length cc] w fun e w' => ∃ v, e = .returned v ∧ F.Own w' w.heap.size v (uniK TL) ∧ Below w.heap.size w w' := by
  have HA := Lib.hid hA
  have HB := Lib.hid hB
  have HC := Lib.hid hC
  have HTL := Lib.hid hTL
  have HTN : Hid (TL.length ≤ 1000) := Lib.hid (by rw [← hTL]; simp; omega)
  have HST0 : Hid ([] ++ (a.take 0).map Pu.t = ([] : List ByteArray)) := Lib.hid rfl
  clear hA hB hC hTL
  go_enter Try.func34, Try.ntmps34
  go_wp2_with fail
  go_loopw [7, 9] (fun v i wr => ∃ k : Nat, i = .int .i64 k ∧ k ≤ a.length ∧ Hid (F.Own wr w.heap.size v (([] : List ByteArray) ++ (a.take k).map Pu.t)) ∧ Hid (Below w.heap.size w wr)) (fun _ i _ => a.length - (intOf i).toNat)
  case atStart => exact ⟨0, rfl, Nat.zero_le _, Lib.hid (F.Own.nil _ _), Lib.hid (Below.refl _ _)⟩
  case round =>
    obtain ⟨k, rfl, hk, HO, hb⟩ := hrel
    by_cases hlt : k < a.length
    · have k0 : (0 : Int) ≤ (k : Int) := by omega
      have k1 : (k : Int) < (a.length : Int) := by omega
      obtain ⟨ad, rfl, hlo, h1⟩ := (HA.out.on hb.out) k hlt
      obtain ⟨a0, a1⟩ := h1.flat
      have HNX1 : Hid (([] : List ByteArray) ++ (a.take (k + 1)).map Pu.t = (([] : List ByteArray) ++ (a.take k).map Pu.t) ++ [(pu a k).t]) := Lib.hid (by rw [gather_pu a hlt]; simp only [List.append_assoc])
      have HLN1 : Hid ((([] : List ByteArray) ++ (a.take k).map Pu.t).length ≤ 1000) := Lib.hid (by simp; omega)
      generalize ([] : List ByteArray) ++ (a.take k).map Pu.t = X at *
      generalize pu a k = x at *
      clear h1
      go_wp2_with (at_builtin; refine F.append_one rfl _ _ rfl w.heap.size u7 X rfl (ownS_alloc HO.out _) wr.heap.size x.t rfl (by go_simp) (by have := HLN1.out; omega) (by have := hb.out.size; simp; omega) ?_; intro v' w5 ho5 hg5 _)
      go_roundw
      case rel => exact ⟨k + 1, by go_num, by omega, Lib.hid (by rw [HNX1.out]; exact ho5), Lib.hid (below_grownS (hb.out.alloc hb.out.size _) (ownS_alloc HO.out _) hg5 (by have := hb.out.size; simp; omega) (Nat.le_refl _))⟩
      case measure => simp [intOf]; omega
    · obtain rfl : k = a.length := by omega
      have d0 : decide ((a.length : Int) < (a.length : Int)) = false := by simp
      rw [List.take_length] at HO
      rw [List.nil_append] at HO
      go_wp2_with fail
      have HO1 := HO
      have hb1 := hb
      clear HO hb
      go_loopw [7, 10] (fun v i wr => ∃ k : Nat, i = .int .i64 k ∧ k ≤ b.length ∧ Hid (F.Own wr w.heap.size v (a.map Pu.t ++ (b.take k).map Pu.t)) ∧ Hid (Below w.heap.size w wr)) (fun _ i _ => b.length - (intOf i).toNat)
      case atStart => exact ⟨0, rfl, Nat.zero_le _, (by simpa using HO1), hb1⟩
      case round =>
        obtain ⟨k, rfl, hk, HO, hb⟩ := hrel
        by_cases hlt : k < b.length
        · have k0 : (0 : Int) ≤ (k : Int) := by omega
          have k1 : (k : Int) < (b.length : Int) := by omega
          obtain ⟨ad, rfl, hlo, h1⟩ := (HB.out.on hb.out) k hlt
          obtain ⟨a0, a1⟩ := h1.flat
          have HNX1 : Hid (a.map Pu.t ++ (b.take (k + 1)).map Pu.t = (a.map Pu.t ++ (b.take k).map Pu.t) ++ [(pu b k).t]) := Lib.hid (by rw [gather_pu b hlt]; simp only [List.append_assoc])
          have HLN1 : Hid ((a.map Pu.t ++ (b.take k).map Pu.t).length ≤ 1000) := Lib.hid (by simp; omega)
          generalize a.map Pu.t ++ (b.take k).map Pu.t = X at *
          generalize pu b k = x at *
          clear h1
          go_wp2_with (at_builtin; refine F.append_one rfl _ _ rfl w.heap.size u7 X rfl (ownS_alloc HO.out _) wr.heap.size x.t rfl (by go_simp) (by have := HLN1.out; omega) (by have := hb.out.size; simp; omega) ?_; intro v' w5 ho5 hg5 _)
          go_roundw
          case rel => exact ⟨k + 1, by go_num, by omega, Lib.hid (by rw [HNX1.out]; exact ho5), Lib.hid (below_grownS (hb.out.alloc hb.out.size _) (ownS_alloc HO.out _) hg5 (by have := hb.out.size; simp; omega) (Nat.le_refl _))⟩
          case measure => simp [intOf]; omega
        · obtain rfl : k = b.length := by omega
          have d0 : decide ((b.length : Int) < (b.length : Int)) = false := by simp
          rw [List.take_length] at HO
          go_wp2_with fail
          have HO2 := HO
          have hb2 := hb
          clear HO hb HO1 hb1
          go_loopw [7, 11] (fun v i wr => ∃ k : Nat, i = .int .i64 k ∧ k ≤ l.length ∧ Hid (F.Own wr w.heap.size v ((a.map Pu.t ++ b.map Pu.t) ++ (l.take k).map Mv.t)) ∧ Hid (Below w.heap.size w wr)) (fun _ i _ => l.length - (intOf i).toNat)
          case atStart => exact ⟨0, rfl, Nat.zero_le _, (by simpa using HO2), hb2⟩
          case round =>
            obtain ⟨k, rfl, hk, HO, hb⟩ := hrel
            by_cases hlt : k < l.length
            · have k0 : (0 : Int) ≤ (k : Int) := by omega
              have k1 : (k : Int) < (l.length : Int) := by omega
              obtain ⟨ad, rfl, hlo, h1⟩ := (HC.out.on hb.out) k hlt
              obtain ⟨a0, a1, a2⟩ := h1.flat
              have HNX1 : Hid ((a.map Pu.t ++ b.map Pu.t) ++ (l.take (k + 1)).map Mv.t = ((a.map Pu.t ++ b.map Pu.t) ++ (l.take k).map Mv.t) ++ [(mv l k).t]) := Lib.hid (by rw [gather_mv l hlt]; simp only [List.append_assoc])
              have HLN1 : Hid (((a.map Pu.t ++ b.map Pu.t) ++ (l.take k).map Mv.t).length ≤ 1000) := Lib.hid (by simp; omega)
              generalize (a.map Pu.t ++ b.map Pu.t) ++ (l.take k).map Mv.t = X at *
              generalize mv l k = x at *
              clear h1
              go_wp2_with (at_builtin; refine F.append_one rfl _ _ rfl w.heap.size u7 X rfl (ownS_alloc HO.out _) wr.heap.size x.t rfl (by go_simp) (by have := HLN1.out; omega) (by have := hb.out.size; simp; omega) ?_; intro v' w5 ho5 hg5 _)
              go_roundw
              case rel => exact ⟨k + 1, by go_num, by omega, Lib.hid (by rw [HNX1.out]; exact ho5), Lib.hid (below_grownS (hb.out.alloc hb.out.size _) (ownS_alloc HO.out _) hg5 (by have := hb.out.size; simp; omega) (Nat.le_refl _))⟩
              case measure => simp [intOf]; omega
            · obtain rfl : k = l.length := by omega
              have d0 : decide ((l.length : Int) < (l.length : Int)) = false := by simp
              rw [List.take_length] at HO
              rw [HTL.out] at HO
              have HB4 := hb
              obtain ⟨AL, cL, rfl, hcL, hL⟩ := Ss.of HO.out
              have HL := Lib.hid hL
              clear HO hL hb HO2 hb2 HA HB HC HTL HST0
              obtain ⟨w4, hw4⟩ : ∃ w4, w4 = wr := ⟨_, rfl⟩
              subst hw4
              have hTN := HTN.out
              go_wp2_with fail
              go_loopg [8] (uniK TL).length (fun z v wr => ∃ k : Nat, k + z = (uniK TL).length ∧ Hid (F.Own wr w4.heap.size v ((uniK TL).take k)) ∧ Hid (Below w4.heap.size w4 wr))
              case atStart => exact ⟨0, by omega, Lib.hid (F.Own.nil _ _), Lib.hid (Below.refl _ _)⟩
              case round =>
                obtain ⟨wq, ewq⟩ : ∃ wq, wq = wr := ⟨_, rfl⟩
                subst ewq
                obtain ⟨k, hkz, HO, hbq⟩ := hrel
                obtain ⟨AO, cO, eO, hcO, hO⟩ := Ss.of HO.out
                have HOS := Lib.hid hO
                clear hO
                have hkU : k ≤ (uniK TL).length := by omega
                have HNI := Lib.hid (names_is (l := TL) hkU)
                have hOl : ((uniK TL).take k).length = k := by rw [List.length_take]; omega
                have HU : Hid ((uniK TL).take (uniK TL).length = uniK TL) := Lib.hid (List.take_length)
                have huN : (uniK TL).length ≤ 1000 := by
                  have := (riseK_nodup (uniK_rise TL)).length_le_of_subset (l₂ := TL) (fun t ht => (uniK_mem t TL).1 ht)
                  omega
                subst eO
                generalize hOO : (uniK TL).take k = O at *
                have HOL := Lib.hid hOl
                have HON : Hid (O.length ≤ 1000) := Lib.hid (by omega)
                clear hOl
                go_wp2_with fail
                go_loopw [12, 13, 14] (fun b f i wr => ∃ (j : Nat) (bb : ByteArray) (fb : Bool), b = .string bb ∧ f = .bool fb ∧ i = .int .i64 j ∧ j ≤ TL.length ∧ Hid (accB bb fb = bestB O (TL.take j)) ∧ Hid (Below wq.heap.size wq wr)) (fun _ _ i _ => TL.length - (intOf i).toNat)
                case atStart => exact ⟨0, ⟨#[]⟩, false, rfl, rfl, rfl, Nat.zero_le _, Lib.hid rfl, Lib.hid (Below.refl _ _)⟩
                case round =>
                  obtain ⟨wj, ewj⟩ : ∃ wj, wj = wr := ⟨_, rfl⟩
                  subst ewj
                  obtain ⟨j, bb, fb, rfl, rfl, rfl, hj, hacc, hbj⟩ := hrel
                  by_cases hjl : j < TL.length
                  · obtain ⟨adL, eL, hloL, x0⟩ := (HL.out.on (hbq.out.trans (hbj.out.mono hbq.out.size))) j hjl
                    have HST : Hid (bestB O (TL.take (j + 1)) = if candB O (ba TL j) && (!fb || ltS (ba TL j) bb) then accB (ba TL j) true else accB bb fb) := Lib.hid (by rw [bestB_next O TL hjl, ← hacc.out]; exact accB_step O bb fb (ba TL j))
                    generalize ba TL j = x at *
                    subst eL
                    clear hacc
                    have j0 : (0 : Int) ≤ (j : Int) := by omega
                    have j1 : (j : Int) < (TL.length : Int) := by omega
                    have j2 : decide ((j : Int) < (TL.length : Int)) = true := decide_eq_true j1
                    have j3 : decide (j < TL.length) = true := decide_eq_true hjl
                    have X0 : ∀ p : Regrown, (grow (redrawn wj p.d) p.os).cell? (adL.add j) = some (.string x) := fun p => cell_regrown x0 p.d p.os
                    have hxl : (adL.add j).block < wj.heap.size := by rw [block_add]; exact hloL
                    have hz := Lib.hid hbj.out.size
                    by_cases h0 : O.length = 0
                    · have e1 : ((O.length : Int) == 0) = true := by rw [h0]; rfl
                      have e1' : (O.length == 0) = true := by rw [h0]; rfl
                      have hcd : candB O x = true := by unfold candB; rw [decide_eq_true h0, Bool.true_or]
                      have HCD := Lib.hid hcd
                      clear h0 hcd
                      rcases fb with _ | _
                      · have HACC : Hid (accB x true = bestB O (TL.take (j + 1))) := Lib.hid (by rw [HST.out, HCD.out]; rfl)
                        clear HST
                        go_upto_region 18 with (fail)
                        refine q_enter (by kernel_rfl) (by kernel_rfl) ?_
                        iterate 28 (refine q_step ?_; intro K hK; go_simp; refine hK _ ?_; clear hK K)
                        refine q_nil ?_
                        intro wz hbz
                        have HZ : Hid (Below wq.heap.size wq wz) := Lib.hid (hbj.out.trans (hbz.mono hz.out))
                        have x0z := (hbz.cell hxl).trans x0
                        clear hbz X0 x0
                        go_wp2_with fail
                        go_roundw
                        case rel => exact ⟨j + 1, x, true, rfl, rfl, by go_num, by omega, HACC, HZ⟩
                        case measure => simp [intOf]; omega
                      · obtain ⟨b2, hb2⟩ : ∃ b2, ltS x bb = b2 := ⟨_, rfl⟩
                        have g2 : Op.bytesLess x.toList bb.toList = b2 := by rw [less_is]; exact hb2
                        rcases b2 with _ | _
                        · have HACC : Hid (accB bb true = bestB O (TL.take (j + 1))) := Lib.hid (by rw [HST.out, HCD.out, hb2]; rfl)
                          clear hb2
                          clear HST
                          go_upto_region 18 with (fail)
                          refine q_enter (by kernel_rfl) (by kernel_rfl) ?_
                          iterate 28 (refine q_step ?_; intro K hK; go_simp; refine hK _ ?_; clear hK K)
                          refine q_nil ?_
                          intro wz hbz
                          have HZ : Hid (Below wq.heap.size wq wz) := Lib.hid (hbj.out.trans (hbz.mono hz.out))
                          clear hbz X0 x0
                          go_wp2_with fail
                          go_roundw
                          case rel => exact ⟨j + 1, bb, _, rfl, rfl, by go_num, by omega, HACC, HZ⟩
                          case measure => simp [intOf]; omega
                        · have HACC : Hid (accB x true = bestB O (TL.take (j + 1))) := Lib.hid (by rw [HST.out, HCD.out, hb2]; rfl)
                          clear hb2
                          clear HST
                          go_upto_region 18 with (fail)
                          refine q_enter (by kernel_rfl) (by kernel_rfl) ?_
                          iterate 28 (refine q_step ?_; intro K hK; go_simp; refine hK _ ?_; clear hK K)
                          refine q_nil ?_
                          intro wz hbz
                          have HZ : Hid (Below wq.heap.size wq wz) := Lib.hid (hbj.out.trans (hbz.mono hz.out))
                          have x0z := (hbz.cell hxl).trans x0
                          clear hbz X0 x0
                          go_wp2_with fail
                          go_roundw
                          case rel => exact ⟨j + 1, x, true, rfl, rfl, by go_num, by omega, HACC, HZ⟩
                          case measure => simp [intOf]; omega
                    · have e1 : ((O.length : Int) == 0) = false := by rw [beq_eq_false_iff_ne]; omega
                      have e1' : (O.length == 0) = false := by rw [beq_eq_false_iff_ne]; exact h0
                      obtain ⟨p, hp⟩ : ∃ p, O.length - 1 = p := ⟨_, rfl⟩
                      have hpl : p < O.length := by omega
                      have hON := HON.out
                      have p1 : IntKind.i64.wrap ((O.length : Int) - 1) = (p : Int) := by rw [IntWalk.i64_in _ (by omega)]; omega
                      have p2 : (0 : Int) ≤ (p : Int) := by omega
                      have p3 : (p : Int) < (O.length : Int) := by omega
                      obtain ⟨adO, eO, hloO, y0⟩ := (HOS.out.on hbj.out) p hpl
                      have hcd : candB O x = ltS (ba O p) x := by unfold candB; rw [decide_eq_false h0, Bool.false_or, hp]; rfl
                      generalize ba O p = y at *
                      subst eO
                      have Y0 : ∀ q : Regrown, (grow (redrawn wj q.d) q.os).cell? (adO.add p) = some (.string y) := fun q => cell_regrown y0 q.d q.os
                      clear hp hpl h0 y0
                      by_cases hlt1 : ltS x y = true
                      · have g1 : Op.bytesLess x.toList y.toList = true := by rw [less_is]; exact hlt1
                        rw [ltS_asymm hlt1] at hcd
                        have HCD := Lib.hid hcd
                        have HACC : Hid (accB bb fb = bestB O (TL.take (j + 1))) := Lib.hid (by rw [HST.out, HCD.out]; rfl)
                        clear hcd hlt1
                        clear HST
                        go_upto_region 18 with (fail)
                        refine q_enter (by kernel_rfl) (by kernel_rfl) ?_
                        iterate 28 (refine q_step ?_; intro K hK; go_simp; refine hK _ ?_; clear hK K)
                        refine q_nil ?_
                        intro wz hbz
                        have HZ : Hid (Below wq.heap.size wq wz) := Lib.hid (hbj.out.trans (hbz.mono hz.out))
                        clear hbz X0 x0
                        go_wp2_with fail
                        go_roundw
                        case rel => exact ⟨j + 1, bb, _, rfl, rfl, by go_num, by omega, HACC, HZ⟩
                        case measure => simp [intOf]; omega
                      · by_cases heq : x = y
                        · subst heq
                          have g1 : Op.bytesLess x.toList x.toList = false := by rw [less_is]; exact ltS_irrefl x
                          rw [ltS_irrefl] at hcd
                          have HCD := Lib.hid hcd
                          have HACC : Hid (accB bb fb = bestB O (TL.take (j + 1))) := Lib.hid (by rw [HST.out, HCD.out]; rfl)
                          clear hcd hlt1
                          clear HST
                          go_upto_region 18 with (fail)
                          refine q_enter (by kernel_rfl) (by kernel_rfl) ?_
                          iterate 28 (refine q_step ?_; intro K hK; go_simp; refine hK _ ?_; clear hK K)
                          refine q_nil ?_
                          intro wz hbz
                          have HZ : Hid (Below wq.heap.size wq wz) := Lib.hid (hbj.out.trans (hbz.mono hz.out))
                          clear hbz X0 x0
                          go_wp2_with fail
                          go_roundw
                          case rel => exact ⟨j + 1, bb, _, rfl, rfl, by go_num, by omega, HACC, HZ⟩
                          case measure => simp [intOf]; omega
                        · have g1 : Op.bytesLess x.toList y.toList = false := by rw [less_is]; simpa using hlt1
                          have g3 : (x.toList == y.toList) = false := by rw [eq_is]; exact decide_eq_false heq
                          have g4 : ¬ x.toList = y.toList := by simpa using g3
                          have hyx : ltS y x = true := by
                            rcases hq : ltS y x with _ | _
                            · exact absurd (ltS_total (by simpa using hlt1) hq) heq
                            · rfl
                          rw [hyx] at hcd
                          have HCD := Lib.hid hcd
                          clear hcd hlt1 heq hyx
                          rcases fb with _ | _
                          · have HACC : Hid (accB x true = bestB O (TL.take (j + 1))) := Lib.hid (by rw [HST.out, HCD.out]; rfl)
                            clear HST
                            go_upto_region 18 with (fail)
                            refine q_enter (by kernel_rfl) (by kernel_rfl) ?_
                            iterate 28 (refine q_step ?_; intro K hK; go_simp; refine hK _ ?_; clear hK K)
                            refine q_nil ?_
                            intro wz hbz
                            have HZ : Hid (Below wq.heap.size wq wz) := Lib.hid (hbj.out.trans (hbz.mono hz.out))
                            have x0z := (hbz.cell hxl).trans x0
                            clear hbz X0 x0
                            go_wp2_with fail
                            go_roundw
                            case rel => exact ⟨j + 1, x, true, rfl, rfl, by go_num, by omega, HACC, HZ⟩
                            case measure => simp [intOf]; omega
                          · obtain ⟨b2, hb2⟩ : ∃ b2, ltS x bb = b2 := ⟨_, rfl⟩
                            have g2 : Op.bytesLess x.toList bb.toList = b2 := by rw [less_is]; exact hb2
                            rcases b2 with _ | _
                            · have HACC : Hid (accB bb true = bestB O (TL.take (j + 1))) := Lib.hid (by rw [HST.out, HCD.out, hb2]; rfl)
                              clear hb2
                              clear HST
                              go_upto_region 18 with (fail)
                              refine q_enter (by kernel_rfl) (by kernel_rfl) ?_
                              iterate 28 (refine q_step ?_; intro K hK; go_simp; refine hK _ ?_; clear hK K)
                              refine q_nil ?_
                              intro wz hbz
                              have HZ : Hid (Below wq.heap.size wq wz) := Lib.hid (hbj.out.trans (hbz.mono hz.out))
                              clear hbz X0 x0
                              go_wp2_with fail
                              go_roundw
                              case rel => exact ⟨j + 1, bb, _, rfl, rfl, by go_num, by omega, HACC, HZ⟩
                              case measure => simp [intOf]; omega
                            · have HACC : Hid (accB x true = bestB O (TL.take (j + 1))) := Lib.hid (by rw [HST.out, HCD.out, hb2]; rfl)
                              clear hb2
                              clear HST
                              go_upto_region 18 with (fail)
                              refine q_enter (by kernel_rfl) (by kernel_rfl) ?_
                              iterate 28 (refine q_step ?_; intro K hK; go_simp; refine hK _ ?_; clear hK K)
                              refine q_nil ?_
                              intro wz hbz
                              have HZ : Hid (Below wq.heap.size wq wz) := Lib.hid (hbj.out.trans (hbz.mono hz.out))
                              have x0z := (hbz.cell hxl).trans x0
                              clear hbz X0 x0
                              go_wp2_with fail
                              go_roundw
                              case rel => exact ⟨j + 1, x, true, rfl, rfl, by go_num, by omega, HACC, HZ⟩
                              case measure => simp [intOf]; omega
                  · obtain rfl : j = TL.length := by omega
                    have d9 : decide ((TL.length : Int) < (TL.length : Int)) = false := by simp
                    rw [List.take_length] at hacc
                    have HZ4 : Hid (Below w4.heap.size w4 wj) := Lib.hid (hbq.out.trans (hbj.out.mono hbq.out.size))
                    have HOj := Lib.hid (HO.out.on hbj.out)
                    rcases fb with _ | _
                    · have hkU2 := HNI.out.1 hacc.out.symm
                      have HRES : Hid (F.Own wj w.heap.size (.slice AO O.length cO) (uniK TL)) := Lib.hid (by rw [← HU.out, ← hkU2, hOO]; exact F.own_mono HOj.out HB4.out.size)
                      have HBR : Hid (Below w.heap.size w wj) := Lib.hid (HB4.out.trans (HZ4.out.mono HB4.out.size))
                      clear hacc hkU2 HNI HU hkz hOO HOj HOS HO
                      go_wp2_with fail
                      go_ret
                      exact ⟨_, rfl, HRES.out, HBR.out⟩
                    · obtain ⟨hkU2, hkU3⟩ := HNI.out.2 bb hacc.out.symm
                      rcases gk with _ | z
                      · omega
                      · have HK3 := Lib.hid hkU3
                        have HKZ : Hid (k + 1 + z = (uniK TL).length) := Lib.hid (by omega)
                        have hON := HON.out
                        clear hacc hkU3 HNI HU hkz hOO HOS HO hkU hkU2 huN
                        go_wp2_with (at_builtin; refine F.append_one rfl _ _ rfl w4.heap.size _ O rfl (ownS_alloc HOj.out _) wj.heap.size bb rfl (by go_simp) (by omega) (by have := HZ4.out.size; simp; omega) ?_; intro v' w5 ho5 hg5 _)
                        go_roundg z
                        case measure => omega
                        case rel => exact ⟨k + 1, HKZ.out, Lib.hid (by rw [HK3.out]; exact ho5), Lib.hid (below_grownS (HZ4.out.alloc HZ4.out.size _) (ownS_alloc HOj.out _) hg5 (by have := HZ4.out.size; simp; omega) (Nat.le_refl _))⟩
end Go.Proofs.Ytdbndkccgpmkbaa
