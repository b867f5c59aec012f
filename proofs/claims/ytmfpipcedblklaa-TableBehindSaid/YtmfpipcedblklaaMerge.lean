/-
  Apply as it is called; the walk of Merge.
-/
import Derived.Test.YtmfpipcedblklaaApply
namespace Go.Proofs.Ytmfpipcedblklaa
open Go.Sort Go.RowKit Go.Proofs.Ytmfpipcedblklaa.Pure

theorem join2_any (g : Nat) (x y : Kn) (W : World) (mx : mayK x = true) (my : mayK y = true) (fx : Fit x) (h : Lst W (some ⟨g, 0, none⟩) [x, y]) :
    Calls Try.prog 35 #[.slice (some ⟨g, 0, none⟩) 2 2] W fun e w' => e = .returned (.tuple #[.agg #[.int .u64 (stepK x y).i, .int .i64 (stepK x y).s], .int .i64 0]) ∧ Below W.heap.size W w' := by
  have := join_yes (some ⟨g, 0, none⟩) 2 [x, y] W (Nat.le_of_ble_eq_true rfl) h (by simp [mayL, mx, my])
  rwa [join2 mx fx] at this

theorem tapp_yes (A : Option Addr) (c : Nat) (l : List Kn) (who : Nat) (k : Kn) (w : World) (hn : l.length ≤ 1000) (h : Lst w A l) (hL : mayT l = true) (hf : FitL l) (hw : who < l.length) (hk : mayK k = true) :
    Calls Try.prog 12 #[.slice A l.length c, .int .i64 (who : Int), .agg #[.int .u64 k.i, .int .i64 k.s]] w (Turns w (appL l who k) (newB l who k) 0) := by
  refine app_join A c l who k (stepK (kn l who) k) 0 w hn h hL hw _ (Lib.hid fun W g hg => ?_) (.inr ⟨rfl, fun e w' ht => ?_⟩)
  · exact join2_any g _ _ W (may_at ((mayT_iff l).1 hL).2.2 hw) hk (hf.at_ who) hg
  · have e1 : newB l who k = !decide (stepK (kn l who) k = kn l who) := by
      unfold newB
      by_cases h : stepK (kn l who) k = kn l who <;> simp [h]
    rw [e1]
    exact ht
theorem tapp_no (A : Option Addr) (c : Nat) (l : List Kn) (who : Int) (k : Kn) (w : World) (hn : l.length ≤ 1000) (h : Lst w A l) (hbad : mayT l = false ∨ who < 0 ∨ (l.length : Int) ≤ who ∨ mayK k = false) :
    Calls Try.prog 12 #[.slice A l.length c, .int .i64 who, .agg #[.int .u64 k.i, .int .i64 k.s]] w (Turns w l false 1) := by
  rcases hL : mayT l with _ | _
  · exact app_bad A c l who k w hn h hL
  by_cases h0 : who < 0
  · exact app_less A c l who k w hn h hL h0
  by_cases h1 : (l.length : Int) ≤ who
  · exact app_more A c l who k w hn h hL h1
  have hk : mayK k = false := by
    rcases hbad with h | h | h | h
    · rw [hL] at h; cases h
    · exact absurd h h0
    · exact absurd h h1
    · exact h
  obtain ⟨n, rfl⟩ := Int.eq_ofNat_of_zero_le (by omega : 0 ≤ who)
  have hn' : n < l.length := by omega
  refine app_join A c l n k z0 1 w hn h hL hn' _ (Lib.hid fun W g hg => ?_) (.inl ⟨rfl, fun e w' ht => ht⟩)
  exact join_bad (some ⟨g, 0, none⟩) 2 [kn l n, k] W (Nat.le_of_ble_eq_true rfl) hg (by simp [mayL, hk])

set_option maxRecDepth 100000 in
set_option maxHeartbeats 4000000 in
theorem mer_bad (A A' : Option Addr) (c c' : Nat) (t o : List Kn) (w : World) (hn : t.length ≤ 1000) (hn' : o.length ≤ 1000) (h : Lst w A t) (h' : Lst w A' o) (hL : both t o = false) :
    Calls Try.prog 13 #[.slice A t.length c, .slice A' o.length c'] w (Gives w [] 1) := by
  have HK := Lib.hid (beh_bad A A' c c' t o w hn hn' h h' hL)
  clear h h' hL hn hn'
  generalize t.length = n at *
  generalize o.length = n' at *
  go_enter Try.func13, Try.ntmps13
  go_wp2_with fail
  refine HK.out.mono ?_
  rintro e w1 ⟨A1, c1, rfl, _, hb⟩
  have HB := Lib.hid hb
  clear hb
  go_wp2_with fail
  go_ret2
  exact ⟨none, 0, rfl, Lst.nil _ _, HB.out⟩

set_option maxRecDepth 100000 in
set_option maxHeartbeats 4000000 in
theorem mer_yes (A A' : Option Addr) (c c' : Nat) (t o : List Kn) (w : World) (hn : t.length ≤ 1000) (h : Lst w A t) (h' : Lst w A' o) (hL : both t o = true) :
    Calls Try.prog 13 #[.slice A t.length c, .slice A' o.length c'] w (Gives w (merL t o) 0) := by
  have hl : t.length = o.length := by simp only [both, Bool.and_eq_true, decide_eq_true_eq] at hL; exact hL.1
  have HK := Lib.hid (beh_yes A A' c c' t o w hn h h' hL)
  have H := Lib.hid h
  have H' := Lib.hid h'
  have HCL : Hid (∀ W, Lst W A t → Calls Try.prog 34 #[.slice A t.length c] W fun e w' => ∃ v, e = .returned v ∧ Own w' W.heap.size v t ∧ Below W.heap.size W w') := Lib.hid fun W hW => clone_any A c t W hn hW
  have HS : Hid (setAll t o (behL t o) = merL t o) := Lib.hid (setAll_beh t o hl)
  have HM : Hid (∀ j, j < (behL t o).length → (behL t o).getD j 0 < t.length) := Lib.hid fun j hj => by
    have hm : (behL t o).getD j 0 ∈ behL t o := by simp [List.getD, hj]
    have := (mem_pick.1 hm).1
    omega
  have HLN : Hid (∀ is, (setAll t o is).length = t.length) := Lib.hid fun is => len_set t o is
  have HLM : Hid ((merL t o).length = t.length) := Lib.hid (len_merL t o)
  have HSS : Hid (∀ k, k < (behL t o).length → setAll t o ((behL t o).take (k + 1)) = (setAll t o ((behL t o).take k)).set ((behL t o).getD k 0) (kn o ((behL t o).getD k 0))) := Lib.hid fun k hk => setAll_succ t o _ k hk
  have HBN := Lib.hid (show (behL t o).length ≤ 1000 by have := pick_length (behP t o) o.length; unfold behL; omega)
  have hol : o.length = t.length := hl.symm
  generalize behL t o = F at *
  clear h h' hL
  rw [hol] at HK ⊢
  clear hl
  go_enter Try.func13, Try.ntmps13
  go_wp2_with fail
  refine HK.out.mono ?_
  rintro e w1 ⟨A1, c1, rfl, hns, hb⟩
  have HB := Lib.hid hb
  have HN := Lib.hid hns
  clear hb hns HK
  go_wp2_with fail
  refine (HCL.out _ (H.out.on HB.out)).mono ?_
  rintro e w3 ⟨v3, rfl, ho3, hb3⟩
  have HO3 : Hid (Own w3 w1.heap.size v3 (setAll t o (F.take 0))) := Lib.hid ho3
  have HB3 := Lib.hid hb3
  clear ho3 hb3 HCL
  obtain ⟨A3, c3, rfl, hx3, hx4⟩ := HO3.out.lst
  clear hx3 hx4
  rw [HLN.out] at HO3 ⊢
  go_wp2_with fail
  go_loopw [24] (fun i wr => ∃ k : Nat, i = .int .i64 k ∧ k ≤ F.length ∧ Hid (Own wr w1.heap.size (.slice A3 t.length c3) (setAll t o (F.take k))) ∧ Hid (Below w1.heap.size w1 wr)) (fun i _ => F.length - (intOf i).toNat)
  case atStart => exact ⟨0, rfl, Nat.zero_le _, HO3, HB3⟩
  case round =>
    clear HO3 HB3
    obtain ⟨k, rfl, hk, ho, hb⟩ := hrel
    by_cases hlt : k < F.length
    · obtain ⟨ad, rfl, hlo, hc⟩ := (HN.out.on hb.out) k hlt
      have hi := HM.out k hlt
      have HBw : Hid (Below w.heap.size w wr) := Lib.hid (HB.out.trans (hb.out.mono HB.out.size))
      obtain ⟨ao, rfl, hlo2, h1⟩ := (H'.out.on HBw.out) (F.getD k 0) (by omega)
      obtain ⟨a0, a1⟩ := h1.flat
      have HF := Lib.hid (HSS.out k hlt)
      generalize F.getD k 0 = i at *
      have k0 : (0 : Int) ≤ (k : Int) := by omega
      have k1 : (k : Int) < (F.length : Int) := by omega
      have hbn := HBN.out
      have i0 : (0 : Int) ≤ (i : Int) := by omega
      have i1 : (i : Int) < (t.length : Int) := by omega
      have hso : (setAll t o (F.take k)).length = t.length := HLN.out _
      obtain ⟨g, cg, eg, hg, hgs, hfr, hcells⟩ := ho.out.opened (by omega)
      simp only [Value.slice.injEq] at eg
      obtain ⟨rfl, hx, rfl⟩ := eg
      clear hx
      have f0 := hfr (i * 2)
      have f1 := hfr (i * 2 + 1)
      obtain ⟨c0, c1'⟩ := hcells i (by omega)
      have hoS := ho.out
      rw [← hso] at hoS
      have HOs0 := Lib.hid (Own.set (i := i) hoS (kn o i))
      have HBs := Lib.hid ((hb.out.setCell (p := ⟨g, i * 2, none⟩) hg (.int .u64 (kn o i).i)).setCell (p := ⟨g, i * 2 + 1, none⟩) hg (.int .i64 (kn o i).s))
      have HOs : Hid (Own ((wr.setCell ⟨g, i * 2, none⟩ (.int .u64 (kn o i).i)).setCell ⟨g, i * 2 + 1, none⟩ (.int .i64 (kn o i).s)) w1.heap.size (.slice (some ⟨g, 0, none⟩) t.length c3) (setAll t o (F.take (k + 1)))) := Lib.hid (by rw [HF.out, ← hso]; exact HOs0.out)
      clear hoS HOs0 HF h1 hfr hcells hso ho hb HBw
      generalize kn o i = x at *
      go_wp2_with fail
      go_roundw
      case rel => exact ⟨k + 1, by go_num, by omega, HOs, HBs⟩
      case measure => simp [intOf]; omega
    · obtain rfl : k = F.length := by omega
      have HO : Hid (Own wr w1.heap.size (.slice A3 t.length c3) (merL t o)) := Lib.hid (by have := ho.out; rwa [List.take_length, HS.out] at this)
      have HE : Hid (Below w.heap.size w wr) := Lib.hid (HB.out.trans (hb.out.mono HB.out.size))
      obtain ⟨A4, c4, e4, hx4, hl4⟩ := HO.out.lst
      simp only [Value.slice.injEq] at e4
      obtain ⟨rfl, hx, rfl⟩ := e4
      clear hx hx4
      have HL4 := Lib.hid hl4
      clear hl4 ho hb HSS HM HS HLN HN H H'
      go_wp2_with fail
      go_ret2
      exact ⟨A3, c3, by rw [HLM.out]; rfl, HL4.out, HE.out⟩

end Go.Proofs.Ytmfpipcedblklaa
