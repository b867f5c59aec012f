/-
  The document's num: a number up to a greatest one.
-/
import Derived.Test.YtjeepmdklbfgeaaDoorWire
import Derived.Test.YtjeepmdklbfgeaaDoorMsgD
import Derived.Test.YtjeepmdklbfgeaaDoorKeeps
import Derived.Test.YtjeepmdklbfgeaaDoorBase
namespace Go.Proofs.YtjeepmdklbfgeaaDoor
open Go.Sort Go.RowKit Go.Proofs.YtjeepmdklbfgeaaDoor.Pure Go.Proofs.YtjeepmdklbfgeaaDoor.W Go.Proofs.YtjeepmdklbfgeaaDoor.W.Pure

/-- The document's reader, as a value. -/
def rdV (s : ByteArray) (t : Tk) : Value := .agg #[.string s, .int .i64 (t.p : Int), .bool (!t.b)]
set_option maxRecDepth 100000 in
set_option maxHeartbeats 4000000 in
theorem refnum_any (s : ByteArray) (t : Tk) (most : Nat) (w : World) (hs : s.size ≤ 140737488351232) (hp : t.p ≤ s.size) :
    Calls Tryd.prog 45 #[rdV s t, .int .u64 (most : Int)] w fun e w' => e = .returned (.tuple #[.int .u64 ((tnum s most t).1 : Int), rdV s (tnum s most t).2]) ∧ Below w.heap.size w w' := by
  obtain ⟨p, b⟩ := t
  have HC := Lib.hid (fun W => rtake_in s p W hs hp)
  have hsm := tnum_small s most ⟨p, b⟩
  obtain ⟨R, hR⟩ : ∃ R, tnum s most ⟨p, b⟩ = R := ⟨_, rfl⟩
  rw [hR] at hsm ⊢
  unfold tnum at hR
  simp only [] at hR
  unfold takeV at HC
  obtain ⟨x, hx⟩ : ∃ x, takeL (s.data.toList.drop p) 0 0 = x := ⟨_, rfl⟩
  rw [hx] at HC hR
  obtain ⟨n, k, e⟩ := x
  simp only [] at HC hR
  have HR := Lib.hid hR
  clear hR
  have HP := Lib.hid hp
  clear hx hp
  unfold rdV
  have HB1 : Hid (Below w.heap.size w ((w.alloc (.cells #[.string s, .int .i64 (p : Int), .bool (!b)] 78)).alloc (.cells #[.string ⟨#[]⟩, .int .i64 0, .bool false] 78))) := Lib.hid (((Below.refl _ _).alloc (Nat.le_refl _) _).alloc (by simp) _)
  have hR0 : Row ((w.alloc (.cells #[.string s, .int .i64 (p : Int), .bool (!b)] 78)).alloc (.cells #[.string ⟨#[]⟩, .int .i64 0, .bool false] 78)) w.heap.size [.string s, .int .i64 (p : Int), .bool (!b)] := (Row.new w _ _).on ((Below.refl _ _).alloc (Nat.le_refl _) _) (by decide : 0 < 3)
  have hR1 : Row ((w.alloc (.cells #[.string s, .int .i64 (p : Int), .bool (!b)] 78)).alloc (.cells #[.string ⟨#[]⟩, .int .i64 0, .bool false] 78)) (w.heap.size + 1) [.string ⟨#[]⟩, .int .i64 0, .bool false] := by
    have h1 := Row.new (w.alloc (.cells #[.string s, .int .i64 (p : Int), .bool (!b)] 78)) #[.string ⟨#[]⟩, .int .i64 0, .bool false] 78
    have e1 : (w.alloc (.cells #[.string s, .int .i64 (p : Int), .bool (!b)] 78)).heap.size = w.heap.size + 1 := by simp
    rw [e1] at h1
    exact h1
  go_enter Tryd.func45, Tryd.ntmps45
  go_upto_region 1 with (fail)
  generalize (w.alloc (.cells #[.string s, .int .i64 (p : Int), .bool (!b)] 78)).alloc (.cells #[.string ⟨#[]⟩, .int .i64 0, .bool false] 78) = w1 at *
  have a0 := hR0.at_ 0 _ rfl
  have a1 := hR0.at_ 1 _ rfl
  have a2 := hR0.at_ 2 _ rfl
  have b0 := hR1.at_ 0 _ rfl
  have b1 := hR1.at_ 1 _ rfl
  have b2 := hR1.at_ 2 _ rfl
  have bf := hR1.2
  have HR1 := Lib.hid hR1
  have A0 := fun d os => cell_regrown a0 d os
  have A1 := fun d os => cell_regrown a1 d os
  have A2 := fun d os => cell_regrown a2 d os
  clear hR0 hR1
  by_cases he : e = 0
  · subst he
    by_cases hmo : most < n
    · have d1 : decide ((most : Int) < (n : Int)) = true := by simp; omega
      have hr := HR.out
      rw [if_pos (.inr hmo)] at hr
      subst hr
      clear HR
      go_upto_region 3 with (go_at_call 103; refine (HC.out _).mono ?_; rintro e w2 ⟨rfl, rfl⟩)
      refine ts_region 6 (by kernel_rfl) (by kernel_rfl) ?_
      simp only [List.take_succ_cons, List.take_zero, List.drop_succ_cons, List.drop_zero]
      iterate 6 (refine q_step ?_; intro K hK; go_simp; refine hK _ ?_; clear hK K)
      refine q_nil ?_
      intro wz hbz
      replace HR1 := Lib.hid (HR1.out.on hbz (by decide : 0 < 3))
      have HB2 := Lib.hid (HB1.out.trans (hbz.mono HB1.out.size))
      have c0 := HR1.out.at_ 0 _ rfl
      have c1 := HR1.out.at_ 1 _ rfl
      have c2 := HR1.out.at_ 2 _ rfl
      have cf := HR1.out.2
      clear a0 a1 a2 b0 b1 b2 bf A0 A1 A2 hbz
      go_wp2_with fail
      have HR3 := ((HR1.out.set 0 (show 0 < 3 by decide) (.string s)).set 1 (show 1 < 3 by decide) (.int .i64 (p : Int))).set 2 (show 2 < 3 by decide) (.bool false)
      have r0 := HR3.at_ 0 _ rfl
      have r1 := HR3.at_ 1 _ rfl
      have r2 := HR3.at_ 2 _ rfl
      refine bodyPost_ret (v := .tuple #[.int .u64 (0 : Int), .agg #[.string s, .int .i64 (p : Int), .bool false]]) (by simp [results, Tryd.results45, go_sem, r0, r1, r2]) rfl ⟨by simp, ?_⟩
      exact ((HB2.out.setCell (p := ⟨w.heap.size + 1, 0, none⟩) (Nat.le_succ _) _).setCell (p := ⟨w.heap.size + 1, 1, none⟩) (Nat.le_succ _) _).setCell (p := ⟨w.heap.size + 1, 2, none⟩) (Nat.le_succ _) _
    · have d1 : decide ((most : Int) < (n : Int)) = false := by simp; omega
      have hr := HR.out
      rw [if_neg (by simp; omega)] at hr
      subst hr
      clear HR
      go_upto_region 4 with (go_at_call 103; refine (HC.out _).mono ?_; rintro e w2 ⟨rfl, rfl⟩)
      refine ts_region 8 (by kernel_rfl) (by kernel_rfl) ?_
      simp only [List.take_succ_cons, List.take_zero, List.drop_succ_cons, List.drop_zero]
      iterate 8 (refine q_step ?_; intro K hK; go_simp; refine hK _ ?_; clear hK K)
      refine q_nil ?_
      intro wz hbz
      replace HR1 := Lib.hid (HR1.out.on hbz (by decide : 0 < 3))
      have HB2 := Lib.hid (HB1.out.trans (hbz.mono HB1.out.size))
      have c0 := HR1.out.at_ 0 _ rfl
      have c1 := HR1.out.at_ 1 _ rfl
      have c2 := HR1.out.at_ 2 _ rfl
      have cf := HR1.out.2
      clear a0 a1 a2 b0 b1 b2 bf A0 A1 A2 hbz
      go_wp2_with fail
      have HR3 := ((HR1.out.set 0 (show 0 < 3 by decide) (.string s)).set 1 (show 1 < 3 by decide) (.int .i64 (((p : Int) + (k : Int)) : Int))).set 2 (show 2 < 3 by decide) (.bool (!b))
      have r0 := HR3.at_ 0 _ rfl
      have r1 := HR3.at_ 1 _ rfl
      have r2 := HR3.at_ 2 _ rfl
      refine bodyPost_ret (v := .tuple #[.int .u64 (n : Int), .agg #[.string s, .int .i64 (((p : Int) + (k : Int)) : Int), .bool (!b)]]) (by simp [results, Tryd.results45, go_sem, r0, r1, r2]) rfl ⟨by simp, ?_⟩
      exact ((HB2.out.setCell (p := ⟨w.heap.size + 1, 0, none⟩) (Nat.le_succ _) _).setCell (p := ⟨w.heap.size + 1, 1, none⟩) (Nat.le_succ _) _).setCell (p := ⟨w.heap.size + 1, 2, none⟩) (Nat.le_succ _) _
  · have d0 : ((e : Int) != 0) = true := by rw [bne_iff_ne]; omega
    have hr := HR.out
    rw [if_pos (.inl he)] at hr
    subst hr
    clear HR
    rw [if_neg he] at HC
    have d3 : ¬ (e : Int) = 0 := by omega
    go_upto_region 3 with (go_at_call 103; refine (HC.out _).mono ?_; rintro e w2 ⟨rfl, rfl⟩)
    refine ts_region 6 (by kernel_rfl) (by kernel_rfl) ?_
    simp only [List.take_succ_cons, List.take_zero, List.drop_succ_cons, List.drop_zero]
    iterate 6 (refine q_step ?_; intro K hK; go_simp; refine hK _ ?_; clear hK K)
    refine q_nil ?_
    intro wz hbz
    replace HR1 := Lib.hid (HR1.out.on hbz (by decide : 0 < 3))
    have HB2 := Lib.hid (HB1.out.trans (hbz.mono HB1.out.size))
    have c0 := HR1.out.at_ 0 _ rfl
    have c1 := HR1.out.at_ 1 _ rfl
    have c2 := HR1.out.at_ 2 _ rfl
    have cf := HR1.out.2
    clear a0 a1 a2 b0 b1 b2 bf A0 A1 A2 hbz
    go_wp2_with fail
    have HR3 := ((HR1.out.set 0 (show 0 < 3 by decide) (.string s)).set 1 (show 1 < 3 by decide) (.int .i64 (p : Int))).set 2 (show 2 < 3 by decide) (.bool false)
    have r0 := HR3.at_ 0 _ rfl
    have r1 := HR3.at_ 1 _ rfl
    have r2 := HR3.at_ 2 _ rfl
    refine bodyPost_ret (v := .tuple #[.int .u64 (0 : Int), .agg #[.string s, .int .i64 (p : Int), .bool false]]) (by simp [results, Tryd.results45, go_sem, r0, r1, r2]) rfl ⟨by simp, ?_⟩
    exact ((HB2.out.setCell (p := ⟨w.heap.size + 1, 0, none⟩) (Nat.le_succ _) _).setCell (p := ⟨w.heap.size + 1, 1, none⟩) (Nat.le_succ _) _).setCell (p := ⟨w.heap.size + 1, 2, none⟩) (Nat.le_succ _) _

end Go.Proofs.YtjeepmdklbfgeaaDoor
