/-
  The walks of the document's May, Apply, Merge, Up, Others and Behind.
-/
import Derived.Test.YtmfpipcedblklaaLook
namespace Go.Proofs.Ytmfpipcedblklaa
open Go.Sort Go.RowKit Go.Proofs.Ytmfpipcedblklaa.Pure

set_option maxRecDepth 100000 in
set_option maxHeartbeats 2000000 in
theorem rmayT_any (A : Option Addr) (c : Nat) (l : List Kn) (w : World) (hn : l.length ≤ 1000) (h : Lst w A l) (L : Bool) (hL : mayT l = L) :
    Calls Try.prog 17 #[.slice A l.length c] w fun e w' => e = .returned (.bool L) ∧ Below w.heap.size w w' := by
  have H := Lib.hid h
  have HL : Hid (L = true ↔ 1 ≤ l.length ∧ l.length ≤ 64 ∧ ∀ j, j < l.length → mayK (kn l j) = true) := Lib.hid (by rw [← hL, mayT_iff, mayL_iff])
  clear h hL
  go_enter Try.func17, Try.ntmps17
  go_wp2_with fail
  go_loopw [3] (fun i wr => ∃ k : Nat, i = .int .i64 k ∧ k ≤ l.length ∧ Hid (∀ j, j < k → mayK (kn l j) = true) ∧ Hid (Below w.heap.size w wr)) (fun i _ => l.length - (intOf i).toNat)
  case atStart => exact ⟨0, rfl, Nat.zero_le _, Lib.hid (fun j hj => absurd hj (Nat.not_lt_zero j)), Lib.hid (Below.refl _ _)⟩
  case round =>
    obtain ⟨k, rfl, hk, hok, hb⟩ := hrel
    by_cases hlt : k < l.length
    · obtain ⟨ad, rfl, hlo, h1⟩ := (H.out.on hb.out) k hlt
      obtain ⟨a0, a1⟩ := h1.flat
      have k0 : (0 : Int) ≤ (k : Int) := by omega
      have k1 : (k : Int) < (l.length : Int) := by omega
      have HM := Lib.hid (fun W => rmay_any (kn l k) W)
      have hsz := Lib.hid hb.out.size
      have HS : Hid (mayK (kn l k) = true → ∀ j, j < k + 1 → mayK (kn l j) = true) := Lib.hid (fun h j hj => by
        rcases Nat.lt_or_ge j k with hjk | hjk
        · exact hok.out j hjk
        · obtain rfl : j = k := by omega
          exact h)
      have HF : Hid (mayK (kn l k) = false → L = false) := Lib.hid (fun h => by
        rcases L with _ | _
        · rfl
        · have := (HL.out.1 rfl).2.2 k hlt
          rw [h] at this; cases this)
      generalize mayK (kn l k) = M at *
      generalize kn l k = x at *
      clear h1 hok
      go_wp2_with fail
      refine (HM.out _).mono ?_
      rintro e w1 ⟨rfl, hb1⟩
      have HB1 : Hid (Below w.heap.size w w1) := Lib.hid (hb.out.trans (hb1.mono hsz.out))
      clear hb1 a0 a1
      rcases M with _ | _
      · obtain rfl := HF.out rfl
        go_wp2_with fail
        go_ret
        exact ⟨rfl, HB1.out⟩
      · have HS' := Lib.hid (HS.out rfl)
        clear HS HF
        go_wp2_with fail
        go_roundw
        case rel => exact ⟨k + 1, by go_num, by omega, HS', HB1⟩
        case measure => simp [intOf]; omega
    · have hk' : k = l.length := by omega
      have e0 : decide ((k : Int) < (l.length : Int)) = false := by simp; omega
      have HE : Hid (L = (decide ((1 : Int) ≤ (l.length : Int)) && decide ((l.length : Int) ≤ 64))) := Lib.hid (by
        rw [Bool.eq_iff_iff, HL.out]
        simp only [Bool.and_eq_true, decide_eq_true_eq]
        constructor
        · intro h; omega
        · intro h; exact ⟨by omega, by omega, fun j hj => hok.out j (by omega)⟩)
      clear hok HL
      rcases e1 : decide ((1 : Int) ≤ (l.length : Int)) with _ | _
      · rw [e1] at HE
        obtain rfl := HE.out
        clear HE
        go_wp2_with fail
        go_ret
        exact ⟨rfl, hb.out⟩
      · rw [e1] at HE
        go_wp2_with fail
        go_ret
        exact ⟨ret_bool (by rw [HE.out]; rfl), hb.out⟩

/-- A call answers the table ys. -/
def Lists (w : World) (ys : List Kn) (e : Ending) (w' : World) : Prop :=
  ∃ v, e = .returned v ∧ Own w' w.heap.size v ys ∧ Below w.heap.size w w'
theorem Own.of_lt {w : World} {B : Nat} {v : Value} {xs : List Kn} (h : Own w B v xs) (hn : 0 < xs.length) : ∃ g c, v = .slice (some ⟨g, 0, none⟩) xs.length c ∧ B ≤ g := by
  obtain ⟨g, c, e, hB, _⟩ := h.opened hn
  exact ⟨g, c, e, hB⟩

set_option maxRecDepth 100000 in
set_option maxHeartbeats 2000000 in
theorem rapp_any (A : Option Addr) (c : Nat) (l : List Kn) (who : Nat) (k : Kn) (w : World) (hn : l.length ≤ 1000) (h : Lst w A l) (hw : who < l.length) :
    Calls Try.prog 26 #[.slice A l.length c, .int .i64 (who : Int), .agg #[.int .u64 k.i, .int .i64 k.s]] w (Lists w (appL l who k)) := by
  have H := Lib.hid ((h.alloc (.cells #[.int .u64 k.i, .int .i64 k.s] 25)))
  have BK := Lib.hid (Bx.new w k 25)
  have HB : Hid (Below w.heap.size w (w.alloc (.cells #[.int .u64 k.i, .int .i64 k.s] 25))) := Lib.hid ((Below.refl _ _).alloc (Nat.le_refl _) _)
  have HJ : Hid (∀ (W : World) (p : Regrown), Calls Try.prog 46 #[.agg #[.int .u64 k.i, .int .i64 k.s], .agg #[.int .u64 (kn l who).i, .int .i64 (kn l who).s]] (grow (redrawn W p.d) p.os) fun e w' => e = .returned (.agg #[.int .u64 (stepK (kn l who) k).i, .int .i64 (stepK (kn l who) k).s]) ∧ Below (grow (redrawn W p.d) p.os).heap.size (grow (redrawn W p.d) p.os) w') := Lib.hid fun W p => rjoin_any k (kn l who) _
  have HF : Hid (appL l who k = l.set who (stepK (kn l who) k)) := Lib.hid rfl
  have HP : Hid (∀ (v : Value) (W : World), Own W w.heap.size v (appL l who k) → Below w.heap.size w W → Lists w (appL l who k) (.returned v) W) := Lib.hid fun v W ho hb => ⟨v, rfl, ho, hb⟩
  have k0 : (0 : Int) ≤ (who : Int) := by omega
  have k1 : (who : Int) < (l.length : Int) := by omega
  clear h
  generalize appL l who k = F at *
  generalize stepK (kn l who) k = J at *
  go_enter Try.func26, Try.ntmps26
  go_upto_region 1 with (fail)
  generalize w.alloc (.cells #[.int .u64 k.i, .int .i64 k.s] 25) = w2 at *
  have hz2 : w.heap.size < w2.heap.size := BK.out.lt
  go_wp2_with (at_builtin; refine wpList_append_lst rfl _ _ rfl w2.heap.size _ [] rfl ?c1 A c l rfl ?c2 ?c3 ?c4 ?_)
  case c1 => exact World.ownsRow_made w2 #[] 0 (Nat.le_refl _) (Nat.zero_le _) rfl
  case c2 => exact H.out.alloc _
  case c3 => simp; omega
  case c4 => simp
  intro v3 w3 hown3 hgrow3
  have HO3 : Hid (Own w3 w2.heap.size v3 l) := Lib.hid hown3
  have hb3 : Below w2.heap.size w2 w3 := (((Below.refl _ w2).alloc (Nat.le_refl _) _).grown hgrow3 (by simp) (by intro k hk; simp [Value.ownBlock] at hk; omega))
  have HB3 : Hid (Below w.heap.size w w3) := Lib.hid (HB.out.trans (hb3.mono (by omega)))
  have BK3 := Lib.hid (BK.out.on hb3)
  obtain ⟨ad, rfl, hlo, h1⟩ := (H.out.on hb3) who hw
  obtain ⟨a0, a1⟩ := h1.flat
  obtain ⟨u0, u1⟩ := BK3.out
  obtain ⟨g, cg, rfl, hg, hgs, hfr, hcells⟩ := HO3.out.opened (by omega)
  clear hown3 hgrow3 hb3 hcells hfr BK
  generalize kn l who = y at *
  go_upto_region 2 with (fail)
  have A0 := fun d os => cell_regrown a0 d os
  have A1 := fun d os => cell_regrown a1 d os
  have U0 := fun d os => cell_regrown u0 d os
  have U1 := fun d os => cell_regrown u1 d os
  clear a0 a1 u0 u1
  refine t_region 9 (by kernel_rfl) (by kernel_rfl) ?_
  iterate 9 (refine q_step ?_; intro K hK; go_simp; first | (refine hK _ ?_; clear hK K) | (refine ⟨_, fun p => Calls.regrown_of (by with_reducible exact HJ.out _ p), hK _ ?_⟩; clear hK K))
  refine q_nil ?_
  intro wz hbz
  have HOz := Lib.hid (HO3.out.on hbz)
  have HBz : Hid (Below w.heap.size w wz) := Lib.hid (HB3.out.trans (hbz.mono HB3.out.size))
  obtain ⟨g', c', e', hg', hgs', hfr, hcells⟩ := HOz.out.opened (by omega)
  obtain ⟨rfl, rfl⟩ : g = g' ∧ cg = c' := by simpa using e'
  have f0 := hfr (who * 2)
  have f1 := hfr (who * 2 + 1)
  obtain ⟨c0, c1⟩ := hcells who hw
  have HOs := Lib.hid (HOz.out.set (i := who) J)
  have HBs : Hid (Below w.heap.size w ((wz.setCell ⟨g, who * 2, none⟩ (.int .u64 J.i)).setCell ⟨g, who * 2 + 1, none⟩ (.int .i64 J.s))) := Lib.hid ((HBz.out.setCell (by simp; omega) _).setCell (by simp; omega) _)
  have HOF : Hid (Own ((wz.setCell ⟨g, who * 2, none⟩ (.int .u64 J.i)).setCell ⟨g, who * 2 + 1, none⟩ (.int .i64 J.s)) w.heap.size (.slice (some ⟨g, 0, none⟩) l.length cg) F) := Lib.hid (by rw [HF.out]; exact HOs.out.mono (by omega))
  clear hbz hfr hcells A0 A1 U0 U1 HO3 HOs
  go_wp2_with fail
  go_ret
  exact HP.out _ _ HOF.out HBs.out

end Go.Proofs.Ytmfpipcedblklaa
