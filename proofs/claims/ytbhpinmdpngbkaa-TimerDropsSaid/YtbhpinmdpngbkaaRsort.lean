/-
  The walk of the document's Sort.
-/
import Derived.Test.YtbhpinmdpngbkaaSame
import Derived.Test.YtbhpinmdpngbkaaRankMath
import Derived.Laws.MakeOwn
import Derived.Test.YtbhpinmdpngbkaaQuiet
namespace Go.Proofs.Ytbhpinmdpngbkaa
open Go.RowKit Go.Proofs.Ytbhpinmdpngbkaa.Pure

theorem tms_zero (n : Nat) : (madeCells #[Value.int .i64 0, .int .i64 0, .int .i64 0, .int .u64 0] (n * 4)).toList = tms (List.replicate n zt) := by
  apply List.ext_getElem?
  intro j
  by_cases hj : j < n * 4
  · have e : j / 4 * 4 + j % 4 = j := by omega
    have hr : j % 4 < 4 := by omega
    have hl : j / 4 < n := by omega
    have h2 := tms_at (List.replicate n zt) (j / 4) (j % 4) (by simpa using hl) hr
    rw [e] at h2
    rw [h2]
    have h3 : nth (List.replicate n zt) (j / 4) = zt := by simp [nth, List.getD, hl]
    rw [h3]
    have h4 : (madeCells #[Value.int .i64 0, .int .i64 0, .int .i64 0, .int .u64 0] (n * 4)).toList[j]? = some (#[Value.int .i64 0, .int .i64 0, .int .i64 0, .int .u64 0][j % 4]!) := by
      simp [madeCells, hj]
    rw [h4]
    generalize j % 4 = r at *
    match r, hr with
    | 0, _ => rfl
    | 1, _ => rfl
    | 2, _ => rfl
    | 3, _ => rfl
  · have h1 : (madeCells #[Value.int .i64 0, .int .i64 0, .int .i64 0, .int .u64 0] (n * 4)).toList.length = n * 4 := by simp [size_madeCells]
    rw [List.getElem?_eq_none (by omega), List.getElem?_eq_none (by simp [tms_len]; omega)]

set_option maxRecDepth 100000 in
set_option maxHeartbeats 4000000 in
theorem rsort_any (A : Option Addr) (c lo hi : Nat) (xs : List Tm) (w : World) (hn : xs.length ≤ 1000) (h : Has w lo hi A xs) (hh : hi ≤ w.heap.size) :
    Calls Try.prog 18 #[.slice A xs.length c] w (Makes w (srt xs)) := by
  obtain ⟨i0, hi0, hz0, hz1, hz2⟩ := info_parts Try.infoTm
  have H := Lib.hid h
  clear h
  go_enter Try.func18, Try.ntmps18
  go_wp2_with (refine wpList_make_full _ rfl _ _ 22 rfl w.heap.size 33 i0 _ 4 Try.underlying22 hi0 hz0 hz1 .i64 .i64 _ _ xs.length rfl rfl rfl rfl ?c1 ?c2 (Nat.le_refl _) ?_)
  case c1 => rw [hz2]; omega
  case c2 => unfold maxLen; omega
  intro w1 hown hgrow
  rw [tms_zero] at hown
  have HO : Hid (Own w1 w.heap.size (.slice (some ⟨w.heap.size, 0, none⟩) xs.length xs.length) (List.replicate xs.length zt)) := Lib.hid (by unfold Own; rw [List.length_replicate]; exact hown)
  have HB1 : Hid (Below w.heap.size w w1) := Lib.hid ((Below.refl _ _).grown hgrow (Nat.le_refl _) (by intro k hk; cases hk))
  clear hown hgrow
  go_wp2_with fail
  go_loopw [4] (fun i wr => ∃ (m : Nat) (os : List Tm), i = .int .i64 m ∧ m ≤ xs.length ∧ Hid (os.length = xs.length) ∧ Hid (∀ k, k < m → nth os (rank xs k) = nth xs k) ∧ Hid (Own wr w.heap.size (.slice (some ⟨w.heap.size, 0, none⟩) xs.length xs.length) os) ∧ Hid (Below w.heap.size w wr)) (fun i _ => xs.length - (intOf i).toNat)
  case atStart => exact ⟨0, _, by go_num, Nat.zero_le _, Lib.hid (by simp), Lib.hid (fun k hk => absurd hk (Nat.not_lt_zero k)), HO, HB1⟩
  case round =>
    obtain ⟨m, os, rfl, hm, hol, hos, ho, hb⟩ := hrel
    obtain ⟨wq, ewq⟩ : ∃ wq, wq = wr := ⟨_, rfl⟩
    subst ewq
    by_cases hlt : m < xs.length
    · have m0 : (0 : Int) ≤ (m : Int) := by omega
      have m1 : (m : Int) < (xs.length : Int) := by omega
      clear HO HB1
      go_wp2_with fail
      go_loopw [5, 6] (fun n i wx => ∃ j : Nat, i = .int .i64 j ∧ j ≤ xs.length ∧ n = .int .i64 (cnt xs m j : Nat) ∧ Hid (Below wq.heap.size wq wx)) (fun _ i _ => xs.length - (intOf i).toNat)
      case atStart => exact ⟨0, by go_num, Nat.zero_le _, by go_num, Lib.hid (Below.refl _ _)⟩
      case round =>
        obtain ⟨j, rfl, hj, rfl, hbx⟩ := hrel
        obtain ⟨wx, ewx⟩ : ∃ wx, wx = wr := ⟨_, rfl⟩
        subst ewx
        have hcl := cnt_le xs m j
        by_cases hltj : j < xs.length
        · have j0 : (0 : Int) ≤ (j : Int) := by omega
          have j1 : (j : Int) < (xs.length : Int) := by omega
          have hbz := hb.out.size
          obtain ⟨ad, rfl, _, _, hcj⟩ := ((H.out.on hb.out hh).on hbx.out (by omega)) j hltj
          obtain ⟨ad', e, _, _, hcm⟩ := ((H.out.on hb.out hh).on hbx.out (by omega)) m hlt
          obtain rfl := Option.some.inj e
          obtain ⟨p1, q1, r1, s1, e1, a1, a2, a3, a4⟩ := hcj.cells
          obtain ⟨p0, q0, r0, s0, e0, b1, b2, b3, b4⟩ := hcm.cells
          have e1' : nth xs j = ⟨p1, q1, r1, s1⟩ := e1
          have e0' : nth xs m = ⟨p0, q0, r0, s0⟩ := e0
          have HC := Lib.hid (fun W => rless_any p1 q1 r1 s1 p0 q0 r0 s0 W)
          have HN : Hid (cnt xs m (j + 1) = cnt xs m j + if lt ⟨p1, q1, r1, s1⟩ ⟨p0, q0, r0, s0⟩ || (decide ((⟨p1, q1, r1, s1⟩ : Tm) = ⟨p0, q0, r0, s0⟩) && decide (j < m)) then 1 else 0) := Lib.hid (by
            rw [cnt, aheadAt, e1', e0'])
          generalize cnt xs m j = q at *
          have g1 := fun d os => cell_regrown a1 d os
          have g2 := fun d os => cell_regrown a2 d os
          have g3 := fun d os => cell_regrown a3 d os
          have g4 := fun d os => cell_regrown a4 d os
          have f1 := fun d os => cell_regrown b1 d os
          have f2 := fun d os => cell_regrown b2 d os
          have f3 := fun d os => cell_regrown b3 d os
          have f4 := fun d os => cell_regrown b4 d os
          clear hcj hcm e e1 e0 e1' e0' a1 a2 a3 a4 b1 b2 b3 b4
          rcases hl : lt ⟨p1, q1, r1, s1⟩ ⟨p0, q0, r0, s0⟩ with _ | _
          · rw [hl] at HC HN
            clear hl
            by_cases heq : (⟨p1, q1, r1, s1⟩ : Tm) = ⟨p0, q0, r0, s0⟩
            · injection heq with h1 h2 h3 h4
              subst h1 h2 h3 h4
              by_cases hjm : j < m
              · have hd : decide (j < m) = true := by simpa using hjm
                have HD := Lib.hid hjm
                clear hjm
                go_wp2_with fail
                refine q_enter (by kernel_rfl) (by kernel_rfl) ?_
                iterate 8 (refine q_step ?_; intro K hK; go_simp; refine hK _ ?_; clear hK K)
                refine q_step ?_
                intro K hK
                go_simp
                refine ⟨_, fun a => Calls.regrown_of (HC.out _), hK _ ?_⟩
                clear hK K
                iterate 16 (refine q_step ?_; intro K hK; go_simp; refine hK _ ?_; clear hK K)
                refine q_nil ?_
                intro wz hbz2
                have HBZ : Hid (Below wq.heap.size wq wz) := Lib.hid (hbx.out.trans (hbz2.mono hbx.out.size))
                clear hbz2
                go_wp2_with fail
                go_roundw
                case rel => exact ⟨j + 1, by go_num, by omega, by rw [HN.out]; simp [HD.out], HBZ⟩
                case measure => simp [intOf]; omega
              · have hd : decide (j < m) = false := by simpa using hjm
                have HD := Lib.hid hjm
                clear hjm
                go_wp2_with fail
                refine q_enter (by kernel_rfl) (by kernel_rfl) ?_
                iterate 8 (refine q_step ?_; intro K hK; go_simp; refine hK _ ?_; clear hK K)
                refine q_step ?_
                intro K hK
                go_simp
                refine ⟨_, fun a => Calls.regrown_of (HC.out _), hK _ ?_⟩
                clear hK K
                iterate 16 (refine q_step ?_; intro K hK; go_simp; refine hK _ ?_; clear hK K)
                refine q_nil ?_
                intro wz hbz2
                have HBZ : Hid (Below wq.heap.size wq wz) := Lib.hid (hbx.out.trans (hbz2.mono hbx.out.size))
                clear hbz2
                go_wp2_with fail
                go_roundw
                case rel => exact ⟨j + 1, by go_num, by omega, by rw [HN.out]; simp [HD.out], HBZ⟩
                case measure => simp [intOf]; omega
            · have HNE := Lib.hid heq
              clear heq
              go_wp2_with fail
              refine q_enter (by kernel_rfl) (by kernel_rfl) ?_
              iterate 8 (refine q_step ?_; intro K hK; go_simp; refine hK _ ?_; clear hK K)
              refine q_step ?_
              intro K hK
              go_simp
              refine ⟨_, fun a => Calls.regrown_of (HC.out _), hK _ ?_⟩
              clear hK K
              iterate 9 (refine q_step ?_; intro K hK; go_simp; refine hK _ ?_; clear hK K)
              refine q_step ?_
              intro K hK
              go_simp
              refine ⟨.bool false, fun a => ?_, hK _ ?_⟩
              · have hne : ¬ (p1 = p0 ∧ q1 = q0 ∧ r1 = r0 ∧ s1 = s0) := fun ⟨h1, h2, h3, h4⟩ => HNE.out (by rw [h1, h2, h3, h4])
                by_cases h1 : p1 = p0 <;> by_cases h2 : q1 = q0 <;> by_cases h3 : r1 = r0 <;> by_cases h4 : s1 = s0 <;> simp [h1, h2, h3, h4] <;> exact hne ⟨h1, h2, h3, h4⟩
              clear hK K
              iterate 6 (refine q_step ?_; intro K hK; go_simp; refine hK _ ?_; clear hK K)
              refine q_nil ?_
              intro wz hbz2
              have HBZ : Hid (Below wq.heap.size wq wz) := Lib.hid (hbx.out.trans (hbz2.mono hbx.out.size))
              clear hbz2
              go_wp2_with fail
              go_roundw
              case rel => exact ⟨j + 1, by go_num, by omega, by rw [HN.out]; simp [HNE.out], HBZ⟩
              case measure => simp [intOf]; omega
          · rw [hl] at HC HN
            clear hl
            go_wp2_with fail
            refine q_enter (by kernel_rfl) (by kernel_rfl) ?_
            iterate 8 (refine q_step ?_; intro K hK; go_simp; refine hK _ ?_; clear hK K)
            refine q_step ?_
            intro K hK
            go_simp
            refine ⟨_, fun a => Calls.regrown_of (HC.out _), hK _ ?_⟩
            clear hK K
            iterate 16 (refine q_step ?_; intro K hK; go_simp; refine hK _ ?_; clear hK K)
            refine q_nil ?_
            intro wz hbz2
            have HBZ : Hid (Below wq.heap.size wq wz) := Lib.hid (hbx.out.trans (hbz2.mono hbx.out.size))
            clear hbz2
            go_wp2_with fail
            go_roundw
            case rel => exact ⟨j + 1, by go_num, by omega, by rw [HN.out]; simp, HBZ⟩
            case measure => simp [intOf]; omega
        · obtain rfl : j = xs.length := by omega
          have hrk : cnt xs m xs.length = rank xs m := rfl
          have hrl := rank_lt xs m hlt
          have HL := Lib.hid (laid_step hol.out hlt hos.out)
          rw [hrk]
          generalize rank xs m = rk at *
          obtain ⟨ad, rfl, _, _, hcm⟩ := ((H.out.on hb.out hh).on hbx.out (by have := hb.out.size; omega)) m hlt
          have hcm2 : At wx (ad.add (m * 4)) (nth xs m) := hcm
          have hown : Own wx w.heap.size (.slice (some ⟨w.heap.size, 0, none⟩) xs.length xs.length) os := ho.out.keep fun k hk => hbx.out.block k (ho.out.ge k hk).2
          have HP := Lib.hid (hown.put rk hrl (nth xs m))
          obtain ⟨d0, d1, d2, d3, e0, e1, e2, e3⟩ := hown.four rk hrl
          generalize nth xs m = x at *
          generalize nth os rk = y at *
          obtain ⟨b1, b2, b3, b4⟩ := hcm2.flat
          have r0 : (0 : Int) ≤ (rk : Int) := by omega
          have r1 : (rk : Int) < (xs.length : Int) := by omega
          have HOL : Hid ((os.set rk x).length = xs.length) := Lib.hid (by rw [List.length_set]; exact hol.out)
          clear hcm hcm2 hown hrk
          go_wp2_with fail
          go_roundw
          case rel => exact ⟨m + 1, os.set rk x, by go_num, by omega, HOL, HL, Lib.hid HP.out.1, Lib.hid ((hb.out.trans (hbx.out.mono hb.out.size)).grown HP.out.2 (by have := hb.out.size; have := hbx.out.size; omega) (by intro k hk; injection hk; omega))⟩
          case measure => simp [intOf]; omega
    · obtain rfl : m = xs.length := by omega
      have HE : Hid (Makes w (srt xs) (.returned (.slice (some ⟨w.heap.size, 0, none⟩) xs.length xs.length)) wq) := Lib.hid ⟨_, rfl, by
        rw [← laid hol.out hos.out]
        exact ho.out, hb.out⟩
      go_wp2
      go_ret
      exact HE.out
end Go.Proofs.Ytbhpinmdpngbkaa
