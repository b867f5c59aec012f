/-
  The walks of the library's heap: down, Pop.
-/
import Derived.Test.YtbhpinmdpngbkaaHeap
namespace Go.Proofs.Ytbhpinmdpngbkaa
open Go.RowKit Go.Proofs.Ytbhpinmdpngbkaa.Pure

/-- What down leaves: whatever it answers, a heap of the first n, the last one as it was. -/
def Sunk (w : World) (B g b n c : Nat) (xs : List Tm) (e : Ending) (w' : World) : Prop :=
  ∃ (rb : Bool) (ys : List Tm), e = .returned (.bool rb) ∧ Hp w' B g (.slice (some ⟨b, 0, none⟩) (n + 1) c) ys ∧ HeapN ys n ∧ ys.Perm xs ∧ nth ys n = nth xs n ∧ Kept w w' (Row (.slice (some ⟨b, 0, none⟩) (n + 1) c))

set_option maxRecDepth 100000 in
set_option maxHeartbeats 4000000 in
theorem down_any (B g b n c : Nat) (xs : List Tm) (w : World) (hn : n ≤ 1000) (h : Hp w B g (.slice (some ⟨b, 0, none⟩) (n + 1) c) xs) (hu : DownInv xs n 0) :
    Calls Try.prog 40 #[.iface 51 (.pointer (some ⟨g, 0, none⟩)), .int .i64 0, .int .i64 n] w (Sunk w B g b n c xs) := by
  have H := Lib.hid h
  have HU := Lib.hid hu
  have ml := m_less g (.slice (some ⟨b, 0, none⟩) (n + 1) c)
  have ms := m_swap g (.slice (some ⟨b, 0, none⟩) (n + 1) c)
  have HXL : Hid (n + 1 = xs.length) := Lib.hid h.own.len
  clear h hu
  go_enter Try.func40, Try.ntmps40
  go_wp2_with fail
  go_loopw [7] (fun i wr => ∃ (m : Nat) (ys : List Tm), i = .int .i64 m ∧ m ≤ n ∧ Hid (Hp wr B g (.slice (some ⟨b, 0, none⟩) (n + 1) c) ys) ∧ Hid (DownInv ys n m) ∧ Hid (ys.Perm xs) ∧ Hid (nth ys n = nth xs n) ∧ Hid (Kept w wr (Row (.slice (some ⟨b, 0, none⟩) (n + 1) c)))) (fun i _ => n + 1 - (intOf i).toNat)
  case atStart => exact ⟨0, xs, by go_num, Nat.zero_le _, H, HU, Lib.hid (List.Perm.refl _), Lib.hid rfl, Lib.hid (Kept.refl _ _)⟩
  case round =>
    obtain ⟨m, ys, rfl, hm, hh, hu, hp, hl, hk⟩ := hrel
    have hc := hh.out.cell
    obtain ⟨q1, hq1⟩ : ∃ q1, q1 = 2 * m + 1 := ⟨_, rfl⟩
    obtain ⟨q2, hq2⟩ : ∃ q2, q2 = q1 + 1 := ⟨_, rfl⟩
    have e1 : 2 * (m : Int) + 1 = (q1 : Int) := by omega
    have e2 : (q1 : Int) + 1 = (q2 : Int) := by omega
    by_cases h1 : q1 < n
    · have d0 : decide ((q1 : Int) < 0) = false := by simp
      have HLs : Hid (∀ (W : World) (i j : Nat), Hp W B g (.slice (some ⟨b, 0, none⟩) (n + 1) c) ys → i < n + 1 → j < n + 1 → _) := Lib.hid (fun W i j h hi hj => Hp.less (w := W) h i j hi hj)
      have hway : ∃ j, Least ys n m j ∧ ((j = q1 ∧ n ≤ q2) ∨ (j = q1 ∧ q2 < n ∧ lt (nth ys q2) (nth ys q1) = false) ∨ (j = q2 ∧ q2 < n ∧ lt (nth ys q2) (nth ys q1) = true)) := by
        subst hq2 hq1
        by_cases h2 : 2 * m + 1 + 1 < n
        · rcases h3 : lt (nth ys (2 * m + 1 + 1)) (nth ys (2 * m + 1)) with _ | _
          · exact ⟨2 * m + 1, least_one h1 (.inr h3), .inr (.inl ⟨rfl, h2, rfl⟩)⟩
          · exact ⟨2 * m + 2, least_two h2 h3, .inr (.inr ⟨rfl, h2, rfl⟩)⟩
        · exact ⟨2 * m + 1, least_one h1 (.inl (by omega)), .inl ⟨rfl, by omega⟩⟩
      obtain ⟨j, hL, hway⟩ := hway
      have hjn : j < n := hL.1
      have hjm : m < j := by have := hL.2.1; omega
      have HLE := Lib.hid hL
      have HQ := Lib.hid (And.intro hq1 hq2)
      clear hL hq1 hq2
      rcases hlt : lt (nth ys j) (nth ys m) with _ | _
      · have HLT := Lib.hid hlt
        clear hlt
        rcases hway with ⟨rfl, h2⟩ | ⟨rfl, h2, h3⟩ | ⟨rfl, h2, h3⟩
        · have HC := Lib.hid (HLs.out wr j m hh.out (by omega) (by omega))
          rw [HLT.out] at HC
          go_wp2_with fail
          refine HC.out.mono ?_
          rintro e w2 ⟨rfl, hb2⟩
          have HH2 := Lib.hid (hh.out.on hb2)
          have HK2 := Lib.hid (hk.out.trans (Kept.of_below hb2 (fun _ => False)) (fun _ _ h => h.elim))
          have hc2 := HH2.out.cell
          have HYL := Lib.hid HH2.out.own.len
          clear hb2 HC hc
          go_wp2_with fail
          go_ret
          exact ⟨_, ys, rfl, HH2.out, hu.out.done HLE.out HLT.out, hp.out, hl.out, HK2.out⟩
        · have H3 := Lib.hid h3
          have HC1 := Lib.hid (HLs.out wr q2 j hh.out (by omega) (by omega))
          rw [H3.out] at HC1
          clear h3
          go_wp2_with fail
          refine HC1.out.mono ?_
          rintro e w1 ⟨rfl, hb1⟩
          have HH1 := Lib.hid (hh.out.on hb1)
          have HK1 := Lib.hid (hk.out.trans (Kept.of_below hb1 (fun _ => False)) (fun _ _ h => h.elim))
          have hc1 := HH1.out.cell
          have HC := Lib.hid (HLs.out w1 j m HH1.out (by omega) (by omega))
          rw [HLT.out] at HC
          clear hb1 HC1 hc
          go_wp2_with fail
          refine HC.out.mono ?_
          rintro e w2 ⟨rfl, hb2⟩
          have HH2 := Lib.hid (HH1.out.on hb2)
          have HK2 := Lib.hid (HK1.out.trans (Kept.of_below hb2 (fun _ => False)) (fun _ _ h => h.elim))
          have hc2 := HH2.out.cell
          have HYL := Lib.hid HH2.out.own.len
          clear hb2 HC hc1
          go_wp2_with fail
          go_ret
          exact ⟨_, ys, rfl, HH2.out, hu.out.done HLE.out HLT.out, hp.out, hl.out, HK2.out⟩
        · have H3 := Lib.hid h3
          have HC1 := Lib.hid (HLs.out wr j q1 hh.out (by omega) (by omega))
          rw [H3.out] at HC1
          clear h3
          go_wp2_with fail
          refine HC1.out.mono ?_
          rintro e w1 ⟨rfl, hb1⟩
          have HH1 := Lib.hid (hh.out.on hb1)
          have HK1 := Lib.hid (hk.out.trans (Kept.of_below hb1 (fun _ => False)) (fun _ _ h => h.elim))
          have hc1 := HH1.out.cell
          have HC := Lib.hid (HLs.out w1 j m HH1.out (by omega) (by omega))
          rw [HLT.out] at HC
          clear hb1 HC1 hc
          go_wp2_with fail
          refine HC.out.mono ?_
          rintro e w2 ⟨rfl, hb2⟩
          have HH2 := Lib.hid (HH1.out.on hb2)
          have HK2 := Lib.hid (HK1.out.trans (Kept.of_below hb2 (fun _ => False)) (fun _ _ h => h.elim))
          have hc2 := HH2.out.cell
          have HYL := Lib.hid HH2.out.own.len
          clear hb2 HC hc1
          go_wp2_with fail
          go_ret
          exact ⟨_, ys, rfl, HH2.out, hu.out.done HLE.out HLT.out, hp.out, hl.out, HK2.out⟩
      · have HLT := Lib.hid hlt
        clear hlt
        rcases hway with ⟨rfl, h2⟩ | ⟨rfl, h2, h3⟩ | ⟨rfl, h2, h3⟩
        · have HC := Lib.hid (HLs.out wr j m hh.out (by omega) (by omega))
          rw [HLT.out] at HC
          go_wp2_with fail
          refine HC.out.mono ?_
          rintro e w2 ⟨rfl, hb2⟩
          have HH2 := Lib.hid (hh.out.on hb2)
          have HK2 := Lib.hid (hk.out.trans (Kept.of_below hb2 (fun _ => False)) (fun _ _ h => h.elim))
          have hc2 := HH2.out.cell
          have HYL := Lib.hid HH2.out.own.len
          clear hb2 HC hc
          go_wp2_with fail
          refine (HH2.out.swap_ m j (by omega) (by omega)).mono ?_
          rintro e w3 ⟨rfl, hh3, hk3⟩
          have HH3 := Lib.hid hh3
          have HK3 := Lib.hid (HK2.out.trans hk3 (fun _ _ h => h))
          have HP3 := Lib.hid ((swap_perm ys m j (by have := HYL.out; omega) (by have := HYL.out; omega)).trans hp.out)
          have HU3 := Lib.hid (hu.out.step (by have := HYL.out; omega) HLE.out HLT.out)
          have HL3 : Hid (nth (swap ys m j) n = nth xs n) := Lib.hid (by
            rw [swap_get ys m j n (by have := HYL.out; omega) (by have := HYL.out; omega) (by have := HYL.out; omega), if_neg (by omega), if_neg (by omega)]
            exact hl.out)
          clear hh3 hk3 hc2
          go_wp2_with fail
          go_roundw
          case rel => exact ⟨j, swap ys m j, rfl, by omega, HH3, HU3, HP3, HL3, HK3⟩
          case measure => simp [intOf]; omega
        · have H3 := Lib.hid h3
          have HC1 := Lib.hid (HLs.out wr q2 j hh.out (by omega) (by omega))
          rw [H3.out] at HC1
          clear h3
          go_wp2_with fail
          refine HC1.out.mono ?_
          rintro e w1 ⟨rfl, hb1⟩
          have HH1 := Lib.hid (hh.out.on hb1)
          have HK1 := Lib.hid (hk.out.trans (Kept.of_below hb1 (fun _ => False)) (fun _ _ h => h.elim))
          have hc1 := HH1.out.cell
          have HC := Lib.hid (HLs.out w1 j m HH1.out (by omega) (by omega))
          rw [HLT.out] at HC
          clear hb1 HC1 hc
          go_wp2_with fail
          refine HC.out.mono ?_
          rintro e w2 ⟨rfl, hb2⟩
          have HH2 := Lib.hid (HH1.out.on hb2)
          have HK2 := Lib.hid (HK1.out.trans (Kept.of_below hb2 (fun _ => False)) (fun _ _ h => h.elim))
          have hc2 := HH2.out.cell
          have HYL := Lib.hid HH2.out.own.len
          clear hb2 HC hc1
          go_wp2_with fail
          refine (HH2.out.swap_ m j (by omega) (by omega)).mono ?_
          rintro e w3 ⟨rfl, hh3, hk3⟩
          have HH3 := Lib.hid hh3
          have HK3 := Lib.hid (HK2.out.trans hk3 (fun _ _ h => h))
          have HP3 := Lib.hid ((swap_perm ys m j (by have := HYL.out; omega) (by have := HYL.out; omega)).trans hp.out)
          have HU3 := Lib.hid (hu.out.step (by have := HYL.out; omega) HLE.out HLT.out)
          have HL3 : Hid (nth (swap ys m j) n = nth xs n) := Lib.hid (by
            rw [swap_get ys m j n (by have := HYL.out; omega) (by have := HYL.out; omega) (by have := HYL.out; omega), if_neg (by omega), if_neg (by omega)]
            exact hl.out)
          clear hh3 hk3 hc2
          go_wp2_with fail
          go_roundw
          case rel => exact ⟨j, swap ys m j, rfl, by omega, HH3, HU3, HP3, HL3, HK3⟩
          case measure => simp [intOf]; omega
        · have H3 := Lib.hid h3
          have HC1 := Lib.hid (HLs.out wr j q1 hh.out (by omega) (by omega))
          rw [H3.out] at HC1
          clear h3
          go_wp2_with fail
          refine HC1.out.mono ?_
          rintro e w1 ⟨rfl, hb1⟩
          have HH1 := Lib.hid (hh.out.on hb1)
          have HK1 := Lib.hid (hk.out.trans (Kept.of_below hb1 (fun _ => False)) (fun _ _ h => h.elim))
          have hc1 := HH1.out.cell
          have HC := Lib.hid (HLs.out w1 j m HH1.out (by omega) (by omega))
          rw [HLT.out] at HC
          clear hb1 HC1 hc
          go_wp2_with fail
          refine HC.out.mono ?_
          rintro e w2 ⟨rfl, hb2⟩
          have HH2 := Lib.hid (HH1.out.on hb2)
          have HK2 := Lib.hid (HK1.out.trans (Kept.of_below hb2 (fun _ => False)) (fun _ _ h => h.elim))
          have hc2 := HH2.out.cell
          have HYL := Lib.hid HH2.out.own.len
          clear hb2 HC hc1
          go_wp2_with fail
          refine (HH2.out.swap_ m j (by omega) (by omega)).mono ?_
          rintro e w3 ⟨rfl, hh3, hk3⟩
          have HH3 := Lib.hid hh3
          have HK3 := Lib.hid (HK2.out.trans hk3 (fun _ _ h => h))
          have HP3 := Lib.hid ((swap_perm ys m j (by have := HYL.out; omega) (by have := HYL.out; omega)).trans hp.out)
          have HU3 := Lib.hid (hu.out.step (by have := HYL.out; omega) HLE.out HLT.out)
          have HL3 : Hid (nth (swap ys m j) n = nth xs n) := Lib.hid (by
            rw [swap_get ys m j n (by have := HYL.out; omega) (by have := HYL.out; omega) (by have := HYL.out; omega), if_neg (by omega), if_neg (by omega)]
            exact hl.out)
          clear hh3 hk3 hc2
          go_wp2_with fail
          go_roundw
          case rel => exact ⟨j, swap ys m j, rfl, by omega, HH3, HU3, HP3, HL3, HK3⟩
          case measure => simp [intOf]; omega
    · have d1 : decide (n ≤ q1) = true := by simp; omega
      have hl1 : n ≤ 2 * m + 1 := by omega
      clear hq1 hq2
      go_wp2_with fail
      go_ret
      refine ⟨_, ys, rfl, hh.out, hu.out.leaf hl1, hp.out, hl.out, hk.out⟩
end Go.Proofs.Ytbhpinmdpngbkaa
