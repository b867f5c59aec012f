/-
  The walks of the library's heap: up, Push, down, Pop.
-/
import Derived.Test.YtbhpinmdpngbkaaPush
namespace Go.Proofs.Ytbhpinmdpngbkaa
open Go.RowKit Go.Proofs.Ytbhpinmdpngbkaa.Pure

/-- A slice's own block. -/
def Row (v : Value) (k : Nat) : Prop := v.ownBlock = some k

section
variable {w w' : World} {B g b n c : Nat} {v : Value} {xs : List Tm}
theorem Hp.less (h : Hp w B g (.slice (some ⟨b, 0, none⟩) n c) xs) (i j : Nat) (hi : i < n) (hj : j < n) :
    Calls Try.prog 57 #[.slice (some ⟨b, 0, none⟩) n c, .int .i64 i, .int .i64 j] w fun e w' => e = .returned (.bool (lt (nth xs i) (nth xs j))) ∧ Below w.heap.size w w' := by
  obtain rfl := h.own.len
  obtain ⟨A, c', e, _, hh⟩ := h.own.has
  injection e with e1 _ e3
  subst e1 e3
  exact hless_any _ c _ _ i j xs w hh hi hj
theorem Hp.swap_ (h : Hp w B g (.slice (some ⟨b, 0, none⟩) n c) xs) (i j : Nat) (hi : i < n) (hj : j < n) :
    Calls Try.prog 60 #[.slice (some ⟨b, 0, none⟩) n c, .int .i64 i, .int .i64 j] w fun e w' => e = .returned (.tuple #[]) ∧ Hp w' B g (.slice (some ⟨b, 0, none⟩) n c) (swap xs i j) ∧ Kept w w' (Row (.slice (some ⟨b, 0, none⟩) n c)) := by
  refine (swap_any b n c B i j xs w h.own hi hj).mono ?_
  rintro e w' ⟨rfl, ho, hg⟩
  have hne : some g ≠ some b := fun e => h.ne e.symm
  exact ⟨rfl, ⟨ho, (hg.cell_far ⟨g, 0, none⟩ h.bound hne).trans h.cell, (hg.frozen_far ⟨g, 0, none⟩ h.bound hne).trans h.free, h.ne, h.lo⟩, Kept.of_grown hg fun i e => e⟩
end

set_option maxRecDepth 100000 in
set_option maxHeartbeats 2000000 in
theorem up_any (B g b n c j : Nat) (xs : List Tm) (w : World) (hn : n ≤ 1001) (hj : j < n) (h : Hp w B g (.slice (some ⟨b, 0, none⟩) n c) xs) (hu : UpInv xs j) :
    Calls Try.prog 34 #[.iface 51 (.pointer (some ⟨g, 0, none⟩)), .int .i64 j] w fun e w' =>
      ∃ ys, e = .returned (.tuple #[]) ∧ Hp w' B g (.slice (some ⟨b, 0, none⟩) n c) ys ∧ IsHeap ys ∧ ys.Perm xs ∧ Kept w w' (Row (.slice (some ⟨b, 0, none⟩) n c)) := by
  have H := Lib.hid h
  have HU := Lib.hid hu
  have ml := m_less g (.slice (some ⟨b, 0, none⟩) n c)
  have ms := m_swap g (.slice (some ⟨b, 0, none⟩) n c)
  clear h hu
  go_enter Try.func34, Try.ntmps34
  go_wp2_with fail
  go_loopw [1] (fun i wr => ∃ (m : Nat) (ys : List Tm), i = .int .i64 m ∧ m < n ∧ Hid (Hp wr B g (.slice (some ⟨b, 0, none⟩) n c) ys) ∧ Hid (UpInv ys m) ∧ Hid (ys.Perm xs) ∧ Hid (Kept w wr (Row (.slice (some ⟨b, 0, none⟩) n c)))) (fun i _ => (intOf i).toNat)
  case atStart => exact ⟨j, xs, rfl, hj, H, HU, Lib.hid (List.Perm.refl _), Lib.hid (Kept.refl _ _)⟩
  case round =>
    obtain ⟨m, ys, rfl, hm, hh, hu, hp, hk⟩ := hrel
    have hc := hh.out.cell
    rcases Nat.eq_zero_or_pos m with rfl | hpos
    · go_wp2
      go_end0
      exact ⟨ys, rfl, hh.out, hu.out.done (.inl rfl), hp.out, hk.out⟩
    · obtain ⟨k, hkm⟩ : ∃ k, k + 1 = m := ⟨m - 1, by omega⟩
      obtain ⟨p, hpk⟩ : ∃ p, p = k / 2 := ⟨_, rfl⟩
      have e1 : (m : Int) - 1 = (k : Int) := by omega
      have e2 : (k : Int).tdiv 2 = (p : Int) := by rw [hpk]; exact (Int.ofNat_tdiv k 2).symm
      have e2' : (k : Int) / 2 = (p : Int) := by omega
      have e3 : ((p : Int) == (m : Int)) = false := by rw [beq_eq_false_iff_ne]; omega
      have hpm : p < n := by omega
      have HPM : Hid ((m - 1) / 2 = p) := Lib.hid (by omega)
      have k0 : (0 : Int) ≤ (k : Int) := by omega
      have HL := Lib.hid (hh.out.less m p hm hpm)
      rcases hlt : lt (nth ys m) (nth ys p) with _ | _
      · rw [hlt] at HL
        have HLT := Lib.hid hlt
        clear hlt hkm hpk
        go_wp2_with fail
        refine HL.out.mono ?_
        rintro e w1 ⟨rfl, hb1⟩
        have HB1 := Lib.hid hb1
        clear hb1 hc
        go_wp2_with fail
        go_end0
        exact ⟨ys, rfl, hh.out.on HB1.out, hu.out.done (.inr (by rw [HPM.out]; exact HLT.out)), hp.out, hk.out.trans (Kept.of_below HB1.out (fun _ => False)) (fun _ _ h => h.elim)⟩
      · rw [hlt] at HL
        have HLT := Lib.hid hlt
        clear hlt
        have hpm' : p < m := by omega
        clear hkm hpk
        go_wp2_with fail
        refine HL.out.mono ?_
        rintro e w1 ⟨rfl, hb1⟩
        have HH1 := Lib.hid (hh.out.on hb1)
        have HK1 := Lib.hid (hk.out.trans (Kept.of_below hb1 (fun _ => False)) (fun _ _ h => h.elim))
        have hc1 := HH1.out.cell
        clear hb1 hc
        go_wp2_with fail
        refine (HH1.out.swap_ p m hpm hm).mono ?_
        rintro e w2 ⟨rfl, hh2, hk2⟩
        have HH2 := Lib.hid hh2
        have HK2 := Lib.hid (HK1.out.trans hk2 (fun _ _ h => h))
        have hlen := hh.out.own.len
        have HP2 := Lib.hid ((swap_perm ys p m (by omega) (by omega)).trans hp.out)
        have HU2 : Hid (UpInv (swap ys p m) p) := Lib.hid (by
          have := hu.out.step hpos (by omega) (by rw [HPM.out]; exact HLT.out)
          rw [HPM.out] at this
          exact this)
        clear hh2 hk2 hc1 hlen
        go_wp2_with fail
        go_roundw
        case rel => exact ⟨p, swap ys p m, rfl, hpm, HH2, HU2, HP2, HK2⟩
        case measure => simp [intOf]; omega

set_option maxRecDepth 100000 in
set_option maxHeartbeats 2000000 in
theorem hpush_any (B g : Nat) (v : Value) (xs : List Tm) (p q r s : Int) (w : World) (hn : xs.length ≤ 1000) (h : Hp w B g v xs) (hi : IsHeap xs) (hB : B ≤ w.heap.size) :
    Calls Try.prog 25 #[.iface 51 (.pointer (some ⟨g, 0, none⟩)), .iface 33 (.agg #[.int .i64 p, .int .i64 q, .int .i64 r, .int .u64 s])] w fun e w' =>
      ∃ v' ys, e = .returned (.tuple #[]) ∧ Hp w' B g v' ys ∧ IsHeap ys ∧ ys.Perm (xs ++ [⟨p, q, r, s⟩]) ∧ (v'.ownBlock = v.ownBlock ∨ ∃ b, w.heap.size ≤ b ∧ v'.ownBlock = some b) ∧ Kept w w' (Its g v) := by
  have HP := Lib.hid (push_any B g v xs p q r s w hn h hB)
  have HI := Lib.hid hi
  have mp := m_push g
  clear h hi
  go_enter Try.func25, Try.ntmps25
  go_wp2_with fail
  refine HP.out.mono ?_
  rintro e w1 ⟨v', rfl, hh1, hat, hk1⟩
  obtain ⟨b, c, rfl, hb, hblt, hcap, hcm⟩ := hh1.own.some_ (by simp)
  have hlen : (xs ++ [(⟨p, q, r, s⟩ : Tm)]).length = xs.length + 1 := by simp
  rw [hlen] at hh1 hat
  have HH1 := Lib.hid hh1
  have HU : Hid (UpInv (xs ++ [⟨p, q, r, s⟩]) xs.length) := Lib.hid (UpInv.start HI.out)
  have HA := Lib.hid hat
  have HK := Lib.hid hk1
  have hc1 := hh1.cell
  have ml := m_len g (.slice (some ⟨b, 0, none⟩) (xs.length + 1) c)
  have e1 : ((xs.length + 1 : Nat) : Int) - 1 = (xs.length : Int) := by omega
  have e2 : (xs.length : Int) + 1 - 1 = (xs.length : Int) := by omega
  have HUP := Lib.hid (up_any B g b (xs.length + 1) c xs.length (xs ++ [⟨p, q, r, s⟩]) w1 (by omega) (by omega) hh1 HU.out)
  clear hh1 hat hk1 hb hblt hcap hcm hlen
  go_wp2_with fail
  refine (len_any _ _ _ _).mono ?_
  rintro e w2 ⟨rfl, rfl⟩
  go_wp2_with fail
  refine HUP.out.mono ?_
  rintro e w2 ⟨ys, rfl, hh2, hi2, hp2, hk2⟩
  have HE : Hid (_ ∧ _ ∧ _ ∧ _ ∧ _) := Lib.hid ⟨hh2, hi2, hp2, HA.out, HK.out.trans hk2 (fun i hi h => by
    rcases HA.out with e | ⟨b', hb', e⟩
    · exact .inr (e.symm.trans h)
    · have e3 : some b' = some i := e.symm.trans h
      injection e3
      omega)⟩
  clear hh2 hi2 hp2 hk2 hc1
  go_wp2_with fail
  go_end0
  exact ⟨_, ys, rfl, HE.out⟩
end Go.Proofs.Ytbhpinmdpngbkaa
