/-
  The walks of the document's May, Place, Walk and Same, and of the law's cut.
-/
import Derived.Test.YthcjjogomknddaaDoorWlk
namespace Go.Proofs.YthcjjogomknddaaDoor
open Go.Sort Go.RowKit Go.Proofs.YthcjjogomknddaaDoor.Pure

/-! ### the cut -/
/-! ### the document's place, and walk -/
theorem rsum_key (g : Nat) (s : ByteArray) (w : World) (h : w.cell? ⟨g, 0, none⟩ = some (.string s)) (hs : s.size ≤ 300) :
    Calls Tryd.prog 38 #[.slice (some ⟨g, 0, none⟩) 1 1] w fun e w' => e = .returned (.int .u64 (sumK s)) ∧ w = w' := by
  have := F.rsum_any (some ⟨g, 0, none⟩) 1 g (g + 1) [s] w (by simp) (F.has_one w g s h) (by simpa using hs)
  rw [F.flat_one] at this
  exact this
set_option maxRecDepth 100000 in
set_option maxHeartbeats 2000000 in
theorem rplace_any (A : Option Addr) (c : Nat) (l : List Pt) (s : ByteArray) (w : World) (hn : l.length ≤ 100000) (hl : Ps w A l) (hr : RiseP l) (h0 : 0 < l.length) (hs : s.size ≤ 300) :
    Calls Tryd.prog 41 #[.slice A l.length c, .string s] w fun r w' => r = .returned (.int .i64 ((placeP l (sumK s) : Nat) : Int)) ∧ Below w.heap.size w w' := by
  have H := Lib.hid hl
  have HSM := Lib.hid (fun (g : Nat) (W : World) (h : W.cell? ⟨g, 0, none⟩ = some (.string s)) => rsum_key g s W h hs)
  have HP : Hid (posP l (sumK s) ≤ l.length ∧ (∀ j, j < posP l (sumK s) → (pt l j).h < sumK s) ∧ ∀ j, posP l (sumK s) ≤ j → j < l.length → sumK s ≤ (pt l j).h) := Lib.hid ⟨posP_le _ _, fun j => posP_lt _ _, fun j => posP_ge hr _⟩
  have HQ := Lib.hid (place_eq (sumK s) h0)
  generalize placeP l (sumK s) = q at *
  generalize posP l (sumK s) = p at *
  generalize sumK s = h at *
  clear hl hr
  go_enter Tryd.func41, Tryd.ntmps41
  go_wp2_with fail
  refine (HSM.out _ _ (by go_simp)).mono ?_
  rintro e w2 ⟨rfl, rfl⟩
  go_wp2_with fail
  go_loopw [6] (fun i wr => ∃ k : Nat, i = .int .i64 k ∧ k ≤ l.length ∧ Hid (k ≤ p) ∧ Hid (Below w.heap.size w wr)) (fun i _ => l.length - (intOf i).toNat)
  case atStart => exact ⟨0, rfl, Nat.zero_le _, Lib.hid (Nat.zero_le _), Lib.hid ((Below.refl _ _).alloc (Nat.le_refl _) _)⟩
  case round =>
    obtain ⟨k, rfl, hk, hkp, HB⟩ := hrel
    by_cases hlt : k < l.length
    · have k0 : (0 : Int) ≤ (k : Int) := by omega
      have k1 : (k : Int) < (l.length : Int) := by omega
      obtain ⟨ad, rfl, hlo, h1⟩ := (H.out.on HB.out) k hlt
      obtain ⟨a0, a1, a2⟩ := h1.flat
      have HF : Hid (h ≤ (pt l k).h → k = p) := Lib.hid (fun hh => by
        rcases Nat.lt_or_ge k p with h2 | h2
        · have := HP.out.2.1 k h2; omega
        · have := hkp.out; omega)
      have HT : Hid (¬ h ≤ (pt l k).h → k + 1 ≤ p) := Lib.hid (fun hh => by
        rcases Nat.lt_or_ge k p with h2 | h2
        · exact h2
        · exact absurd (HP.out.2.2 k h2 hlt) hh)
      generalize (pt l k).h = x at *
      clear h1 a1 a2 hkp
      by_cases hx : h ≤ x
      · have e1 : decide (h ≤ x) = true := decide_eq_true hx
        have HE : Hid (q = k) := Lib.hid (by rw [HQ.out, ← HF.out hx, if_pos hlt])
        clear hx HF HT HQ HP
        go_wp2_with fail
        go_ret
        exact ⟨by rw [HE.out]; rfl, HB.out⟩
      · have e1 : decide (h ≤ x) = false := decide_eq_false hx
        have HT' := Lib.hid (HT.out hx)
        clear hx HF HT HQ HP
        go_wp2_with fail
        go_roundw
        case rel => exact ⟨k + 1, by go_num, by omega, HT', HB⟩
        case measure => simp [intOf]; omega
    · obtain rfl : k = l.length := by omega
      have HE : Hid (q = 0) := Lib.hid (by rw [HQ.out, if_neg (by have := hkp.out; omega)])
      clear HQ HP hkp
      go_wp2_with fail
      go_ret
      exact ⟨by rw [HE.out]; rfl, HB.out⟩

set_option maxRecDepth 100000 in
set_option maxHeartbeats 4000000 in
theorem rwalk_any (A : Option Addr) (c : Nat) (l : List Pt) (s : ByteArray) (w : World) (hn : l.length ≤ 100000) (hl : Ps w A l) (hr : RiseP l) (h0 : 0 < l.length) (hs : s.size ≤ 300) :
    Calls Tryd.prog 28 #[.slice A l.length c, .string s] w fun r w' => ∃ v, r = .returned v ∧ Own w' w.heap.size v (walkP l (sumK s)) ∧ Below w.heap.size w w' := by
  have H := Lib.hid hl
  have HC := Lib.hid (fun (W : World) (h : Ps W A l) => rplace_any A c l s W hn h hr h0 hs)
  have hq := place_lt (sumK s) h0
  have HST : Hid (∀ k, k < l.length → nub ((rotN l (sumK s)).take (k + 1)) = if (pt l ((placeP l (sumK s) + k) % l.length)).n ∈ nub ((rotN l (sumK s)).take k) then nub ((rotN l (sumK s)).take k) else nub ((rotN l (sumK s)).take k) ++ [(pt l ((placeP l (sumK s) + k) % l.length)).n]) := Lib.hid (fun k hk => by
    have h1 := rotN_at l (sumK s) k hk
    have h3 := walk_step l (sumK s) k hk
    rwa [h1] at h3)
  have HNL : Hid (∀ k, (nub ((rotN l (sumK s)).take k)).length ≤ k) := Lib.hid (fun k => by
    have := nub_le ((rotN l (sumK s)).take k)
    rw [List.length_take] at this
    omega)
  have HE : Hid (nub ((rotN l (sumK s)).take l.length) = walkP l (sumK s)) := Lib.hid (by
    rw [List.take_of_length_le (by rw [rotN_len]; exact Nat.le_refl _)]; rfl)
  have HZ : Hid (nub ((rotN l (sumK s)).take 0) = []) := Lib.hid rfl
  generalize walkP l (sumK s) = WK at *
  generalize placeP l (sumK s) = q at *
  generalize rotN l (sumK s) = RN at *
  clear hl hr
  go_enter Tryd.func28, Tryd.ntmps28
  go_wp2_with fail
  refine (HC.out _ H.out).mono ?_
  rintro e w1 ⟨rfl, hb1⟩
  go_wp2_with fail
  go_loopw [5, 7] (fun v i wr => ∃ k : Nat, i = .int .i64 k ∧ k ≤ l.length ∧ Hid (Own wr w.heap.size v (nub (RN.take k))) ∧ Hid (Below w.heap.size w wr)) (fun _ i _ => l.length - (intOf i).toNat)
  case atStart => exact ⟨0, rfl, Nat.zero_le _, Lib.hid (by rw [HZ.out]; exact Own.nil _ _), Lib.hid hb1⟩
  case round =>
    clear hb1
    obtain ⟨k, rfl, hk, HO, HB⟩ := hrel
    by_cases hlt : k < l.length
    · have k1 : (k : Int) < (l.length : Int) := by omega
      have hmod : (q + k) % l.length < l.length := Nat.mod_lt _ (by omega)
      have hw1' : IntKind.i64.wrap ((q : Int) + (k : Int)) = (q : Int) + (k : Int) := IntWalk.i64_in _ (by omega)
      have hT : Int.tmod ((q : Int) + (k : Int)) (l.length : Int) = (((q + k) % l.length : Nat) : Int) := by rw [Int.tmod_eq_emod_of_nonneg (by omega), ← Int.natCast_add]; rfl
      have hwm : IntKind.i64.wrap (((q + k) % l.length : Nat) : Int) = (((q + k) % l.length : Nat) : Int) := IntWalk.i64_in _ (by omega)
      have ez : ¬ l.length = 0 := by omega
      obtain ⟨ad, rfl, hlo, h1⟩ := (H.out.on HB.out) _ hmod
      obtain ⟨a0, a1, a2⟩ := h1.flat
      have HN1 := Lib.hid (HST.out k hlt)
      have HNLk := Lib.hid (HNL.out k)
      generalize (pt l ((q + k) % l.length)).n = y at *
      generalize (q + k) % l.length = m at *
      have m0 : (0 : Int) ≤ (m : Int) := by omega
      have m1 : (m : Int) < (l.length : Int) := by omega
      generalize nub (RN.take k) = X at *
      clear h1 a0 a2 HST
      obtain ⟨AX, cX, rfl, hcX, hX⟩ := HO.out.has
      have HM := Lib.hid (many_any AX cX w.heap.size wr.heap.size X y wr (by have := HNLk.out; omega) hX)
      have HMI : Hid (many X y = 0 ↔ y ∉ X) := Lib.hid (by unfold many; rw [List.countP_eq_zero]; simp; exact ⟨fun h hy => h y hy rfl, fun h z hz e => h (e ▸ hz)⟩)
      generalize many X y = t at *
      clear hX
      by_cases hin : y ∈ X
      · have HN2 : Hid (nub (RN.take (k + 1)) = X) := Lib.hid (by rw [HN1.out, if_pos hin])
        have e1 : ((t : Int) == 0) = false := by have := HMI.out; simp; intro h; exact absurd hin (this.1 (by omega))
        have e1' : (t == 0) = false := by have := HMI.out; simp; intro h; exact absurd hin (this.1 (by omega))
        clear hin HN1 HMI
        go_wp2_with fail
        refine HM.out.mono ?_
        rintro e w3 ⟨rfl, rfl⟩
        go_wp2_with fail
        go_roundw
        case rel => exact ⟨k + 1, by go_num, by omega, by rw [HN2.out]; exact HO, HB⟩
        case measure => simp [intOf]; omega
      · have HN2 : Hid (nub (RN.take (k + 1)) = X ++ [y]) := Lib.hid (by rw [HN1.out, if_neg hin])
        have e0 : t = 0 := HMI.out.2 hin
        subst e0
        clear hin HN1 HMI
        go_wp2_with fail
        refine HM.out.mono ?_
        rintro e w3 ⟨rfl, rfl⟩
        go_wp2_with (at_builtin; refine wpList_append_has rfl _ _ rfl w.heap.size (.slice AX X.length cX) X rfl (HO.out.alloc _) (some ⟨wr.heap.size, 0, none⟩) 1 wr.heap.size (wr.heap.size + 1) [y] rfl (Has.one wr y _) (by have := HNLk.out; simp; omega) (by have := HB.out.size; simp; omega) ?_; intro v' w5 ho5 hg5)
        go_roundw
        case rel => exact ⟨k + 1, by go_num, by omega, Lib.hid (by rw [HN2.out]; exact ho5), Lib.hid (below_grownO (HB.out.alloc HB.out.size _) (HO.out.alloc _) hg5 (by have := HB.out.size; simp; omega) (Nat.le_refl _))⟩
        case measure => simp [intOf]; omega
    · obtain rfl : k = l.length := by omega
      rw [HE.out] at HO
      clear HST HNL
      go_wp2_with fail
      go_ret
      exact ⟨_, rfl, HO.out, HB.out⟩

/-! ### the document's May -/
end Go.Proofs.YthcjjogomknddaaDoor
