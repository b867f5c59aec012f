/-
  The walks of the document's May, Place, Walk and Same, and of the law's cut.
-/
import Derived.Test.YtjmjeaipdfmglaaDoorWlk
namespace Go.Proofs.YtjmjeaipdfmglaaDoor
open Go.Sort Go.RowKit Go.Proofs.YtjmjeaipdfmglaaDoor.Pure

theorem Pt.eq_iff {x y : Pt} : x = y ↔ x.h = y.h ∧ x.n = y.n ∧ x.i = y.i := by
  obtain ⟨a, b, c⟩ := x
  obtain ⟨a', b', c'⟩ := y
  simp
theorem ext_pt {a b : List Pt} (hl : a.length = b.length) (h : ∀ j, j < a.length → pt a j = pt b j) : a = b := List.ext_getElem hl fun j h1 h2 => by
  have := h j h1
  rwa [pt_lt a h1, pt_lt b h2] at this
theorem same_pt {a b : List Pt} (hl : a.length = b.length) : (∀ j, j < a.length → pt a j = pt b j) ↔ a = b := ⟨fun h => ext_pt hl h, fun h => h ▸ fun _ _ => rfl⟩
theorem neq_pt (x y : Pt) (w : World) : (binOp .neq 45 (.agg #[.int .u64 x.h, .int .i64 x.n, .int .i64 x.i]) (.agg #[.int .u64 y.h, .int .i64 y.n, .int .i64 y.i])).run Tryd.prog w = .ok (.bool (!decide (x = y))) w := by
  have he : decide (x = y) = (decide (x.h = y.h) && (decide (x.n = y.n) && decide (x.i = y.i))) := by
    rw [Bool.eq_iff_iff]
    simp [Pt.eq_iff]
  rw [he]
  go_simp
  by_cases h1 : x.h = y.h <;> by_cases h2 : x.n = y.n <;> by_cases h3 : x.i = y.i <;> simp [h1, h2, h3]

set_option maxRecDepth 10000000 in
set_option maxHeartbeats 2000000 in
theorem rsame_any (A A' : Option Addr) (c c' : Nat) (a b : List Pt) (w : World) (hn : a.length ≤ 100000) (h : Ps w A a) (h' : Ps w A' b) (S : Bool) (hS : decide (a = b) = S) :
    Calls Tryd.prog 14 #[.slice A a.length c, .slice A' b.length c'] w fun e w' => e = .returned (.bool S) ∧ Below w.heap.size w w' := by
  by_cases hl : a.length = b.length
  · have H := Lib.hid h
    have H' := Lib.hid h'
    have HS : Hid ((∀ j, j < a.length → pt a j = pt b j) ↔ S = true) := Lib.hid (by rw [same_pt hl, ← hS, decide_eq_true_iff])
    clear h h' hS
    have hlb : b.length = a.length := hl.symm
    rw [hlb]
    clear hl
    go_enter Tryd.func14, Tryd.ntmps14
    go_wp2_with fail
    go_loopw [5] (fun i wr => ∃ k : Nat, i = .int .i64 k ∧ k ≤ a.length ∧ Hid (∀ j, j < k → pt a j = pt b j) ∧ Hid (Below w.heap.size w wr)) (fun i _ => a.length - (intOf i).toNat)
    case atStart => exact ⟨0, rfl, Nat.zero_le _, Lib.hid (fun j hj => absurd hj (Nat.not_lt_zero j)), Lib.hid (Below.refl _ _)⟩
    case round =>
      obtain ⟨k, rfl, hk, hok, hb⟩ := hrel
      by_cases hlt : k < a.length
      · obtain ⟨ad, rfl, hlo, h1⟩ := (H.out.on hb.out) k hlt
        obtain ⟨ad', rfl, hlo', h2⟩ := (H'.out.on hb.out) k (by omega)
        obtain ⟨a0, a1, a2⟩ := h1.flat
        obtain ⟨b0, b1, b2⟩ := h2.flat
        have hbk : (k : Int) < (b.length : Int) := by omega
        have k0 : (0 : Int) ≤ (k : Int) := by omega
        have k1 : (k : Int) < (a.length : Int) := by omega
        have HF : Hid (pt a k ≠ pt b k → S = false) := Lib.hid (fun hne => by
          rcases S with _ | _
          · rfl
          · exact absurd (HS.out.2 rfl k hlt) hne)
        have HT : Hid (pt a k = pt b k → ∀ j, j < k + 1 → pt a j = pt b j) := Lib.hid (fun he j hj => by
          rcases Nat.lt_or_ge j k with hjk | hjk
          · exact hok.out j hjk
          · obtain rfl : j = k := by omega
            exact he)
        have hz := Lib.hid hb.out.size
        have hq := fun W => neq_pt (pt a k) (pt b k) W
        generalize hx : pt a k = x at *
        generalize hy : pt b k = y at *
        have A0 : ∀ p : Regrown, (grow (redrawn wr p.d) p.os).cell? (ad.add (k * 3)) = some (.int .u64 x.h) := fun p => cell_regrown a0 p.d p.os
        have A1 : ∀ p : Regrown, (grow (redrawn wr p.d) p.os).cell? ⟨(ad.add (k * 3)).block, (ad.add (k * 3)).off + 1, none⟩ = some (.int .i64 x.n) := fun p => cell_regrown a1 p.d p.os
        have A2 : ∀ p : Regrown, (grow (redrawn wr p.d) p.os).cell? ⟨(ad.add (k * 3)).block, (ad.add (k * 3)).off + 2, none⟩ = some (.int .i64 x.i) := fun p => cell_regrown a2 p.d p.os
        have B0 : ∀ p : Regrown, (grow (redrawn wr p.d) p.os).cell? (ad'.add (k * 3)) = some (.int .u64 y.h) := fun p => cell_regrown b0 p.d p.os
        have B1 : ∀ p : Regrown, (grow (redrawn wr p.d) p.os).cell? ⟨(ad'.add (k * 3)).block, (ad'.add (k * 3)).off + 1, none⟩ = some (.int .i64 y.n) := fun p => cell_regrown b1 p.d p.os
        have B2 : ∀ p : Regrown, (grow (redrawn wr p.d) p.os).cell? ⟨(ad'.add (k * 3)).block, (ad'.add (k * 3)).off + 2, none⟩ = some (.int .i64 y.i) := fun p => cell_regrown b2 p.d p.os
        clear a0 a1 a2 b0 b1 b2 h1 h2 hlb hx hy hok
        by_cases e1 : x = y
        · have e2 : decide (x = y) = true := by simpa using e1
          have HT' := Lib.hid (HT.out e1)
          rw [e2] at hq
          clear HT HF e1 e2
          go_upto_region 6 with (fail)
          refine q_enter (by kernel_rfl) (by kernel_rfl) ?_
          iterate 9 (refine q_step ?_; intro K hK; go_simp; refine hK _ ?_; clear hK K)
          refine q_nil ?_
          intro wz hbz
          have HZ : Hid (Below w.heap.size w wz) := Lib.hid (hb.out.trans (hbz.mono hz.out))
          clear hbz A0 A1 A2 B0 B1 B2 hb hz hq
          go_wp2_with fail
          go_roundw
          case rel => exact ⟨k + 1, by go_num, by omega, HT', HZ⟩
          case measure => simp [intOf]; omega
        · have e2 : decide (x = y) = false := by simpa using e1
          obtain rfl := HF.out e1
          rw [e2] at hq
          clear HT HF e1 e2
          go_upto_region 6 with (fail)
          refine q_enter (by kernel_rfl) (by kernel_rfl) ?_
          iterate 9 (refine q_step ?_; intro K hK; go_simp; refine hK _ ?_; clear hK K)
          refine q_nil ?_
          intro wz hbz
          have HZ : Hid (Below w.heap.size w wz) := Lib.hid (hb.out.trans (hbz.mono hz.out))
          clear hbz A0 A1 A2 B0 B1 B2 hb hz hq
          go_wp2_with fail
          go_ret
          exact ⟨rfl, HZ.out⟩
      · have hka : k = a.length := by omega
        have hSt : S = true := HS.out.1 fun i hi => hok.out i (by omega)
        subst hSt
        have e0 : decide ((k : Int) < (a.length : Int)) = false := by simp; omega
        clear hka
        go_wp2_with fail
        go_ret
        exact ⟨rfl, hb.out⟩
  · have hSf : S = false := by rw [← hS]; simp only [decide_eq_false_iff_not]; exact fun e => hl (by rw [e])
    subst hSf
    have e0 : ((a.length : Int) == (b.length : Int)) = false := by simp only [beq_eq_false_iff_ne]; omega
    clear hS h h'
    generalize a.length = n at *
    generalize b.length = n' at *
    clear hl
    go_enter Tryd.func14, Tryd.ntmps14
    go_wp2_with fail
    go_ret
    exact ⟨rfl, Below.refl _ _⟩


/-! ### the cut -/
def cutP (l : List Pt) : List Pt := if 60 < l.length ∧ l.length ≤ 2048 then l.take 60 else l.take 2049
theorem cutP_len (l : List Pt) : (cutP l).length ≤ 2049 := by
  unfold cutP
  split <;> simp <;> omega
theorem cutP_ps {w : World} {A : Option Addr} {l : List Pt} (h : Ps w A l) : Ps w A (cutP l) := by
  unfold cutP
  split
  · exact h.take _
  · exact h.take _
set_option maxRecDepth 100000 in
set_option maxHeartbeats 400000 in
theorem cutP_any (A : Option Addr) (c : Nat) (l : List Pt) (w : World) (hc : l.length ≤ c) (hm : c ≤ maxLen) (h : Ps w A l) :
    Calls Tryd.prog 10 #[.slice A l.length c] w fun e w' => e = .returned (.slice A (cutP l).length c) ∧ w = w' := by
  unfold maxLen at hm
  have hA : 0 < l.length → ∃ ad, A = some ad := fun h0 => by obtain ⟨ad, e, _⟩ := h 0 h0; exact ⟨ad, e⟩
  have HL : Hid ((cutP l).length = if 60 < l.length ∧ l.length ≤ 2048 then 60 else min 2049 l.length) := Lib.hid (by
    unfold cutP
    split
    · simp; omega
    · simp)
  generalize (cutP l).length = n at *
  clear h
  generalize l.length = m at *
  by_cases h1 : 60 < m
  · obtain ⟨ad, rfl⟩ := hA (by omega)
    clear hA
    by_cases h2 : m ≤ 2048
    · obtain rfl : n = 60 := by rw [HL.out, if_pos ⟨h1, h2⟩]
      have e1 : decide ((60 : Int) < (m : Int)) = true := decide_eq_true (by omega)
      have e1' : decide (60 < m) = true := decide_eq_true (by omega)
      have e2 : decide ((m : Int) ≤ 2048) = true := decide_eq_true (by omega)
      have e2' : decide (m ≤ 2048) = true := decide_eq_true (by omega)
      clear HL
      go_enter Tryd.func10, Tryd.ntmps10
      go_wp2
      go_ret
      exact ⟨rfl, rfl⟩
    · rw [if_neg (by omega)] at HL
      have e1 : decide ((60 : Int) < (m : Int)) = true := decide_eq_true (by omega)
      have e1' : decide (60 < m) = true := decide_eq_true (by omega)
      have e2 : decide ((m : Int) ≤ 2048) = false := decide_eq_false (by omega)
      have e2' : decide (m ≤ 2048) = false := decide_eq_false (by omega)
      by_cases h3 : 2049 < m
      · obtain rfl : n = 2049 := by rw [HL.out]; omega
        have e3 : decide ((2049 : Int) < (m : Int)) = true := decide_eq_true (by omega)
        have e3' : decide (2049 < m) = true := decide_eq_true (by omega)
        clear HL
        go_enter Tryd.func10, Tryd.ntmps10
        go_wp2
        go_ret
        exact ⟨rfl, rfl⟩
      · obtain rfl : n = m := by rw [HL.out]; omega
        have e3 : decide ((2049 : Int) < (n : Int)) = false := decide_eq_false (by omega)
        have e3' : decide (2049 < n) = false := decide_eq_false (by omega)
        clear HL
        go_enter Tryd.func10, Tryd.ntmps10
        go_wp2
        go_ret
        exact ⟨rfl, rfl⟩
  · rw [if_neg (by omega)] at HL
    obtain rfl : n = m := by rw [HL.out]; omega
    have e1 : decide ((60 : Int) < (n : Int)) = false := decide_eq_false (by omega)
    have e1' : decide (60 < n) = false := decide_eq_false (by omega)
    have e3 : decide ((2049 : Int) < (n : Int)) = false := decide_eq_false (by omega)
    have e3' : decide (2049 < n) = false := decide_eq_false (by omega)
    clear HL
    go_enter Tryd.func10, Tryd.ntmps10
    go_wp2
    go_ret
    exact ⟨rfl, rfl⟩

/-! ### the document's place, and walk -/
theorem rsum_key (g : Nat) (s : ByteArray) (w : World) (h : w.cell? ⟨g, 0, none⟩ = some (.string s)) (hs : s.size ≤ 300) :
    Calls Tryd.prog 27 #[.slice (some ⟨g, 0, none⟩) 1 1] w fun e w' => e = .returned (.int .u64 (sumK s)) ∧ w = w' := by
  have := F.rsum_any (some ⟨g, 0, none⟩) 1 g (g + 1) [s] w (by simp) (F.has_one w g s h) (by simpa using hs)
  rw [F.flat_one] at this
  exact this
set_option maxRecDepth 100000 in
set_option maxHeartbeats 2000000 in
theorem rplace_any (A : Option Addr) (c : Nat) (l : List Pt) (s : ByteArray) (w : World) (hn : l.length ≤ 100000) (hl : Ps w A l) (hr : RiseP l) (h0 : 0 < l.length) (hs : s.size ≤ 300) :
    Calls Tryd.prog 22 #[.slice A l.length c, .string s] w fun r w' => r = .returned (.int .i64 ((placeP l (sumK s) : Nat) : Int)) ∧ Below w.heap.size w w' := by
  have H := Lib.hid hl
  have HSM := Lib.hid (fun (g : Nat) (W : World) (h : W.cell? ⟨g, 0, none⟩ = some (.string s)) => rsum_key g s W h hs)
  have HP : Hid (posP l (sumK s) ≤ l.length ∧ (∀ j, j < posP l (sumK s) → (pt l j).h < sumK s) ∧ ∀ j, posP l (sumK s) ≤ j → j < l.length → sumK s ≤ (pt l j).h) := Lib.hid ⟨posP_le _ _, fun j => posP_lt _ _, fun j => posP_ge hr _⟩
  have HQ := Lib.hid (place_eq (sumK s) h0)
  generalize placeP l (sumK s) = q at *
  generalize posP l (sumK s) = p at *
  generalize sumK s = h at *
  clear hl hr
  go_enter Tryd.func22, Tryd.ntmps22
  go_wp2_with fail
  refine (HSM.out _ _ (by go_simp)).mono ?_
  rintro e w2 ⟨rfl, rfl⟩
  go_wp2_with fail
  go_loopw [6] (fun i wr => ∃ k : Nat, i = .int .i64 k ∧ k ≤ l.length ∧ Hid (k ≤ p) ∧ Hid (Below w.heap.size w wr)) (fun i _ => l.length - (intOf i).toNat)
  case atStart => exact ⟨0, rfl, Nat.zero_le _, Lib.hid (Nat.zero_le _), Lib.hid ((Below.refl _ _).alloc (Nat.le_refl _) _)⟩
  case round =>
    obtain ⟨k, rfl, hk, hkp, HB⟩ := hrel
    by_cases hlt : k < l.length
    · have k0 : (0 : Int) ≤ (k : Int) := by omega
      have k1 : (k : Int) < (l.length : Int) := by omega
      obtain ⟨ad, rfl, hlo, h1⟩ := (H.out.on HB.out) k hlt
      obtain ⟨a0, a1, a2⟩ := h1.flat
      have HF : Hid (h ≤ (pt l k).h → k = p) := Lib.hid (fun hh => by
        rcases Nat.lt_or_ge k p with h2 | h2
        · have := HP.out.2.1 k h2; omega
        · have := hkp.out; omega)
      have HT : Hid (¬ h ≤ (pt l k).h → k + 1 ≤ p) := Lib.hid (fun hh => by
        rcases Nat.lt_or_ge k p with h2 | h2
        · exact h2
        · exact absurd (HP.out.2.2 k h2 hlt) hh)
      generalize (pt l k).h = x at *
      clear h1 a1 a2 hkp
      by_cases hx : h ≤ x
      · have e1 : decide (h ≤ x) = true := decide_eq_true hx
        have HE : Hid (q = k) := Lib.hid (by rw [HQ.out, ← HF.out hx, if_pos hlt])
        clear hx HF HT HQ HP
        go_wp2_with fail
        go_ret
        exact ⟨by rw [HE.out]; rfl, HB.out⟩
      · have e1 : decide (h ≤ x) = false := decide_eq_false hx
        have HT' := Lib.hid (HT.out hx)
        clear hx HF HT HQ HP
        go_wp2_with fail
        go_roundw
        case rel => exact ⟨k + 1, by go_num, by omega, HT', HB⟩
        case measure => simp [intOf]; omega
    · obtain rfl : k = l.length := by omega
      have HE : Hid (q = 0) := Lib.hid (by rw [HQ.out, if_neg (by have := hkp.out; omega)])
      clear HQ HP hkp
      go_wp2_with fail
      go_ret
      exact ⟨by rw [HE.out]; rfl, HB.out⟩

set_option maxRecDepth 100000 in
set_option maxHeartbeats 4000000 in
theorem rwalk_any (A : Option Addr) (c : Nat) (l : List Pt) (s : ByteArray) (w : World) (hn : l.length ≤ 100000) (hl : Ps w A l) (hr : RiseP l) (h0 : 0 < l.length) (hs : s.size ≤ 300) :
    Calls Tryd.prog 24 #[.slice A l.length c, .string s] w fun r w' => ∃ v, r = .returned v ∧ Own w' w.heap.size v (walkP l (sumK s)) ∧ Below w.heap.size w w' := by
  have H := Lib.hid hl
  have HC := Lib.hid (fun (W : World) (h : Ps W A l) => rplace_any A c l s W hn h hr h0 hs)
  have hq := place_lt (sumK s) h0
  have HST : Hid (∀ k, k < l.length → nub ((rotN l (sumK s)).take (k + 1)) = if (pt l ((placeP l (sumK s) + k) % l.length)).n ∈ nub ((rotN l (sumK s)).take k) then nub ((rotN l (sumK s)).take k) else nub ((rotN l (sumK s)).take k) ++ [(pt l ((placeP l (sumK s) + k) % l.length)).n]) := Lib.hid (fun k hk => by
    have h1 := rotN_at l (sumK s) k hk
    have h3 := walk_step l (sumK s) k hk
    rwa [h1] at h3)
  have HNL : Hid (∀ k, (nub ((rotN l (sumK s)).take k)).length ≤ k) := Lib.hid (fun k => by
    have := nub_le ((rotN l (sumK s)).take k)
    rw [List.length_take] at this
    omega)
  have HE : Hid (nub ((rotN l (sumK s)).take l.length) = walkP l (sumK s)) := Lib.hid (by
    rw [List.take_of_length_le (by rw [rotN_len]; exact Nat.le_refl _)]; rfl)
  have HZ : Hid (nub ((rotN l (sumK s)).take 0) = []) := Lib.hid rfl
  generalize walkP l (sumK s) = WK at *
  generalize placeP l (sumK s) = q at *
  generalize rotN l (sumK s) = RN at *
  clear hl hr
  go_enter Tryd.func24, Tryd.ntmps24
  go_wp2_with fail
  refine (HC.out _ H.out).mono ?_
  rintro e w1 ⟨rfl, hb1⟩
  go_wp2_with fail
  go_loopw [5, 7] (fun v i wr => ∃ k : Nat, i = .int .i64 k ∧ k ≤ l.length ∧ Hid (Own wr w.heap.size v (nub (RN.take k))) ∧ Hid (Below w.heap.size w wr)) (fun _ i _ => l.length - (intOf i).toNat)
  case atStart => exact ⟨0, rfl, Nat.zero_le _, Lib.hid (by rw [HZ.out]; exact Own.nil _ _), Lib.hid hb1⟩
  case round =>
    clear hb1
    obtain ⟨k, rfl, hk, HO, HB⟩ := hrel
    by_cases hlt : k < l.length
    · have k1 : (k : Int) < (l.length : Int) := by omega
      have hmod : (q + k) % l.length < l.length := Nat.mod_lt _ (by omega)
      have hw1' : IntKind.i64.wrap ((q : Int) + (k : Int)) = (q : Int) + (k : Int) := IntWalk.i64_in _ (by omega)
      have hT : Int.tmod ((q : Int) + (k : Int)) (l.length : Int) = (((q + k) % l.length : Nat) : Int) := by rw [Int.tmod_eq_emod_of_nonneg (by omega), ← Int.natCast_add]; rfl
      have hwm : IntKind.i64.wrap (((q + k) % l.length : Nat) : Int) = (((q + k) % l.length : Nat) : Int) := IntWalk.i64_in _ (by omega)
      have ez : ¬ l.length = 0 := by omega
      obtain ⟨ad, rfl, hlo, h1⟩ := (H.out.on HB.out) _ hmod
      obtain ⟨a0, a1, a2⟩ := h1.flat
      have HN1 := Lib.hid (HST.out k hlt)
      have HNLk := Lib.hid (HNL.out k)
      generalize (pt l ((q + k) % l.length)).n = y at *
      generalize (q + k) % l.length = m at *
      have m0 : (0 : Int) ≤ (m : Int) := by omega
      have m1 : (m : Int) < (l.length : Int) := by omega
      generalize nub (RN.take k) = X at *
      clear h1 a0 a2 HST
      obtain ⟨AX, cX, rfl, hcX, hX⟩ := HO.out.has
      have HM := Lib.hid (many_any AX cX w.heap.size wr.heap.size X y wr (by have := HNLk.out; omega) hX)
      have HMI : Hid (many X y = 0 ↔ y ∉ X) := Lib.hid (by unfold many; rw [List.countP_eq_zero]; simp; exact ⟨fun h hy => h y hy rfl, fun h z hz e => h (e ▸ hz)⟩)
      generalize many X y = t at *
      clear hX
      by_cases hin : y ∈ X
      · have HN2 : Hid (nub (RN.take (k + 1)) = X) := Lib.hid (by rw [HN1.out, if_pos hin])
        have e1 : ((t : Int) == 0) = false := by have := HMI.out; simp; intro h; exact absurd hin (this.1 (by omega))
        have e1' : (t == 0) = false := by have := HMI.out; simp; intro h; exact absurd hin (this.1 (by omega))
        clear hin HN1 HMI
        go_wp2_with fail
        refine HM.out.mono ?_
        rintro e w3 ⟨rfl, rfl⟩
        go_wp2_with fail
        go_roundw
        case rel => exact ⟨k + 1, by go_num, by omega, by rw [HN2.out]; exact HO, HB⟩
        case measure => simp [intOf]; omega
      · have HN2 : Hid (nub (RN.take (k + 1)) = X ++ [y]) := Lib.hid (by rw [HN1.out, if_neg hin])
        have e0 : t = 0 := HMI.out.2 hin
        subst e0
        clear hin HN1 HMI
        go_wp2_with fail
        refine HM.out.mono ?_
        rintro e w3 ⟨rfl, rfl⟩
        go_wp2_with (at_builtin; refine wpList_append_has rfl _ _ rfl w.heap.size (.slice AX X.length cX) X rfl (HO.out.alloc _) (some ⟨wr.heap.size, 0, none⟩) 1 wr.heap.size (wr.heap.size + 1) [y] rfl (Has.one wr y _) (by have := HNLk.out; simp; omega) (by have := HB.out.size; simp; omega) ?_; intro v' w5 ho5 hg5)
        go_roundw
        case rel => exact ⟨k + 1, by go_num, by omega, Lib.hid (by rw [HN2.out]; exact ho5), Lib.hid (below_grownO (HB.out.alloc HB.out.size _) (HO.out.alloc _) hg5 (by have := HB.out.size; simp; omega) (Nat.le_refl _))⟩
        case measure => simp [intOf]; omega
    · obtain rfl : k = l.length := by omega
      rw [HE.out] at HO
      clear HST HNL
      go_wp2_with fail
      go_ret
      exact ⟨_, rfl, HO.out, HB.out⟩

/-! ### the document's May -/
set_option maxRecDepth 100000 in
set_option maxHeartbeats 4000000 in
theorem rmay_any (A : Option Addr) (c : Nat) (l : List Pt) (w : World) (hn : l.length ≤ 100000) (h : Ps w A l) (L : Bool) (hL : mayB l = L) :
    Calls Tryd.prog 20 #[.slice A l.length c] w fun e w' => e = .returned (.bool L) ∧ Below w.heap.size w w' := by
  have H := Lib.hid h
  have HL : Hid (L = true ↔ l.length ≤ 2048 ∧ ∀ j, j < l.length → OkP l j) := Lib.hid (by rw [← hL]; exact mayB_iff l)
  clear h hL
  go_enter Tryd.func20, Tryd.ntmps20
  go_wp2_with fail
  go_loopw [3] (fun i wr => ∃ k : Nat, i = .int .i64 k ∧ k ≤ l.length ∧ Hid (∀ j, j < k → OkP l j) ∧ Hid (Below w.heap.size w wr)) (fun i _ => l.length - (intOf i).toNat)
  case atStart => exact ⟨0, rfl, Nat.zero_le _, Lib.hid (fun j hj => absurd hj (Nat.not_lt_zero j)), Lib.hid (Below.refl _ _)⟩
  case round =>
    obtain ⟨k, rfl, hk, hok, hb⟩ := hrel
    by_cases hlt : k < l.length
    · obtain ⟨ad, rfl, hlo, h1⟩ := (H.out.on hb.out) k hlt
      obtain ⟨b0, b1, b2⟩ := h1.flat
      have k0 : (0 : Int) ≤ (k : Int) := by omega
      have k1 : (k : Int) < (l.length : Int) := by omega
      have e0 : decide ((k : Int) < (l.length : Int)) = true := by simpa using k1
      have hsz := hb.out.size
      have HB1 := hb
      have HW := Lib.hid (fun W => rless_any (pt l (k - 1)) (pt l k) W)
      have HF : Hid (¬ OkP l k → L = false) := Lib.hid (fun h => by
        rcases L with _ | _
        · rfl
        · exact absurd ((HL.out.1 rfl).2 k hlt) h)
      have HS : Hid (OkP l k → ∀ j, j < k + 1 → OkP l j) := Lib.hid (okp_next hok.out)
      have HD : Hid (OkP l k ↔ 0 ≤ (pt l k).n ∧ (pt l k).n < 64 ∧ (0 < k → ltP (pt l (k - 1)) (pt l k) = true)) := Lib.hid Iff.rfl
      have HP : Hid (0 < k → PAt wr (ad.add ((k - 1) * 3)) (pt l (k - 1))) := Lib.hid (fun hp => by
        obtain ⟨ad', e, _, h4⟩ := (H.out.on hb.out) (k - 1) (by omega)
        obtain rfl := Option.some.inj e
        exact h4)
      generalize OkP l k = OK at *
      generalize hx : pt l k = x at *
      generalize hy : pt l (k - 1) = y at *
      clear h1 hx hy hok hb
      go_upto_region 4 with (fail)
      have B0 : ∀ p : Regrown, (grow (redrawn wr p.d) p.os).cell? (ad.add (k * 3)) = some (.int .u64 x.h) := fun p => cell_regrown b0 p.d p.os
      have B1 : ∀ p : Regrown, (grow (redrawn wr p.d) p.os).cell? ⟨(ad.add (k * 3)).block, (ad.add (k * 3)).off + 1, none⟩ = some (.int .i64 x.n) := fun p => cell_regrown b1 p.d p.os
      have B2 : ∀ p : Regrown, (grow (redrawn wr p.d) p.os).cell? ⟨(ad.add (k * 3)).block, (ad.add (k * 3)).off + 2, none⟩ = some (.int .i64 x.i) := fun p => cell_regrown b2 p.d p.os
      clear b0 b1 b2
      by_cases t1 : x.n < 0
      · have d1 : decide (x.n < 0) = true := decide_eq_true t1
        obtain rfl := HF.out (fun h => by have := HD.out.1 h; omega)
        clear HF HS HD HP
        refine q_enter (by kernel_rfl) (by kernel_rfl) ?_
        iterate 31 (refine q_step ?_; intro K hK; go_simp; refine hK _ ?_; clear hK K)
        refine q_nil ?_
        intro wz hbz
        have HB3 : Hid (Below w.heap.size w wz) := Lib.hid (HB1.out.trans (hbz.mono HB1.out.size))
        clear hbz
        go_wp2_with fail
        go_ret
        exact ⟨rfl, HB3.out⟩
      have d1 : decide (x.n < 0) = false := decide_eq_false t1
      by_cases t2 : 63 < x.n
      · have d2 : decide (63 < x.n) = true := decide_eq_true t2
        obtain rfl := HF.out (fun h => by have := HD.out.1 h; omega)
        clear HF HS HD HP
        refine q_enter (by kernel_rfl) (by kernel_rfl) ?_
        iterate 31 (refine q_step ?_; intro K hK; go_simp; refine hK _ ?_; clear hK K)
        refine q_nil ?_
        intro wz hbz
        have HB3 : Hid (Below w.heap.size w wz) := Lib.hid (HB1.out.trans (hbz.mono HB1.out.size))
        clear hbz
        go_wp2_with fail
        go_ret
        exact ⟨rfl, HB3.out⟩
      have d2 : decide (63 < x.n) = false := decide_eq_false t2
      by_cases hk0 : k = 0
      · have eg : decide ((0 : Int) < (k : Int)) = false := by simp; omega
        have eg' : decide (0 < k) = false := by simp; omega
        have HS' := Lib.hid (HS.out (HD.out.2 ⟨by omega, by omega, fun h => absurd h (by omega)⟩))
        clear hk0 HS HF HD HP
        refine q_enter (by kernel_rfl) (by kernel_rfl) ?_
        iterate 31 (refine q_step ?_; intro K hK; go_simp; refine hK _ ?_; clear hK K)
        refine q_nil ?_
        intro wz hbz
        have HB3 : Hid (Below w.heap.size w wz) := Lib.hid (HB1.out.trans (hbz.mono HB1.out.size))
        clear hbz
        go_wp2_with fail
        go_roundw
        case rel => exact ⟨k + 1, by go_num, by omega, HS', HB3⟩
        case measure => simp [intOf]; omega
      · have eg : decide ((0 : Int) < (k : Int)) = true := by simp; omega
        have eg' : decide (0 < k) = true := by simp; omega
        obtain ⟨p0, p1, p2⟩ := (HP.out (by omega)).flat
        have hkm : IntKind.i64.wrap ((k : Int) - 1) = ((k - 1 : Nat) : Int) := by rw [IntWalk.i64_in _ (by omega)]; omega
        have g0 : (0 : Int) ≤ ((k - 1 : Nat) : Int) := by omega
        have g1 : ((k - 1 : Nat) : Int) < (l.length : Int) := by omega
        have g1' : k - 1 < l.length := by omega
        have HFx : Hid (ltP y x = false → L = false) := Lib.hid (fun h => HF.out (fun h2 => by have := (HD.out.1 h2).2.2 (by omega); rw [h] at this; cases this))
        have HSx : Hid (ltP y x = true → ∀ j, j < k + 1 → OkP l j) := Lib.hid (fun h => HS.out (HD.out.2 ⟨by omega, by omega, fun _ => h⟩))
        generalize k - 1 = km at *
        generalize ltP y x = T at *
        clear hk0 HS HF HP HD
        have P0 : ∀ p : Regrown, (grow (redrawn wr p.d) p.os).cell? (ad.add (km * 3)) = some (.int .u64 y.h) := fun p => cell_regrown p0 p.d p.os
        have P1 : ∀ p : Regrown, (grow (redrawn wr p.d) p.os).cell? ⟨(ad.add (km * 3)).block, (ad.add (km * 3)).off + 1, none⟩ = some (.int .i64 y.n) := fun p => cell_regrown p1 p.d p.os
        have P2 : ∀ p : Regrown, (grow (redrawn wr p.d) p.os).cell? ⟨(ad.add (km * 3)).block, (ad.add (km * 3)).off + 2, none⟩ = some (.int .i64 y.i) := fun p => cell_regrown p2 p.d p.os
        clear p0 p1 p2
        have HWp := Lib.hid (fun p : Regrown => HW.out (grow (redrawn wr p.d) p.os))
        clear HW
        rcases T with _ | _
        · obtain rfl := HFx.out rfl
          clear HFx HSx
          refine q_enter (by kernel_rfl) (by kernel_rfl) ?_
          iterate 31 (refine q_step ?_; intro K hK; go_simp; first | (refine hK _ ?_; clear hK K) | (refine ⟨_, fun p => Calls.regrown_of (by with_reducible exact HWp.out p), hK _ ?_⟩; clear hK K))
          refine q_nil ?_
          intro wz hbz
          have HB3 : Hid (Below w.heap.size w wz) := Lib.hid (HB1.out.trans (hbz.mono HB1.out.size))
          clear hbz
          go_wp2_with fail
          go_ret
          exact ⟨rfl, HB3.out⟩
        · have HS' := Lib.hid (HSx.out rfl)
          clear HFx HSx
          refine q_enter (by kernel_rfl) (by kernel_rfl) ?_
          iterate 31 (refine q_step ?_; intro K hK; go_simp; first | (refine hK _ ?_; clear hK K) | (refine ⟨_, fun p => Calls.regrown_of (by with_reducible exact HWp.out p), hK _ ?_⟩; clear hK K))
          refine q_nil ?_
          intro wz hbz
          have HB3 : Hid (Below w.heap.size w wz) := Lib.hid (HB1.out.trans (hbz.mono HB1.out.size))
          clear hbz
          go_wp2_with fail
          go_roundw
          case rel => exact ⟨k + 1, by go_num, by omega, HS', HB3⟩
          case measure => simp [intOf]; omega
    · obtain rfl : k = l.length := by omega
      obtain ⟨T, hT⟩ : ∃ T, decide ((l.length : Int) ≤ 2048) = T := ⟨_, rfl⟩
      have hT' : decide (l.length ≤ 2048) = T := by rw [← hT, Bool.eq_iff_iff]; simp; omega
      obtain rfl : L = T := by
        rw [← hT', Bool.eq_iff_iff, HL.out, decide_eq_true_iff]
        exact ⟨fun h => h.1, fun h => ⟨h, hok.out⟩⟩
      clear HL hok
      go_wp2_with fail
      go_ret
      exact ⟨rfl, hb.out⟩
end Go.Proofs.YtjmjeaipdfmglaaDoor
