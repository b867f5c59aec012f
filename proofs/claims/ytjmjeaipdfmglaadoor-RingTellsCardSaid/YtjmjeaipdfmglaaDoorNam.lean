/-
  The walks of the law's name, and of the chapter's examples.
-/
import Derived.Test.YtjmjeaipdfmglaaDoorRpt
namespace Go.Proofs.YtjmjeaipdfmglaaDoor
open Go.Sort Go.RowKit Go.Proofs.YtjmjeaipdfmglaaDoor.Pure

/-- The text of a point. -/
def nameS (n i : Nat) : ByteArray := digS n ++ ⟨#[47]⟩ ++ digS i
theorem name_sum (n i : Nat) : sumK (nameS n i) = hashP n i := by
  unfold sumK hashP nameS
  rw [F.cat_flat, F.cat_flat, List.append_assoc]
  simp [digS, keyP]
theorem name_size (n i : Nat) : (nameS n i).size ≤ 5 := by
  have := dig_size n
  have := dig_size i
  unfold nameS
  rw [ByteArray.size_append, ByteArray.size_append]
  have e : (⟨#[47]⟩ : ByteArray).size = 1 := rfl
  omega
theorem conv_at (o : Nat) (ho : o < 256) (W : World) (g : Nat) (hg : W.heap.size = g) : (convert 71 9 (.slice (some ⟨g, 0, none⟩) 1 1)).run Tryd.prog (W.alloc (.cells #[.int .u8 (o : Int)] 5)) = .ok (.string ⟨#[UInt8.ofNat o]⟩) (W.alloc (.cells #[.int .u8 (o : Int)] 5)) := by
  subst hg
  exact conv_one o ho W
set_option maxRecDepth 100000 in
set_option maxHeartbeats 2000000 in
theorem name_any (h : Int) (n i : Nat) (w : World) (hn : n < 100) (hi : i < 10) :
    Calls Tryd.prog 26 #[.agg #[.int .u64 h, .int .i64 (n : Int), .int .i64 (i : Int)]] w fun e w' => e = .returned (.string (nameS n i)) ∧ Below w.heap.size w w' := by
  obtain ⟨S, hS⟩ : ∃ S, nameS n i = S := ⟨_, rfl⟩
  have hdi : digS i = ⟨#[UInt8.ofNat (48 + i)]⟩ := by unfold digS digB; rw [if_pos hi]
  have t1 : Int.tmod (n : Int) 10 = ((n % 10 : Nat) : Int) := by rw [Int.tmod_eq_emod_of_nonneg (by omega)]; omega
  have t2 : IntKind.i64.wrap (((n % 10 : Nat) : Int) + 10) = ((n % 10 + 10 : Nat) : Int) := by rw [IntWalk.i64_in _ (by omega)]; omega
  have t3 : Int.tmod ((n % 10 + 10 : Nat) : Int) 10 = ((n % 10 : Nat) : Int) := by rw [Int.tmod_eq_emod_of_nonneg (by omega)]; omega
  have t4 : IntKind.i64.wrap (48 + ((n % 10 : Nat) : Int)) = ((48 + n % 10 : Nat) : Int) := by rw [IntWalk.i64_in _ (by omega)]; omega
  have t5 : IntKind.u8.wrap ((48 + n % 10 : Nat) : Int) = ((48 + n % 10 : Nat) : Int) := by simp [IntKind.wrap, IntKind.bits, IntKind.signed]; omega
  have t6 : IntKind.i64.wrap ((n % 10 : Nat) : Int) = ((n % 10 : Nat) : Int) := by rw [IntWalk.i64_in _ (by omega)]
  have i1 : Int.tmod (i : Int) 10 = (i : Int) := by rw [Int.tmod_eq_emod_of_nonneg (by omega)]; omega
  have i2 : IntKind.i64.wrap ((i : Int) + 10) = ((i + 10 : Nat) : Int) := by rw [IntWalk.i64_in _ (by omega)]; omega
  have i3 : Int.tmod ((i + 10 : Nat) : Int) 10 = (i : Int) := by rw [Int.tmod_eq_emod_of_nonneg (by omega)]; omega
  have i4 : IntKind.i64.wrap (48 + (i : Int)) = ((48 + i : Nat) : Int) := by rw [IntWalk.i64_in _ (by omega)]; omega
  have i5 : IntKind.u8.wrap ((48 + i : Nat) : Int) = ((48 + i : Nat) : Int) := by simp [IntKind.wrap, IntKind.bits, IntKind.signed]; omega
  have i6 : IntKind.i64.wrap (i : Int) = (i : Int) := by rw [IntWalk.i64_in _ (by omega)]
  have hca := conv_at (48 + n % 10) (by omega)
  have hcb := conv_at (48 + i) (by omega)
  by_cases h9 : n < 10
  · have e0 : decide ((9 : Int) < (n : Int)) = false := decide_eq_false (by omega)
    have e0' : decide (9 < n) = false := decide_eq_false (by omega)
    have HS : Hid (S = ⟨#[UInt8.ofNat (48 + n % 10)]⟩ ++ ⟨#[47]⟩ ++ ⟨#[UInt8.ofNat (48 + i)]⟩) := Lib.hid (by
      rw [← hS, nameS, hdi, show digS n = ⟨#[UInt8.ofNat (48 + n % 10)]⟩ by unfold digS digB; rw [if_pos h9, Nat.mod_eq_of_lt h9]])
    rw [hS]
    clear hS hdi h9 hn hi
    generalize 48 + n % 10 = a at *
    generalize n % 10 + 10 = b at *
    generalize n % 10 = c at *
    generalize 48 + i = a' at *
    generalize i + 10 = b' at *
    go_enter Tryd.func26, Tryd.ntmps26
    go_wp2_with fail
    go_ret
    exact ⟨by rw [HS.out]; show Ending.returned (.string ((⟨#[]⟩ : ByteArray) ++ _ ++ _ ++ _)) = _; rw [show (⟨#[]⟩ : ByteArray) = ByteArray.empty from rfl, ByteArray.empty_append], (((Below.refl _ w).alloc (Nat.le_refl _) _).alloc (by simp) _).alloc (by simp; omega) _⟩
  · have e0 : decide ((9 : Int) < (n : Int)) = true := decide_eq_true (by omega)
    have e0' : decide (9 < n) = true := decide_eq_true (by omega)
    have d1 : Int.tdiv (n : Int) 10 = ((n / 10 : Nat) : Int) := by rw [Int.tdiv_eq_ediv_of_nonneg (by omega)]; omega
    have d2 : IntKind.i64.wrap ((n / 10 : Nat) : Int) = ((n / 10 : Nat) : Int) := by rw [IntWalk.i64_in _ (by omega)]
    have d3 : Int.tmod ((n / 10 : Nat) : Int) 10 = ((n / 10 : Nat) : Int) := by rw [Int.tmod_eq_emod_of_nonneg (by omega)]; omega
    have d4 : IntKind.i64.wrap (48 + ((n / 10 : Nat) : Int)) = ((48 + n / 10 : Nat) : Int) := by rw [IntWalk.i64_in _ (by omega)]; omega
    have d5 : IntKind.u8.wrap ((48 + n / 10 : Nat) : Int) = ((48 + n / 10 : Nat) : Int) := by simp [IntKind.wrap, IntKind.bits, IntKind.signed]; omega
    have hcd := conv_at (48 + n / 10) (by omega)
    have HS : Hid (S = ⟨#[UInt8.ofNat (48 + n / 10)]⟩ ++ ⟨#[UInt8.ofNat (48 + n % 10)]⟩ ++ ⟨#[47]⟩ ++ ⟨#[UInt8.ofNat (48 + i)]⟩) := Lib.hid (by
      rw [← hS, nameS, hdi, show digS n = ⟨#[UInt8.ofNat (48 + n / 10)]⟩ ++ ⟨#[UInt8.ofNat (48 + n % 10)]⟩ by unfold digS digB; rw [if_neg h9]; rfl])
    rw [hS]
    clear hS hdi h9 hn hi
    generalize 48 + n % 10 = a at *
    generalize n % 10 + 10 = b at *
    generalize n % 10 = c at *
    generalize 48 + n / 10 = d at *
    generalize n / 10 = f at *
    generalize 48 + i = a' at *
    generalize i + 10 = b' at *
    go_enter Tryd.func26, Tryd.ntmps26
    go_wp2_with fail
    go_ret
    exact ⟨by rw [HS.out]; rfl, ((((Below.refl _ w).alloc (Nat.le_refl _) _).alloc (by simp) _).alloc (by simp; omega) _).alloc (by simp; omega) _⟩

/-! ### the examples -/
theorem two_sum {a b x y : Pt} (h : [a, b].Perm [x, y]) : a.h + b.h = x.h + y.h := by
  have hm : a ∈ [x, y] := h.mem_iff.1 (by simp)
  simp only [List.mem_cons, List.not_mem_nil, or_false] at hm
  rcases hm with rfl | rfl
  · have h2 := List.singleton_perm_singleton.1 (List.Perm.cons_inv h)
    rw [h2]
  · have h2 := List.singleton_perm_singleton.1 (List.Perm.cons_inv (h.trans (List.Perm.swap a x [])))
    rw [h2, Int.add_comm]
theorem awake_is : ∃ l : List Pt, ptsP [3] 2 = l ∧ l.length = 2 ∧ errP l = 0 ∧ (∀ s, ownP l s = 3) ∧ (pt l 0).h + (pt l 1).h = hashP 3 0 + hashP 3 1 ∧ ∀ j, j < 2 → 0 ≤ (pt l j).h ∧ (pt l j).h < 18446744073709551616 := by
  have hn : numsB [3] = true := by decide
  have hl : (ptsP [3] 2).length = 2 := by rw [pts_len]; rfl
  refine ⟨_, rfl, hl, ?_, fun s => (pts_one 3 (by decide) (by decide) s).2, ?_, fun j hj => pts_fit (pt_mem _ (by omega))⟩
  · unfold errP
    rw [pts_may hn (by decide), hl]
    rfl
  · have hp : (ptsP [3] 2).Perm (rawP [3] 2) := srt_perm _
    have e : rawP [3] 2 = [mkP 3 0, mkP 3 1] := rfl
    rw [e] at hp
    generalize ptsP [3] 2 = l at *
    match l, hl with
    | [a, b], _ => exact two_sum hp
set_option maxRecDepth 100000 in
set_option maxHeartbeats 2000000 in
theorem awake_any (w : World) : Calls Tryd.prog 21 #[] w fun e w' => e = .returned (.bool true) ∧ Below w.heap.size w w' := by
  obtain ⟨l, hl, hlen, herr, hown, hsum, hfit⟩ := awake_is
  have hnd : nodesB [3] = true := by decide
  have HP := Lib.hid (points_yes (some ⟨w.heap.size, 0, none⟩) 1 w.heap.size (w.heap.size + 1) [3] 2 (w.alloc (.cells #[.int .i64 3] 3)) (Has.one w 3 _) (by simp) hnd (by decide) (by decide))
  rw [hl] at HP
  have HO := Lib.hid (fun (A : Option Addr) (c : Nat) (W : World) (h : Ps W A l) => owner_any A c l ⟨#[97, 110, 121, 116, 104, 105, 110, 103]⟩ W (by omega) h (by decide) 3 0 herr (by rw [if_pos rfl]; exact hown _))
  have HN := Lib.hid (fun (W : World) => owner_any none 0 [] ⟨#[]⟩ W (by decide) (Ps.nil _ _) (by decide) 0 6 (by decide) rfl)
  have HS0 := Lib.hid (fun (g : Nat) (W : World) (h : W.cell? ⟨g, 0, none⟩ = some (.string ⟨#[51, 47, 48]⟩)) => rsum_point g 3 0 ⟨#[51, 47, 48]⟩ (by decide +kernel) W h)
  have HS1 := Lib.hid (fun (g : Nat) (W : World) (h : W.cell? ⟨g, 0, none⟩ = some (.string ⟨#[51, 47, 49]⟩)) => rsum_point g 3 1 ⟨#[51, 47, 49]⟩ (by decide +kernel) W h)
  obtain ⟨PS, hPS⟩ : ∃ PS : Nat → Int, PS 0 = 0 ∧ (∀ k, k < 2 → IntKind.u64.wrap (PS k + (pt l k).h) = PS (k + 1)) ∧ IntKind.u64.wrap (hashP 3 0 + hashP 3 1) = PS 2 := by
    refine ⟨fun k => if k = 0 then 0 else if k = 1 then (pt l 0).h else IntKind.u64.wrap ((pt l 0).h + (pt l 1).h), rfl, fun k hk => ?_, by rw [← hsum]; rfl⟩
    have h0 := hfit 0 (by decide)
    match k, hk with
    | 0, _ => simp [IntKind.wrap, IntKind.bits, IntKind.signed]; omega
    | 1, _ => rfl
  have HPS := Lib.hid hPS
  have HLEN := Lib.hid hlen
  clear hPS hsum hfit hl herr hown hnd hlen
  generalize hashP 3 0 = h0 at *
  generalize hashP 3 1 = h1 at *
  go_enter Tryd.func21, Tryd.ntmps21
  go_wp2_with fail
  refine HP.out.mono ?_
  rintro e w1 ⟨v, rfl, ho, hb1⟩
  have HB1 : Hid (Below w.heap.size w w1) := Lib.hid (((Below.refl _ w).alloc (Nat.le_refl _) _).trans (hb1.mono (by simp)))
  obtain ⟨A, c, rfl, hc, hps⟩ := ho.lst
  have HX := Lib.hid hps
  clear hb1 ho hps HP
  go_wp2_with fail
  refine (HO.out _ _ _ HX.out).mono ?_
  rintro e w2 ⟨rfl, hb2⟩
  have HB2 := Lib.hid (HB1.out.trans (hb2.mono HB1.out.size))
  have HX2 := Lib.hid (HX.out.on hb2)
  clear hb2 HB1 HX HO
  go_wp2_with fail
  refine (HN.out _).mono ?_
  rintro e w3 ⟨rfl, hb3⟩
  have HB3 := Lib.hid (HB2.out.trans (hb3.mono HB2.out.size))
  have HX3 := Lib.hid (HX2.out.on hb3)
  clear hb3 HB2 HX2 HN
  go_wp2_with fail
  go_loopw [7, 8] (fun x i wr => ∃ k : Nat, i = .int .i64 k ∧ k ≤ 2 ∧ x = .int .u64 (PS k) ∧ w3 = wr) (fun _ i _ => 2 - (intOf i).toNat)
  case atStart => exact ⟨0, rfl, by decide, by rw [HPS.out.1], rfl⟩
  case round =>
    obtain ⟨k, rfl, hk, rfl, rfl⟩ := hrel
    have hlen := HLEN.out
    by_cases hlt : k < 2
    · have e0 : decide ((k : Int) < (l.length : Int)) = true := decide_eq_true (by omega)
      have e0' : decide (k < l.length) = true := decide_eq_true (by omega)
      have k0 : (0 : Int) ≤ (k : Int) := by omega
      have k1 : (k : Int) < (l.length : Int) := by omega
      obtain ⟨ad, rfl, hlo, h1⟩ := HX3.out k (by omega)
      obtain ⟨a0, a1, a2⟩ := h1.flat
      have hw := HPS.out.2.1 k hlt
      generalize (pt l k).h = x at *
      clear h1 a1 a2 hlen
      go_wp2_with fail
      go_roundw
      case rel => exact ⟨k + 1, by go_num, by omega, by first | rfl | rw [hw], by first | rfl | trivial⟩
      case measure => simp [intOf]; omega
    · obtain rfl : k = 2 := by omega
      have e0 : decide ((2 : Int) < (l.length : Int)) = false := decide_eq_false (by omega)
      have e0' : decide (2 < l.length) = false := decide_eq_false (by omega)
      have e0'' : ¬ 2 < l.length := by omega
      have e1 : ((l.length : Int) == 2) = true := by simp; omega
      have e1' : (l.length == 2) = true := by simp; omega
      have HP2 := Lib.hid HPS.out.2.2
      generalize PS 2 = ps at *
      clear hlen hlt HPS
      have hp2 := HP2.out
      have hq : (ps == ps) = true := by simp
      go_wp2_with fail
      refine (HS0.out _ _ (by go_simp)).mono ?_
      rintro e w4 ⟨rfl, rfl⟩
      go_wp2_with fail
      refine (HS1.out _ _ (by go_simp)).mono ?_
      rintro e w4 ⟨rfl, rfl⟩
      go_wp2_with fail
      go_ret
      exact ⟨rfl, (HB3.out.alloc HB3.out.size _).alloc (by have := HB3.out.size; simp; omega) _⟩
end Go.Proofs.YtjmjeaipdfmglaaDoor
