/-
  RingTells: exactly as the document says: any nodes' points, which points may be, any key's place, owner and walk, or why not: the law returns true for every input.
-/
import Derived.Test.YtjmjeaipdfmglaaDoorKit
import Derived.Test.YtjmjeaipdfmglaaDoorCards
import Derived.Test.YtjmjeaipdfmglaaDoorTie
namespace Go.Proofs.YtjmjeaipdfmglaaDoor.lawTells
open Go.ChangeMaps (open_string)
open Go.Sort Go.ChangeShapes Go.WideShapes Go.ChangeAt Go.RowKit Go.Joins Go.Proofs.YtjmjeaipdfmglaaDoor.Pure

/-- The nodes that are looked at. -/
def cutN (xs : List Int) : List Int := if 6 < xs.length ∧ nodesB xs = true then xs.take 6 else xs
theorem cutP_below (A : Option Addr) (c : Nat) (l : List Pt) (w : World) (hc : l.length ≤ c) (hm : c ≤ maxLen) (h : Ps w A l) :
    Calls Tryd.prog 10 #[.slice A l.length c] w fun e w' => e = .returned (.slice A (cutP l).length c) ∧ Below w.heap.size w w' :=
  (cutP_any A c l w hc hm h).mono fun _ _ ⟨he, hw⟩ => ⟨he, hw ▸ Below.refl _ _⟩
/-- Four cells of block b. -/
def Qb (w : World) (b : Nat) (u : Value) (x : Int) (v : Value) (s : ByteArray) : Prop := w.cell? ⟨b, 0, none⟩ = some u ∧ w.cell? ⟨b, 1, none⟩ = some (.int .i64 x) ∧ w.cell? ⟨b, 2, none⟩ = some v ∧ w.cell? ⟨b, 3, none⟩ = some (.string s)
/-- What Points answers. -/
def Out (w : World) (xs : List Int) (s : Int) (p e : Value) : Prop :=
  ((nodesB xs = false ∨ s < 1 ∨ 32 < s) ∧ p = .slice none 0 0 ∧ e = .int .i64 1) ∨ ∃ (n : Nat) (A : Option Addr) (c : Nat), nodesB xs = true ∧ s = (n : Int) ∧ 1 ≤ n ∧ n ≤ 32 ∧ p = .slice A (ptsP xs n).length c ∧ e = .int .i64 0 ∧ Ps w A (ptsP xs n)
theorem points_out (A : Option Addr) (c lo hi : Nat) (xs : List Int) (s : Int) (w : World) (hn : xs.length ≤ 100000) (h : Has w lo hi A xs) (hh : hi ≤ w.heap.size) :
    Calls Tryd.prog 13 #[.slice A xs.length c, .int .i64 s] w fun r w' => ∃ p e, r = .returned (.tuple #[p, e]) ∧ Out w' xs s p e ∧ Below w.heap.size w w' := by
  by_cases hb : nodesB xs = false ∨ s < 1 ∨ 32 < s
  · refine (points_no A c lo hi xs s w hn h hh hb).mono ?_
    rintro e w' ⟨rfl, h2⟩
    exact ⟨_, _, rfl, .inl ⟨hb, rfl, rfl⟩, h2⟩
  · have h1 : nodesB xs = true := by
      rcases hx : nodesB xs with _ | _
      · exact absurd (.inl hx) hb
      · rfl
    have h2 : 1 ≤ s := by
      rcases Int.lt_or_le s 1 with h | h
      · exact absurd (.inr (.inl h)) hb
      · exact h
    have h3 : s ≤ 32 := by
      rcases Int.lt_or_le 32 s with h | h
      · exact absurd (.inr (.inr h)) hb
      · exact h
    obtain ⟨n, rfl⟩ := Int.eq_ofNat_of_zero_le (show 0 ≤ s by omega)
    refine (points_yes A c lo hi xs n w h hh h1 (by omega) (by omega)).mono ?_
    rintro e w' ⟨v, rfl, ho, h4⟩
    obtain ⟨A', c', rfl, _, hp⟩ := ho.lst
    exact ⟨_, _, rfl, .inr ⟨n, A', c', h1, rfl, by omega, by omega, rfl, rfl, hp⟩, h4⟩
theorem Out.on {w w' : World} {xs : List Int} {s : Int} {p e : Value} (h : Out w xs s p e) (hb : Below w.heap.size w w') : Out w' xs s p e := by
  rcases h with h | ⟨n, A, c, h1, h2, h3, h4, h5, h6, h7⟩
  · exact .inl h
  · exact .inr ⟨n, A, c, h1, h2, h3, h4, h5, h6, h7.on hb⟩

set_option maxRecDepth 100000 in
set_option maxHeartbeats 4000000 in
theorem walk (A : Option Addr) (c : Nat) (xs0 : List Int) (sp : Int) (B : Option Addr) (c2 : Nat) (l0 : List Pt) (key : ByteArray) (w : World) (hc : xs0.length ≤ c) (hm : c ≤ maxLen) (hx : Has w 0 w.heap.size A xs0) (hc2 : l0.length ≤ c2) (hm2 : c2 ≤ maxLen) (hl : Ps w B l0) (hk : key.size ≤ maxLen) :
    Calls Tryd.prog 3 #[.agg #[.slice A xs0.length c, .int .i64 sp, .slice B l0.length c2, .string key]] w fun e w' => e = .returned (.bool true) ∧ Below w.heap.size w w' := by
  obtain ⟨xs, hxs⟩ : ∃ xs, cutF xs0 = xs := ⟨_, rfl⟩
  obtain ⟨k, hkk⟩ : ∃ k, F.fewB key = k := ⟨_, rfl⟩
  obtain ⟨l, hll⟩ : ∃ l, cutP l0 = l := ⟨_, rfl⟩
  have hlen : xs.length ≤ 65 := hxs ▸ cutF_len xs0
  have hks : k.size ≤ 300 := hkk ▸ F.few_size key
  have hln : l.length ≤ 2049 := hll ▸ cutP_len l0
  have HX : Hid (∀ W, Below w.heap.size w W → Has W 0 w.heap.size A xs) := Lib.hid (fun W hb => by rw [← hxs]; exact (hx.take 65).on hb (Nat.le_refl _))
  have HPL : Hid (∀ W, Below w.heap.size w W → Ps W B l) := Lib.hid (fun W hb => by rw [← hll]; exact (cutP_ps hl).on hb)
  have HB1 : Hid (Below w.heap.size w (w.alloc (.cells #[.slice A xs0.length c, .int .i64 sp, .slice B l0.length c2, .string key] 25))) := Lib.hid ((Below.refl _ w).alloc (Nat.le_refl _) _)
  have HG : Hid (Qb (w.alloc (.cells #[.slice A xs0.length c, .int .i64 sp, .slice B l0.length c2, .string key] 25)) w.heap.size (.slice A xs0.length c) sp (.slice B l0.length c2) key) := Lib.hid ⟨by go_simp, by go_simp, by go_simp, by go_simp⟩
  have HC1 : Hid (∀ W, Below w.heap.size w W → Calls Tryd.prog 9 #[.slice A xs0.length c] W fun e w' => e = .returned (.slice A xs.length c) ∧ Below W.heap.size W w') := Lib.hid (fun W hb => by rw [← hxs]; exact fewl_below A c 0 w.heap.size xs0 W hc hm (hx.on hb (Nat.le_refl _)))
  have HC3 : Hid (∀ W, Below w.heap.size w W → Calls Tryd.prog 10 #[.slice B l0.length c2] W fun e w' => e = .returned (.slice B l.length c2) ∧ Below W.heap.size W w') := Lib.hid (fun W hb => by rw [← hll]; exact cutP_below B c2 l0 W hc2 hm2 (hl.on hb))
  have HC2 : Hid (∀ W, Calls Tryd.prog 11 #[.string key] W fun e w' => e = .returned (.string k) ∧ Below W.heap.size W w') := Lib.hid (fun W => by rw [← hkk]; exact few_below key W hk)
  have hlc : xs.length ≤ c := by have h := cutF_le xs0; rw [hxs] at h; omega
  have hxA : 0 < xs.length → ∃ ad, A = some ad := fun h0 => by obtain ⟨ad, e, _⟩ := HX.out w (Below.refl _ _) 0 h0; exact ⟨ad, e⟩
  clear hx hxs hkk hk hl hll
  go_enter Tryd.func3, Tryd.ntmps3
  go_upto_region 1 with (fail)
  generalize w.alloc (.cells #[.slice A xs0.length c, .int .i64 sp, .slice B l0.length c2, .string key] 25) = w1 at *
  obtain ⟨g0, g1, g2, g3⟩ := HG.out
  have G0 : ∀ p : Regrown, (grow (redrawn w1 p.d) p.os).cell? ⟨w.heap.size, 0, none⟩ = some (.slice A xs0.length c) := fun p => cell_regrown g0 p.d p.os
  have G1 : ∀ p : Regrown, (grow (redrawn w1 p.d) p.os).cell? ⟨w.heap.size, 1, none⟩ = some (.int .i64 sp) := fun p => cell_regrown g1 p.d p.os
  have G2 : ∀ p : Regrown, (grow (redrawn w1 p.d) p.os).cell? ⟨w.heap.size, 2, none⟩ = some (.slice B l0.length c2) := fun p => cell_regrown g2 p.d p.os
  have G3 : ∀ p : Regrown, (grow (redrawn w1 p.d) p.os).cell? ⟨w.heap.size, 3, none⟩ = some (.string key) := fun p => cell_regrown g3 p.d p.os
  have hz1 := HB1.out.size
  have HP1 := Lib.hid (fun p : Regrown => HC1.out (grow (redrawn w1 p.d) p.os) (HB1.out.trans ((below_regrown w1 p.d p.os).mono hz1)))
  have HP3 := Lib.hid (fun p : Regrown => HC3.out (grow (redrawn w1 p.d) p.os) (HB1.out.trans ((below_regrown w1 p.d p.os).mono hz1)))
  have HP2 := Lib.hid (fun p : Regrown => HC2.out (grow (redrawn w1 p.d) p.os))
  clear g0 g1 g2 g3 HG HC1 HC2 HC3
  refine q_enter (by kernel_rfl) (by kernel_rfl) ?_
  iterate 15 (refine q_step ?_; intro K hK; go_simp; first | (refine hK _ ?_; clear hK K) | (refine ⟨_, fun p => Calls.regrown_of (by with_reducible exact HP1.out p), hK _ ?_⟩; clear hK K) | (refine ⟨_, fun p => Calls.regrown_of (by with_reducible exact HP3.out p), hK _ ?_⟩; clear hK K) | (refine ⟨_, fun p => Calls.regrown_of (by with_reducible exact HP2.out p), hK _ ?_⟩; clear hK K))
  refine q_nil ?_
  intro w2 hb2
  have HB2 := Lib.hid (HB1.out.trans (hb2.mono hz1))
  clear hb2 HB1 HP1 HP2 HP3 G0 G1 G2 G3 hz1
  obtain ⟨L, hL⟩ : ∃ L, nodesB xs = L := ⟨_, rfl⟩
  have HND := Lib.hid (fun (W : World) (h : Has W 0 w.heap.size A xs) => rnodes_t A c 0 w.heap.size xs W (by omega) h L hL)
  obtain ⟨ys, hys⟩ : ∃ ys, ys = cutN xs := ⟨_, rfl⟩
  have HYS := Lib.hid hys
  have HY : Hid (∀ W, Below w.heap.size w W → Has W 0 w.heap.size A ys) := Lib.hid (fun W hb => by rw [hys]; unfold cutN; split; exact (HX.out W hb).take 6; exact HX.out W hb)
  have hyl : ys.length ≤ 65 := by rw [hys]; unfold cutN; split; simp; omega; exact hlen
  clear hys
  go_upto_region 2 with (fail)
  go_cut [33] from 27 to 33 (fun b wx => b = .bool (decide (6 < xs.length) && L) ∧ Hid (Below w2.heap.size w2 wx))
  case first =>
    by_cases h6 : 6 < xs.length
    · have e1 : decide ((6 : Int) < (xs.length : Int)) = true := decide_eq_true (by omega)
      have e1' : decide (6 < xs.length) = true := decide_eq_true h6
      clear h6
      go_wp2_with fail
      refine (HND.out _ (HX.out _ HB2.out)).mono ?_
      rintro e w3 ⟨rfl, hb3⟩
      go_wp2_with fail
      go_meet
      exact ⟨by simp [e1'], Lib.hid hb3⟩
    · have e1 : decide ((6 : Int) < (xs.length : Int)) = false := decide_eq_false (by omega)
      have e1' : decide (6 < xs.length) = false := decide_eq_false h6
      clear h6
      go_wp2_with fail
      go_meet
      exact ⟨by simp [e1'], Lib.hid (Below.refl _ _)⟩
  case rest =>
  obtain ⟨rfl, hbq⟩ := hcut
  have HB3 := Lib.hid (HB2.out.trans (hbq.out.mono HB2.out.size))
  clear HB2 hbq HND
  obtain ⟨w3, ew3⟩ : ∃ w3, w3 = wc := ⟨_, rfl⟩
  subst ew3
  obtain ⟨T, hT⟩ : ∃ T, (decide (6 < xs.length) && L) = T := ⟨_, rfl⟩
  rw [hT]
  go_upto_if 33 with (fail)
  go_cut [3] from 34 to 35 (fun v wx => v = .slice A ys.length c ∧ w3 = wx)
  case first =>
    rcases T with _ | _
    · have hyx : ys = xs := by rw [HYS.out]; unfold cutN; rw [if_neg (by rintro ⟨h1, h2⟩; rw [hL] at h2; subst h2; rw [decide_eq_true h1] at hT; cases hT)]
      go_wp2_with fail
      go_meet
      exact ⟨by rw [hyx], rfl⟩
    · have h6 : 6 < xs.length ∧ L = true := by rw [Bool.and_eq_true, decide_eq_true_iff] at hT; exact hT
      have hyx : ys.length = 6 := by rw [HYS.out]; unfold cutN; rw [if_pos ⟨h6.1, by rw [hL]; exact h6.2⟩]; simp; omega
      obtain ⟨ad, rfl⟩ := hxA (by omega)
      have h7 := h6.1
      have c6 : (6 : Int) ≤ (c : Int) := by omega
      have HYX := Lib.hid hyx
      clear h6 hT hxA hyx
      go_wp2_with fail
      go_meet
      exact ⟨by rw [HYX.out], rfl⟩
  case rest =>
  obtain ⟨rfl, rfl⟩ := hcut
  clear hT HX hxA HYS hL
  obtain ⟨M, hM⟩ : ∃ M, nodesB ys = M := ⟨_, rfl⟩
  have HNY := Lib.hid (fun (W : World) (h : Has W 0 w.heap.size A ys) => rnodes_t A c 0 w.heap.size ys W (by omega) h M hM)
  go_upto_region 4 with (fail)
  go_cut [7, 8] from 36 to 41 (fun p e wx => Hid (Out wx ys sp p e) ∧ Hid (Below w.heap.size w wx))
  case first =>
    go_wp2_with fail
    refine (points_out A c 0 w.heap.size ys sp _ (by omega) (HY.out _ HB3.out) HB3.out.size).mono ?_
    rintro e wz ⟨p, e', rfl, ho, hb⟩
    go_wp2_with fail
    go_meet
    exact ⟨Lib.hid ho, Lib.hid (HB3.out.trans (hb.mono HB3.out.size))⟩
  case rest =>
  obtain ⟨HOU, HB4⟩ := hcut
  clear HB3
  obtain ⟨w4, ew4⟩ : ∃ w4, w4 = wc := ⟨_, rfl⟩
  subst ew4
  obtain ⟨bad, hbad⟩ : ∃ bad : Bool, (!M || (decide (sp < 1) || decide (32 < sp))) = bad := ⟨_, rfl⟩
  go_upto_region 5 with (fail)
  go_cut [52] from 42 to 52 (fun b wx => b = .bool bad ∧ Hid (Below w4.heap.size w4 wx))
  case first =>
    rcases M with _ | _
    · go_wp2_with fail
      refine (HNY.out _ (HY.out _ HB4.out)).mono ?_
      rintro e wz ⟨rfl, hb⟩
      go_wp2_with fail
      go_meet
      exact ⟨by rw [← hbad]; rfl, Lib.hid hb⟩
    · by_cases h1 : sp < 1
      · have e1 : decide (sp < 1) = true := decide_eq_true h1
        have hb1 : bad = true := by rw [← hbad, e1]; rfl
        clear h1
        go_wp2_with fail
        refine (HNY.out _ (HY.out _ HB4.out)).mono ?_
        rintro e wz ⟨rfl, hb⟩
        go_wp2_with fail
        go_meet
        exact ⟨by rw [hb1], Lib.hid hb⟩
      · have e1 : decide (sp < 1) = false := decide_eq_false h1
        have hb1 : bad = decide (32 < sp) := by rw [← hbad, e1]; rfl
        clear h1
        go_wp2_with fail
        refine (HNY.out _ (HY.out _ HB4.out)).mono ?_
        rintro e wz ⟨rfl, hb⟩
        go_wp2_with fail
        go_meet
        exact ⟨by rw [hb1], Lib.hid hb⟩
  case rest =>
  obtain ⟨rfl, hbq⟩ := hcut
  have HB5 := Lib.hid (HB4.out.trans (hbq.out.mono HB4.out.size))
  have HO5 := Lib.hid (HOU.out.on hbq.out)
  clear HB4 hbq HOU HNY
  obtain ⟨w5, ew5⟩ : ∃ w5, w5 = wc := ⟨_, rfl⟩
  subst ew5
  go_upto_if 52 with (fail)
  go_cut [] from 53 to 69 (fun wx => Hid (Below w.heap.size w wx))
  case first =>
    rcases HO5.out with ⟨h, rfl, rfl⟩ | ⟨n, A7, c7, h1, rfl, h3, h4, rfl, rfl, hp⟩
    · obtain rfl : bad = true := by
        rw [← hbad]; rw [hM] at h
        rcases h with h | h | h
        · rw [h]; rfl
        · rw [decide_eq_true h]; simp
        · rw [decide_eq_true h]; simp
      clear h hbad HO5
      go_wp2_with fail
      go_meet
      exact HB5
    · obtain rfl : bad = false := by rw [← hbad, ← hM, h1, decide_eq_false (by omega), decide_eq_false (by omega)]; rfl
      have HRP := Lib.hid (fun (W : World) (h : Has W 0 w.heap.size A ys) (hh : w.heap.size ≤ W.heap.size) => rpoints_any A c 0 w.heap.size ys n W h hh (nodesB_nums h1) h4)
      rw [foldI_pts (nodesB_nums h1)] at HRP
      have hpl : (ptsP ys n).length ≤ 100000 := by rw [pts_len]; have := Nat.mul_le_mul hyl h4; omega
      have HPP := Lib.hid hp
      clear hbad HO5 h1 hM hp
      generalize ptsP ys n = pl at *
      go_wp2_with fail
      refine (HRP.out _ (HY.out _ HB5.out) HB5.out.size).mono ?_
      rintro e w6 ⟨v6, rfl, ho6, hb6⟩
      obtain ⟨A6, c6, rfl, hc6, hp6⟩ := ho6.lst
      have HP6 := Lib.hid hp6
      have HPQ := Lib.hid (HPP.out.on hb6)
      have HB6 := Lib.hid (HB5.out.trans (hb6.mono HB5.out.size))
      clear ho6 hp6 hb6 HPP HRP HB5
      go_wp2_with fail
      refine (rsame_any A7 A6 c7 c6 pl pl _ hpl HPQ.out HP6.out true (by simp)).mono ?_
      rintro e w7 ⟨rfl, hb7⟩
      have HB7 := Lib.hid (HB6.out.trans (hb7.mono HB6.out.size))
      clear hb7
      go_wp2_with fail
      go_meet
      exact HB7
  case rest =>
  have HB8 := hcut
  clear HB5 HO5 hbad hM HY
  obtain ⟨w8, ew8⟩ : ∃ w8, w8 = wc := ⟨_, rfl⟩
  subst ew8
  obtain ⟨M2, hM2⟩ : ∃ M2, mayB l = M2 := ⟨_, rfl⟩
  have HCK := Lib.hid (fun (W : World) (h : Ps W B l) => check_any B c2 l W (by omega) h M2 hM2)
  have HMY := Lib.hid (fun (W : World) (h : Ps W B l) => rmay_any B c2 l W (by omega) h M2 hM2)
  have hkm : k.size ≤ maxLen := by unfold maxLen; omega
  rcases M2 with _ | _
  · skip
    have he : errP l = 1 := by unfold errP; rw [hM2]; rfl
    have HPC := Lib.hid (fun (W : World) (h : Ps W B l) => place_any B c2 l k W (by omega) h hkm 0 1 he rfl)
    have HOC := Lib.hid (fun (W : World) (h : Ps W B l) => owner_any B c2 l k W (by omega) h hkm 0 1 he rfl)
    have HWC := Lib.hid (fun (W : World) (h : Ps W B l) => walk_any B c2 l k W (by omega) h hkm 1 he)
    rw [if_neg (by decide)] at HWC
    have HCK2 : Hid (∀ (W : World), Ps W B l → Calls Tryd.prog 19 #[.slice B l.length c2] W fun e w' => e = .returned (.int .i64 1) ∧ Below W.heap.size W w') := HCK
    clear hM2 he
    clear HCK
    go_wp2_with fail
    refine (HPC.out _ (HPL.out _ HB8.out)).mono ?_
    rintro e w11 ⟨rfl, hb⟩
    have B_1 := Lib.hid (HB8.out.trans (hb.mono HB8.out.size))
    clear HB8
    clear hb
    clear HPC
    go_wp2_with fail
    refine (HOC.out _ (HPL.out _ B_1.out)).mono ?_
    rintro e w12 ⟨rfl, hb⟩
    have B_2 := Lib.hid (B_1.out.trans (hb.mono B_1.out.size))
    clear B_1
    clear hb
    clear HOC
    go_wp2_with fail
    refine (HWC.out _ (HPL.out _ B_2.out)).mono ?_
    rintro e w13 ⟨vw, rfl, how, hb⟩
    have B_3 := Lib.hid (B_2.out.trans (hb.mono B_2.out.size))
    clear B_2
    clear hb HWC
    obtain ⟨AW, cW, rfl, hcW, hhW⟩ := how.has
    clear hhW
    have HWO := Lib.hid how
    clear how
    clear HWO
    go_wp2_with fail
    refine (HCK2.out _ (HPL.out _ B_3.out)).mono ?_
    rintro e w14 ⟨rfl, hb⟩
    have B_4 := Lib.hid (B_3.out.trans (hb.mono B_3.out.size))
    clear B_3
    clear hb
    clear HCK2
    go_wp2_with fail
    refine (HMY.out _ (HPL.out _ B_4.out)).mono ?_
    rintro e w15 ⟨rfl, hb⟩
    have B_5 := Lib.hid (B_4.out.trans (hb.mono B_4.out.size))
    clear B_4
    clear hb
    go_wp2_with fail
    refine (HMY.out _ (HPL.out _ B_5.out)).mono ?_
    rintro e w16 ⟨rfl, hb⟩
    have B_6 := Lib.hid (B_5.out.trans (hb.mono B_5.out.size))
    clear B_5
    clear hb
    go_wp2_with fail
    refine (HMY.out _ (HPL.out _ B_6.out)).mono ?_
    rintro e w17 ⟨rfl, hb⟩
    have B_7 := Lib.hid (B_6.out.trans (hb.mono B_6.out.size))
    clear B_6
    clear hb
    go_wp2_with fail
    refine (awake_any _).mono ?_
    rintro e w77 ⟨rfl, hb⟩
    go_wp2_with fail
    go_ret
    exact ⟨rfl, B_7.out.trans (hb.mono B_7.out.size)⟩
  · by_cases hz : l.length = 0
    · skip
      have he : errP l = 6 := by unfold errP; rw [hM2, if_pos rfl, if_pos hz]
      have HPC := Lib.hid (fun (W : World) (h : Ps W B l) => place_any B c2 l k W (by omega) h hkm 0 6 he rfl)
      have HOC := Lib.hid (fun (W : World) (h : Ps W B l) => owner_any B c2 l k W (by omega) h hkm 0 6 he rfl)
      have HWC := Lib.hid (fun (W : World) (h : Ps W B l) => walk_any B c2 l k W (by omega) h hkm 6 he)
      rw [if_neg (by decide)] at HWC
      have HCK2 : Hid (∀ (W : World), Ps W B l → Calls Tryd.prog 19 #[.slice B l.length c2] W fun e w' => e = .returned (.int .i64 0) ∧ Below W.heap.size W w') := HCK
      have e1 : ((l.length : Int) == 0) = true := by simpa using hz
      have e1' : (l.length == 0) = true := by simpa using hz
      clear hM2 he hz
      clear HCK
      go_wp2_with fail
      refine (HPC.out _ (HPL.out _ HB8.out)).mono ?_
      rintro e w11 ⟨rfl, hb⟩
      have B_1 := Lib.hid (HB8.out.trans (hb.mono HB8.out.size))
      clear HB8
      clear hb
      clear HPC
      go_wp2_with fail
      refine (HOC.out _ (HPL.out _ B_1.out)).mono ?_
      rintro e w12 ⟨rfl, hb⟩
      have B_2 := Lib.hid (B_1.out.trans (hb.mono B_1.out.size))
      clear B_1
      clear hb
      clear HOC
      go_wp2_with fail
      refine (HWC.out _ (HPL.out _ B_2.out)).mono ?_
      rintro e w13 ⟨vw, rfl, how, hb⟩
      have B_3 := Lib.hid (B_2.out.trans (hb.mono B_2.out.size))
      clear B_2
      clear hb HWC
      obtain ⟨AW, cW, rfl, hcW, hhW⟩ := how.has
      clear hhW
      have HWO := Lib.hid how
      clear how
      clear HWO
      go_wp2_with fail
      refine (HCK2.out _ (HPL.out _ B_3.out)).mono ?_
      rintro e w14 ⟨rfl, hb⟩
      have B_4 := Lib.hid (B_3.out.trans (hb.mono B_3.out.size))
      clear B_3
      clear hb
      clear HCK2
      go_wp2_with fail
      refine (HMY.out _ (HPL.out _ B_4.out)).mono ?_
      rintro e w15 ⟨rfl, hb⟩
      have B_5 := Lib.hid (B_4.out.trans (hb.mono B_4.out.size))
      clear B_4
      clear hb
      go_wp2_with fail
      refine (HMY.out _ (HPL.out _ B_5.out)).mono ?_
      rintro e w16 ⟨rfl, hb⟩
      have B_6 := Lib.hid (B_5.out.trans (hb.mono B_5.out.size))
      clear B_5
      clear hb
      go_wp2_with fail
      refine (HMY.out _ (HPL.out _ B_6.out)).mono ?_
      rintro e w17 ⟨rfl, hb⟩
      have B_7 := Lib.hid (B_6.out.trans (hb.mono B_6.out.size))
      clear B_6
      clear hb
      go_wp2_with fail
      refine (awake_any _).mono ?_
      rintro e w77 ⟨rfl, hb⟩
      go_wp2_with fail
      go_ret
      exact ⟨rfl, B_7.out.trans (hb.mono B_7.out.size)⟩
    · skip
      have he : errP l = 0 := by unfold errP; rw [hM2, if_pos rfl, if_neg hz]
      have hmay := hM2
      have hpos : 0 < l.length := by omega
      have hq := place_lt (sumK k) hpos
      have HPC := Lib.hid (fun (W : World) (h : Ps W B l) => place_any B c2 l k W (by omega) h hkm ((placeP l (sumK k) : Nat) : Int) 0 he (if_pos rfl))
      have HOC := Lib.hid (fun (W : World) (h : Ps W B l) => owner_any B c2 l k W (by omega) h hkm (ownP l (sumK k)) 0 he (if_pos rfl))
      have HWC := Lib.hid (fun (W : World) (h : Ps W B l) => walk_any B c2 l k W (by omega) h hkm 0 he)
      rw [if_pos rfl] at HWC
      have HRP := Lib.hid (fun (W : World) (h : Ps W B l) => rplace_any B c2 l k W (by omega) h (may_rise hmay) hpos hks)
      have HRW := Lib.hid (fun (W : World) (h : Ps W B l) => rwalk_any B c2 l k W (by omega) h (may_rise hmay) hpos hks)
      have HWN : Hid ((walkP l (sumK k)).length ≤ 100000) := Lib.hid (by have := nub_le (rotN l (sumK k)); rw [rotN_len] at this; unfold walkP; omega)
      have HOW : Hid ((pt l (placeP l (sumK k))).n = ownP l (sumK k)) := Lib.hid rfl
      have e1 : ((l.length : Int) == 0) = false := by simpa using hz
      have e1' : (l.length == 0) = false := by simpa using hz
      clear hM2 he hmay hz
      generalize walkP l (sumK k) = WK at *
      generalize ownP l (sumK k) = ow at *
      generalize placeP l (sumK k) = p at *
      have HCK2 : Hid (∀ (W : World), Ps W B l → Calls Tryd.prog 19 #[.slice B l.length c2] W fun e w' => e = .returned (.int .i64 0) ∧ Below W.heap.size W w') := HCK
      clear HCK
      go_wp2_with fail
      refine (HPC.out _ (HPL.out _ HB8.out)).mono ?_
      rintro e w11 ⟨rfl, hb⟩
      have B_1 := Lib.hid (HB8.out.trans (hb.mono HB8.out.size))
      clear HB8
      clear hb
      clear HPC
      go_wp2_with fail
      refine (HOC.out _ (HPL.out _ B_1.out)).mono ?_
      rintro e w12 ⟨rfl, hb⟩
      have B_2 := Lib.hid (B_1.out.trans (hb.mono B_1.out.size))
      clear B_1
      clear hb
      clear HOC
      go_wp2_with fail
      refine (HWC.out _ (HPL.out _ B_2.out)).mono ?_
      rintro e w13 ⟨vw, rfl, how, hb⟩
      have B_3 := Lib.hid (B_2.out.trans (hb.mono B_2.out.size))
      clear B_2
      clear hb HWC
      obtain ⟨AW, cW, rfl, hcW, hhW⟩ := how.has
      clear hhW
      have HWO := Lib.hid how
      clear how
      go_wp2_with fail
      refine (HCK2.out _ (HPL.out _ B_3.out)).mono ?_
      rintro e w14 ⟨rfl, hb⟩
      have B_4 := Lib.hid (B_3.out.trans (hb.mono B_3.out.size))
      have W_4 := Lib.hid (HWO.out.on hb)
      clear B_3 HWO
      clear hb
      clear HCK2
      go_wp2_with fail
      refine (HMY.out _ (HPL.out _ B_4.out)).mono ?_
      rintro e w15 ⟨rfl, hb⟩
      have B_5 := Lib.hid (B_4.out.trans (hb.mono B_4.out.size))
      have W_5 := Lib.hid (W_4.out.on hb)
      clear B_4 W_4
      clear hb
      go_wp2_with fail
      refine (HMY.out _ (HPL.out _ B_5.out)).mono ?_
      rintro e w16 ⟨rfl, hb⟩
      have B_6 := Lib.hid (B_5.out.trans (hb.mono B_5.out.size))
      have W_6 := Lib.hid (W_5.out.on hb)
      clear B_5 W_5
      clear hb
      have z1 : ((p : Int) == (p : Int)) = true := by simp
      have z2 : (ow == ow) = true := by simp
      have q0 : (0 : Int) ≤ (p : Int) := by omega
      have q1 : (p : Int) < (l.length : Int) := by omega
      go_wp2_with fail
      refine (HRP.out _ (HPL.out _ B_6.out)).mono ?_
      rintro e w17 ⟨rfl, hb⟩
      have B_7 := Lib.hid (B_6.out.trans (hb.mono B_6.out.size))
      have W_7 := Lib.hid (W_6.out.on hb)
      clear B_6 W_6
      clear hb HRP
      obtain ⟨ad, rfl, _, hat⟩ := (HPL.out _ B_7.out) p hq
      obtain ⟨a0, a1, a2⟩ := hat.flat
      rw [HOW.out] at a1
      clear a0 a2 hat
      go_wp2_with fail
      refine (HRW.out _ (HPL.out _ B_7.out)).mono ?_
      rintro e w18 ⟨vr, rfl, hor, hb⟩
      have B_8 := Lib.hid (B_7.out.trans (hb.mono B_7.out.size))
      have W_8 := Lib.hid (W_7.out.on hb)
      clear B_7 W_7
      clear hb HRW
      obtain ⟨AR, cR, rfl, hcR, hhR⟩ := hor.has
      have HRH := Lib.hid hhR
      clear hor hhR
      go_wp2_with fail
      refine (same_any AW AR cW cR _ _ _ _ WK WK _ HWN.out W_8.out.hasAt.2.2 HRH.out true (by simp)).mono ?_
      rintro e w19 ⟨rfl, hb⟩
      clear W_8
      have B_9 := Lib.hid (B_8.out.trans (hb.mono B_8.out.size))
      clear B_8
      clear hb HRH
      go_wp2_with fail
      refine (awake_any _).mono ?_
      rintro e w77 ⟨rfl, hb⟩
      go_wp2_with fail
      go_ret
      exact ⟨rfl, B_9.out.trans (hb.mono B_9.out.size)⟩

theorem parOk : ∀ t ∈ (#[25] : Array TypeId).toList, Tryd.prog.readableRec t = true ∧ t < Tryd.prog.types.size := by
  have hall : ([25].all fun t => Tryd.prog.readableRec t && decide (t < Tryd.prog.types.size)) = true := by kernel_rfl
  intro t ht
  simpa using List.all_eq_true.1 hall t ht

set_option maxRecDepth 100000 in
/-- What the walk gives, for every argument and every world that holds the table. -/
theorem contract (H : Type) (enc : TypeId × Value → H) (W : World) (base : Nat) (args : Array Value) (ds gs : List (DataW H)) (before : List MemPlace)
    (hval : ∀ (j : Nat) t v, Tryd.f3.params[j]? = some t → args[j]? = some v → Value.okWide Tryd.prog W .any base t v)
    (hW : DataW.Whole enc Tryd.prog Tryd.f3.params.toList Rows.ringTellsSpec.vars false W args.toList ds gs before) (_ : laidMetH Tryd.prog Rows.ringTellsRow.laid W) :
    Calls Tryd.prog 3 args W fun e W' => ∃ v, e = .returned v ∧ Rows.ringTellsSpec.post enc Tryd.prog Tryd.f3 false true false false W args v W' := by
  have hW' := hW
  obtain ⟨p, q, hA0, hV, rfl, hfz, hnd⟩ := hW
  have hA : DataW.TrodAll enc Tryd.prog W 0 (fun _ => true) true Tryd.f3.params.toList args.toList ds p := hA0
  rw [Tryd.params3] at hA hval
  obtain ⟨v0, vs0, d0, ds0, p0, q0, hargs, rfl, rfl, h0, r0⟩ := trodAll_cons hA
  obtain ⟨rfl, rfl, rfl⟩ := trodAll_nil r0
  obtain rfl : args = #[v0] := by cases args; simp_all
  obtain ⟨rfl, rfl⟩ := trodVars_none hV
  obtain ⟨A, c, xs, a, B, c2, l, s, rfl, hc, hm, hx, _, hc2, hm2, hl, _, hk⟩ := open_ask (hval 0 25 v0 rfl rfl) h0
  clear hA0
  refine (walk A c xs a B c2 l s W hc hm hx hc2 hm2 hl hk).mono fun e W' ⟨he, hb⟩ => ?_
  subst he
  exact ⟨_, rfl, law_post rfl (by rw [Tryd.params3]; exact parOk) rfl hW' rfl rfl rfl hb⟩

set_option maxRecDepth 100000 in
theorem laid_met (os : Os) : laidMet Tryd.prog Rows.ringTellsRow.laid ((laidWorld os).forCall (fun _ _ => 0) ⟨#[], #[.agg #[.slice none 0 0, .int .i64 0, .slice none 0 0, .string ⟨#[]⟩]], []⟩).memory :=
  laidMet_of_run' 8 (by kernel_rfl) (by kernel_rfl)
set_option maxRecDepth 100000 in
theorem reads (os : Os) {H : Type} (enc : TypeId × Value → H) : ∃ places, DataW.whole enc Tryd.prog ((laidWorld os).forCall (fun _ _ => 0) ⟨#[], #[.agg #[.slice none 0 0, .int .i64 0, .slice none 0 0, .string ⟨#[]⟩]], []⟩).memory Tryd.f3.params.toList Rows.ringTellsSpec.vars false (#[.agg #[.slice none 0 0, .int .i64 0, .slice none 0 0, .string ⟨#[]⟩]] : Array Value).toList 8 = some ([.agg [.nil, .lit (.int .i64 0), .nil, .lit (.string [])]], [], places) :=
  ⟨[], by kernel_rfl⟩

set_option maxRecDepth 100000 in
theorem lifted (os : Os) (started : os.Started) (H : Type) (enc : TypeId × Value → H) (F : Stop.Interp) :
    ReturnsInHanded {} Tryd.checked os 3 .any ((OpenSpec.ofChange Rows.ringTellsSpec).preRow enc Tryd.prog Tryd.f3 Rows.ringTellsRow.domain false Rows.ringTellsRow.laid) (((OpenSpec.ofChange Rows.ringTellsSpec).at F).post enc Tryd.prog Tryd.f3 false true false false) := by
  obtain ⟨places, hx⟩ := reads os enc
  refine returnsInHanded_of_row (C := Tryd.checked) (s := OpenSpec.ofChange Rows.ringTellsSpec) own started (by kernel_rfl) Tryd.func3
    (witness_row_at (enc := enc) (C := Tryd.checked) false (laidWorld os) #[.agg #[.slice none 0 0, .int .i64 0, .slice none 0 0, .string ⟨#[]⟩]] rfl (by kernel_rfl) (by kernel_rfl) (by kernel_rfl)
      (OpenSpec.preRow_of_cond 8 hx (by kernel_rfl) (fun k hk => by cases hk) (by kernel_rfl) (laid_met os))) ?_
  intro W base args ds gs before hval hW _ _ _ hL _ _
  exact contract H enc W base args ds gs before hval hW hL

theorem said : Rows.RingTellsSaid :=
  OpenClaim.holds_of_cond 3 Tryd.f3 rfl rfl rfl rfl rfl rfl rfl ⟨rfl, rfl, rfl, rfl, rfl⟩ rfl rfl rfl rfl rfl (by kernel_rfl) Tryd.func3 (by kernel_rfl)
    (of_decide_eq_true (by kernel_rfl)) (by unfold Func.isWrapper; first | (rw [if_pos (by decide +kernel)]; kernel_rfl) | (rw [if_neg (by decide +kernel)]; exact ⟨rfl, rfl⟩))
    (fun os started H enc _ F => by rw [OpenClaim.pre_eq_preRow]; exact lifted os started H enc F)

/-- No parameter wants a stand-in; the program's own looks are off. -/
theorem plain (f : FuncId) (fn : Func) (hf : Tryd.pinned.checked.prog.funcNamed "tattle/tattlelaw13.RingTells" = some f) (hfn : Tryd.pinned.checked.prog.funcs[f]? = some fn) :
    false = Tryd.pinned.checked.prog.looks [] ∧ ∀ (j : Nat) t, fn.params[j]? = some t → Tryd.pinned.checked.prog.wantsStandIn t = false := by
  obtain rfl : f = 3 := Option.some.inj ((show Tryd.prog.funcNamed "tattle/tattlelaw13.RingTells" = some 3 by kernel_rfl).symm.trans hf) |>.symm
  obtain rfl : fn = Tryd.f3 := (Option.some.inj (Tryd.func3.symm.trans hfn)).symm
  refine ⟨by kernel_rfl, fun j t ht => ?_⟩
  rw [Tryd.params3] at ht
  have hm : t ∈ [25] := by simpa using Array.mem_of_getElem? ht
  have hall : ([25].all fun u => !Tryd.prog.wantsStandIn u) = true := by kernel_rfl
  exact (show Tryd.prog.wantsStandIn t = false by simpa using List.all_eq_true.1 hall t hm)

/-- THE CARD. -/
theorem card : Rows.RingTellsCardSaid :=
  Claim7.holds_tied_plain_at .later [] _ _ _ _ said (fun _ h => by cases h) (by kernel_rfl) (fun _ h => by cases h) ringTells_row_tie rfl ⟨rfl, rfl⟩ (by kernel_rfl) rfl plain (by kernel_rfl)
end Go.Proofs.YtjmjeaipdfmglaaDoor.lawTells
