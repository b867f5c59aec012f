/-
  RingSpots: points rise, each node has as many; a key whose sum is a point's is that point's; with more spots each point that was there is there: the law returns true for every input.
-/
import Derived.Test.YtjmjeaipdfmglaaDoorKit
import Derived.Test.YtjmjeaipdfmglaaDoorCards
import Derived.Test.YtjmjeaipdfmglaaDoorTie
namespace Go.Proofs.YtjmjeaipdfmglaaDoor.lawSpots
open Go.ChangeMaps (open_string)
open Go.Sort Go.ChangeShapes Go.WideShapes Go.ChangeAt Go.RowKit Go.Joins Go.Proofs.YtjmjeaipdfmglaaDoor.Pure

theorem filt_len_snoc (l : List Pt) (p : Pt → Bool) (i : Nat) (hi : i < l.length) : ((l.take (i + 1)).filter p).length = ((l.take i).filter p).length + if p (pt l i) then 1 else 0 := by
  rw [List.take_succ_eq_append_getElem hi, List.filter_append, List.length_append, ← pt_lt l hi]
  congr 1
  cases h : p (pt l i) <;> simp [h]
theorem filt_at (l : List Pt) (p : Pt → Bool) (i : Nat) (hi : i < l.length) (hp : p (pt l i) = true) : ((l.take i).filter p).length < (l.filter p).length ∧ pt (l.filter p) ((l.take i).filter p).length = pt l i := by
  have e : l.filter p = (l.take i).filter p ++ (l.drop i).filter p := by rw [← List.filter_append, List.take_append_drop]
  have e2 : (l.drop i).filter p = pt l i :: (l.drop (i + 1)).filter p := by
    rw [List.drop_eq_getElem_cons hi, ← pt_lt l hi, List.filter_cons, if_pos hp]
  rw [e, e2]
  constructor
  · rw [List.length_append, List.length_cons]; omega
  · simp [pt, List.getD]
/-- What the first loop counts. -/
theorem count_is {nodes : List Int} (h : numsB nodes = true) (s : Nat) : ∃ NX : Nat → Nat, NX 0 = 0 ∧ NX (ptsP nodes (s + 1)).length = (ptsP nodes s).length ∧ (∀ a, NX a ≤ (ptsP nodes s).length) ∧
    ∀ a, a < (ptsP nodes (s + 1)).length → ((pt (ptsP nodes (s + 1)) a).i = (s : Int) → NX (a + 1) = NX a) ∧ ((pt (ptsP nodes (s + 1)) a).i ≠ (s : Int) → NX (a + 1) = NX a + 1 ∧ NX a < (ptsP nodes s).length ∧ pt (ptsP nodes s) (NX a) = pt (ptsP nodes (s + 1)) a) := by
  have hs := pts_spots h s
  refine ⟨fun a => (((ptsP nodes (s + 1)).take a).filter (fun p => decide (p.i ≠ (s : Int)))).length, by simp, ?_, fun a => ?_, fun a ha => ⟨fun hi => ?_, fun hi => ?_⟩⟩
  · show (((ptsP nodes (s + 1)).take _).filter _).length = _
    rw [List.take_length, hs]
  · rw [← hs]
    exact ((List.take_sublist a _).filter _).length_le
  · show (((ptsP nodes (s + 1)).take (a + 1)).filter _).length = _
    rw [filt_len_snoc _ _ a ha, if_neg (by simp [hi])]
    rfl
  · have hp : decide ((pt (ptsP nodes (s + 1)) a).i ≠ (s : Int)) = true := decide_eq_true hi
    have h2 := filt_at (ptsP nodes (s + 1)) (fun p => decide (p.i ≠ (s : Int))) a ha hp
    rw [hs] at h2
    refine ⟨?_, h2⟩
    show (((ptsP nodes (s + 1)).take (a + 1)).filter _).length = _
    rw [filt_len_snoc _ _ a ha, if_pos hp]
/-- What is asked of each point. -/
theorem spot_is {nodes : List Int} (h : numsB nodes = true) {s : Nat} (hs : s ≤ 9) (a : Nat) (ha : a < (ptsP nodes s).length) :
    ∃ n j : Nat, n < 100 ∧ j < 10 ∧ (pt (ptsP nodes s) a).n = (n : Int) ∧ (pt (ptsP nodes s) a).i = (j : Int) ∧ sumK (nameS n j) = (pt (ptsP nodes s) a).h := by
  obtain ⟨h1, j, hj, e⟩ := (pts_mem _ _ _).1 (pt_mem _ ha)
  have h2 := ((numsB_iff _).1 h).1 _ h1
  generalize pt (ptsP nodes s) a = p at *
  refine ⟨p.n.toNat, j, by omega, by omega, by omega, by rw [e]; rfl, ?_⟩
  rw [name_sum]
  conv => rhs; rw [e]
  rfl

set_option maxRecDepth 100000 in
set_option maxHeartbeats 4000000 in
theorem walk (A : Option Addr) (c : Nat) (xs0 : List Int) (sp : Nat) (w : World) (hc : xs0.length ≤ c) (hm : c ≤ maxLen) (hx : Has w 0 w.heap.size A xs0) (hsp : sp ≤ 255) :
    Calls Tryd.prog 6 #[.slice A xs0.length c, .int .u8 (sp : Int)] w fun e w' => e = .returned (.bool true) ∧ Below w.heap.size w w' := by
  obtain ⟨xs, hxs⟩ : ∃ xs, cutF xs0 = xs := ⟨_, rfl⟩
  have hlen : xs.length ≤ 65 := hxs ▸ cutF_len xs0
  have HX : Hid (∀ W, Below w.heap.size w W → Has W 0 w.heap.size A xs) := Lib.hid (fun W hb => by rw [← hxs]; exact (hx.take 65).on hb (Nat.le_refl _))
  have HC1 : Hid (Calls Tryd.prog 9 #[.slice A xs0.length c] w fun e w' => e = .returned (.slice A xs.length c) ∧ Below w.heap.size w w') := Lib.hid (by rw [← hxs]; exact fewl_below A c 0 w.heap.size xs0 w hc hm hx)
  clear hx hxs
  go_enter Tryd.func6, Tryd.ntmps6
  go_wp2_with fail
  refine HC1.out.mono ?_
  rintro e w2 ⟨rfl, hb2⟩
  have HB2 := Lib.hid hb2
  clear hb2 HC1
  by_cases hlo : xs.length < 1
  · have e1 : decide ((xs.length : Int) < 1) = true := decide_eq_true (by omega)
    have e1' : decide (xs.length < 1) = true := decide_eq_true hlo
    clear hlo
    go_wp2_with fail
    refine (awake_any _).mono ?_
    rintro e w7 ⟨rfl, hb⟩
    go_wp2_with fail
    go_ret
    exact ⟨rfl, HB2.out.trans (hb.mono HB2.out.size)⟩
  have e1 : decide ((xs.length : Int) < 1) = false := decide_eq_false (by omega)
  have e1' : decide (xs.length < 1) = false := decide_eq_false hlo
  by_cases hhi : 6 < xs.length
  · have e2 : decide ((6 : Int) < (xs.length : Int)) = true := decide_eq_true (by omega)
    have e2' : decide (6 < xs.length) = true := decide_eq_true hhi
    clear hlo hhi
    go_wp2_with fail
    refine (awake_any _).mono ?_
    rintro e w7 ⟨rfl, hb⟩
    go_wp2_with fail
    go_ret
    exact ⟨rfl, HB2.out.trans (hb.mono HB2.out.size)⟩
  have e2 : decide ((6 : Int) < (xs.length : Int)) = false := decide_eq_false (by omega)
  have e2' : decide (6 < xs.length) = false := decide_eq_false hhi
  obtain ⟨L, hL⟩ : ∃ L, nodesB xs = L := ⟨_, rfl⟩
  have HND := Lib.hid (fun (W : World) (h : Has W 0 w.heap.size A xs) => rnodes_t A c 0 w.heap.size xs W (by omega) h L hL)
  rcases L with _ | _
  · go_wp2_with fail
    refine (HND.out _ (HX.out _ HB2.out)).mono ?_
    rintro e w3 ⟨rfl, hb3⟩
    have HB3 := Lib.hid (HB2.out.trans (hb3.mono HB2.out.size))
    clear hlo hhi hb3
    go_wp2_with fail
    refine (awake_any _).mono ?_
    rintro e w7 ⟨rfl, hb⟩
    go_wp2_with fail
    go_ret
    exact ⟨rfl, HB3.out.trans (hb.mono HB3.out.size)⟩
  go_wp2_with fail
  refine (HND.out _ (HX.out _ HB2.out)).mono ?_
  rintro e w3 ⟨rfl, hb3⟩
  have HB3 := Lib.hid (HB2.out.trans (hb3.mono HB2.out.size))
  clear hb3 HB2 e1 e1' e2 e2' HND
  have hpos : 0 < xs.length := by omega
  obtain ⟨qq, hqq⟩ : ∃ qq, sp % 8 = qq := ⟨_, rfl⟩
  obtain ⟨s1, s2, s3, s4, s5⟩ := u8_mod sp qq 8 hsp hqq (by decide) (by decide)
  replace s1 : Int.tmod (sp : Int) 8 = (qq : Int) := s1
  replace s2 : (sp : Int) % 8 = (qq : Int) := s2
  obtain ⟨N, hN⟩ : ∃ N, N = 1 + qq := ⟨_, rfl⟩
  obtain ⟨N1, hN1⟩ : ∃ N1, N1 = N + 1 := ⟨_, rfl⟩
  have s6 : IntKind.i64.wrap (1 + (qq : Int)) = (N : Int) := by rw [IntWalk.i64_in _ (by omega)]; omega
  have s7 : IntKind.i64.wrap ((N : Int) + 1) = (N1 : Int) := by rw [IntWalk.i64_in _ (by omega)]; omega
  have hNb : 1 ≤ N ∧ N ≤ 8 ∧ N1 ≤ 9 := by omega
  have hnum := nodesB_nums hL
  have herr := err_pts hL (s := N) (by omega) (by omega) hpos
  have hmayA := pts_may hnum (s := N) (by omega)
  have hla : (ptsP xs N).length = xs.length * N := pts_len xs N
  have hlb : (ptsP xs N1).length = xs.length * N1 := pts_len xs N1
  have hmul : IntKind.i64.wrap ((N : Int) * (xs.length : Int)) = ((ptsP xs N).length : Int) := by
    rw [hla, Int.natCast_mul, Int.mul_comm]
    have := Nat.mul_le_mul hlen hNb.2.1
    exact IntWalk.i64_in _ (by rw [← Int.natCast_mul]; omega)
  have hadd : IntKind.i64.wrap (((ptsP xs N).length : Int) + (xs.length : Int)) = ((ptsP xs N1).length : Int) := by
    rw [hla, hlb, hN1, Nat.mul_add, Nat.mul_one]
    have := Nat.mul_le_mul hlen hNb.2.1
    rw [IntWalk.i64_in _ (by omega)]
    omega
  have hsmall : (ptsP xs N).length ≤ 1000 ∧ (ptsP xs N1).length ≤ 1000 := by
    rw [hla, hlb]
    have := Nat.mul_le_mul hlen hNb.2.1
    have := Nat.mul_le_mul hlen hNb.2.2
    omega
  obtain ⟨NX, hNX⟩ := count_is hnum N
  rw [← hN1] at hNX
  have HNX := Lib.hid hNX
  have HSP : Hid (∀ a, a < (ptsP xs N).length → ∃ n j : Nat, n < 100 ∧ j < 10 ∧ (pt (ptsP xs N) a).n = (n : Int) ∧ (pt (ptsP xs N) a).i = (j : Int) ∧ sumK (nameS n j) = (pt (ptsP xs N) a).h) := Lib.hid (fun a ha => spot_is hnum (by omega) a ha)
  have HPO : Hid (∀ a, a < (ptsP xs N).length → (a = 0 ∨ (pt (ptsP xs N) (a - 1)).h ≠ (pt (ptsP xs N) a).h) → placeP (ptsP xs N) (pt (ptsP xs N) a).h = a) := Lib.hid (fun a ha h0 => pos_own (pts_rise hnum N) a ha h0)
  have HP := Lib.hid (fun (W : World) (h : Has W 0 w.heap.size A xs) (hh : w.heap.size ≤ W.heap.size) => points_yes A c 0 w.heap.size xs N W h hh hL (by omega) (by omega))
  have HP1 := Lib.hid (fun (W : World) (h : Has W 0 w.heap.size A xs) (hh : w.heap.size ≤ W.heap.size) => points_yes A c 0 w.heap.size xs N1 W h hh hL (by omega) (by omega))
  have HCK : Hid (∀ (A : Option Addr) (c : Nat) (W : World), Ps W A (ptsP xs N) → Calls Tryd.prog 19 #[.slice A (ptsP xs N).length c] W fun e w' => e = .returned (.int .i64 0) ∧ Below W.heap.size W w') := Lib.hid (fun A c W h => check_any A c _ W (by omega) h true hmayA)
  have HPC := Lib.hid (fun (A : Option Addr) (c : Nat) (W : World) (h : Ps W A (ptsP xs N)) (k : ByteArray) (hk : k.size ≤ maxLen) => place_any A c _ k W (by omega) h hk ((placeP (ptsP xs N) (sumK k) : Nat) : Int) 0 herr (if_pos rfl))
  clear hqq hN hN1 hNX herr hmayA hla hlb hL hnum
  generalize ptsP xs N = la at *
  generalize ptsP xs N1 = lb at *
  have HSM := Lib.hid hsmall
  have hsa := hsmall.1
  have hsb := hsmall.2
  clear hsmall
  go_wp2_with fail
  refine (HP.out _ (HX.out _ HB3.out) HB3.out.size).mono ?_
  rintro e w8 ⟨v8, rfl, ho8, hb⟩
  have B_1 := Lib.hid (HB3.out.trans (hb.mono HB3.out.size))
  clear HB3
  clear hb
  obtain ⟨A8, c8, rfl, hc8, hp8⟩ := ho8.lst
  have HA8 := Lib.hid hp8
  clear ho8 hp8 HP
  go_wp2_with fail
  refine (HP1.out _ (HX.out _ B_1.out) B_1.out.size).mono ?_
  rintro e w9 ⟨v9, rfl, ho9, hb⟩
  have B_2 := Lib.hid (B_1.out.trans (hb.mono B_1.out.size))
  have A_2 := Lib.hid (HA8.out.on hb)
  clear B_1 HA8
  clear hb
  obtain ⟨A9, c9, rfl, hc9, hp9⟩ := ho9.lst
  have HA9 := Lib.hid hp9
  clear ho9 hp9 HP1
  have z1 : ((la.length : Int) != (la.length : Int)) = false := by simp
  have z2 : ((lb.length : Int) != (lb.length : Int)) = false := by simp
  go_wp2_with fail
  refine (HCK.out _ _ _ A_2.out).mono ?_
  rintro e w10 ⟨rfl, hb⟩
  have B_3 := Lib.hid (B_2.out.trans (hb.mono B_2.out.size))
  have A_3 := Lib.hid (A_2.out.on hb)
  have C_3 := Lib.hid (HA9.out.on hb)
  clear B_2 A_2 HA9
  clear hb
  clear HCK z1 z2 hmul hadd
  have HB := B_3
  have HA := A_3
  have HC := C_3
  clear B_3 A_3 C_3
  go_wp2_with fail
  go_loopw [10, 11] (fun x i wr => ∃ a : Nat, i = .int .i64 a ∧ a ≤ lb.length ∧ x = .int .i64 (NX a : Nat) ∧ Hid (Below w10.heap.size w10 wr)) (fun _ i _ => lb.length - (intOf i).toNat)
  case atStart => exact ⟨0, rfl, Nat.zero_le _, by rw [HNX.out.1]; rfl, Lib.hid (Below.refl _ _)⟩
  case round =>
    obtain ⟨a, rfl, ha, rfl, HR⟩ := hrel
    by_cases hlt : a < lb.length
    · have a0 : (0 : Int) ≤ (a : Int) := by omega
      have a1 : (a : Int) < (lb.length : Int) := by omega
      have hst := HNX.out.2.2.2 a hlt
      obtain ⟨ad, rfl, hlo, h1⟩ := (HC.out.on HR.out) a hlt
      obtain ⟨b0, b1, b2⟩ := h1.flat
      by_cases hi : (pt lb a).i = (N : Int)
      · have e1 : ((pt lb a).i == (N : Int)) = true := by simpa using hi
        have hn1 := hst.1 hi
        have HN2 : Hid (NX (a + 1) = NX a) := Lib.hid hn1
        rw [hi] at b2
        clear hst hi h1 hn1 e1
        have e1 : ((N : Int) == (N : Int)) = true := by simp
        go_wp2_with fail
        go_roundw
        case rel => exact ⟨a + 1, by go_num, by omega, by rw [HN2.out], HR⟩
        case measure => simp [intOf]; omega
      · have e1 : ((pt lb a).i == (N : Int)) = false := by simpa using hi
        obtain ⟨hn1, hn2, hn3⟩ := hst.2 hi
        obtain ⟨ad2, rfl, hlo2, h2⟩ := (HA.out.on HR.out) (NX a) hn2
        rw [hn3] at h2
        obtain ⟨c0, c1, c2⟩ := h2.flat
        have HN2 : Hid (NX (a + 1) = NX a + 1) := Lib.hid hn1
        have hq := fun W => neq_pt (pt lb a) (pt lb a) W
        rw [decide_eq_true rfl] at hq
        have hle : NX a ≤ 1000 := by omega
        generalize hnx : NX a = nx at *
        have HNE := Lib.hid hnx
        clear hnx
        have x0 : (0 : Int) ≤ (nx : Int) := by omega
        have x1 : (nx : Int) < (la.length : Int) := by omega
        have x2 : decide ((la.length : Int) ≤ (nx : Int)) = false := decide_eq_false (by omega)
        have x2' : decide (la.length ≤ nx) = false := decide_eq_false (by omega)
        generalize pt lb a = y at *
        clear hst hi h1 h2 hn1 hn3
        go_upto_region 14 with (fail)
        have B0 : ∀ p : Regrown, (grow (redrawn wr p.d) p.os).cell? (ad.add (a * 3)) = some (.int .u64 y.h) := fun p => cell_regrown b0 p.d p.os
        have B1 : ∀ p : Regrown, (grow (redrawn wr p.d) p.os).cell? ⟨(ad.add (a * 3)).block, (ad.add (a * 3)).off + 1, none⟩ = some (.int .i64 y.n) := fun p => cell_regrown b1 p.d p.os
        have B2 : ∀ p : Regrown, (grow (redrawn wr p.d) p.os).cell? ⟨(ad.add (a * 3)).block, (ad.add (a * 3)).off + 2, none⟩ = some (.int .i64 y.i) := fun p => cell_regrown b2 p.d p.os
        have C0 : ∀ p : Regrown, (grow (redrawn wr p.d) p.os).cell? (ad2.add (nx * 3)) = some (.int .u64 y.h) := fun p => cell_regrown c0 p.d p.os
        have C1 : ∀ p : Regrown, (grow (redrawn wr p.d) p.os).cell? ⟨(ad2.add (nx * 3)).block, (ad2.add (nx * 3)).off + 1, none⟩ = some (.int .i64 y.n) := fun p => cell_regrown c1 p.d p.os
        have C2 : ∀ p : Regrown, (grow (redrawn wr p.d) p.os).cell? ⟨(ad2.add (nx * 3)).block, (ad2.add (nx * 3)).off + 2, none⟩ = some (.int .i64 y.i) := fun p => cell_regrown c2 p.d p.os
        clear b0 b1 b2 c0 c1 c2
        refine q_enter (by kernel_rfl) (by kernel_rfl) ?_
        iterate 15 (refine q_step ?_; intro K hK; go_simp; refine hK _ ?_; clear hK K)
        refine q_nil ?_
        intro wz hbz
        have HR2 := Lib.hid (HR.out.trans (hbz.mono HR.out.size))
        clear hbz B0 B1 B2 C0 C1 C2 hq
        go_wp2_with fail
        go_roundw
        case rel => exact ⟨a + 1, by go_num, by omega, by rw [HN2.out]; go_num, HR2⟩
        case measure => simp [intOf]; omega
    · obtain rfl : a = lb.length := by omega
      have hnl := HNX.out.2.1
      have HBX := Lib.hid (HB.out.trans (HR.out.mono HB.out.size))
      have HAX := Lib.hid (HA.out.on HR.out)
      obtain ⟨nl, hnl2⟩ : ∃ nl, NX lb.length = nl := ⟨_, rfl⟩
      rw [hnl2] at hnl
      subst hnl
      rw [hnl2]
      clear hnl2 HNX HA HC HB HR
      go_wp2_with fail
      obtain ⟨wt, et⟩ : ∃ wt, wt = wr := ⟨_, rfl⟩
      subst et
      go_loopw [12] (fun i wr => ∃ a : Nat, i = .int .i64 a ∧ a ≤ la.length ∧ Hid (Below wt.heap.size wt wr)) (fun i _ => la.length - (intOf i).toNat)
      case atStart => exact ⟨0, rfl, Nat.zero_le _, Lib.hid (Below.refl _ _)⟩
      case round =>
        obtain ⟨a, rfl, ha, HR⟩ := hrel
        by_cases hlt : a < la.length
        · have a0 : (0 : Int) ≤ (a : Int) := by omega
          have a1 : (a : Int) < (la.length : Int) := by omega
          obtain ⟨ad, rfl, hlo, h1⟩ := (HAX.out.on HR.out) a hlt
          obtain ⟨b0, b1, b2⟩ := h1.flat
          have HP3 : Hid (0 < a → PAt wr (ad.add ((a - 1) * 3)) (pt la (a - 1))) := Lib.hid (fun hp => by
            obtain ⟨ad', e, _, h4⟩ := (HAX.out.on HR.out) (a - 1) (by omega)
            obtain rfl := Option.some.inj e
            exact h4)
          obtain ⟨T, hT⟩ : ∃ T : Bool, (decide (0 < a) && ((pt la a).h == (pt la (a - 1)).h)) = T := ⟨_, rfl⟩
          have HPA := Lib.hid (HPO.out a hlt)
          have hsp := HSP.out a hlt
          have HAW := Lib.hid (HAX.out.on HR.out)
          generalize hy : pt la a = y at *
          generalize hz : pt la (a - 1) = z at *
          clear hy hz h1
          go_upto_region 20 with (fail)
          go_cut [129] from 114 to 129 (fun b wx => b = .bool T ∧ Hid (Below wr.heap.size wr wx))
          case first =>
            by_cases hk0 : a = 0
            · have eg : decide ((0 : Int) < (a : Int)) = false := by simp; omega
              have eg' : decide (0 < a) = false := by simp; omega
              have hTf : T = false := by rw [← hT, eg']; rfl
              subst hTf
              clear hk0 hT
              refine q_enter (by kernel_rfl) (by kernel_rfl) ?_
              iterate 16 (refine q_step ?_; intro K hK; go_simp; refine hK _ ?_; clear hK K)
              refine q_nil ?_
              intro wz hbz
              go_wp2_with fail
              go_meet
              exact ⟨rfl, Lib.hid hbz⟩
            · have eg : decide ((0 : Int) < (a : Int)) = true := by simp; omega
              have eg' : decide (0 < a) = true := by simp; omega
              obtain ⟨p0, p1, p2⟩ := (HP3.out (by omega)).flat
              have hkm : IntKind.i64.wrap ((a : Int) - 1) = ((a - 1 : Nat) : Int) := by rw [IntWalk.i64_in _ (by omega)]; omega
              have g0 : (0 : Int) ≤ ((a - 1 : Nat) : Int) := by omega
              have g1 : ((a - 1 : Nat) : Int) < (la.length : Int) := by omega
              have g1' : a - 1 < la.length := by omega
              have hT2 : (y.h == z.h) = T := by rw [← hT, eg']; rfl
              generalize a - 1 = km at *
              have B0 : ∀ p : Regrown, (grow (redrawn wr p.d) p.os).cell? (ad.add (a * 3)) = some (.int .u64 y.h) := fun p => cell_regrown b0 p.d p.os
              have P0 : ∀ p : Regrown, (grow (redrawn wr p.d) p.os).cell? (ad.add (km * 3)) = some (.int .u64 z.h) := fun p => cell_regrown p0 p.d p.os
              clear hk0 hT p0 p1 p2 b0 b1 b2
              refine q_enter (by kernel_rfl) (by kernel_rfl) ?_
              iterate 16 (refine q_step ?_; intro K hK; go_simp; refine hK _ ?_; clear hK K)
              refine q_nil ?_
              intro wz hbz
              go_wp2_with fail
              go_meet
              exact ⟨rfl, Lib.hid hbz⟩
          case rest =>
            obtain ⟨rfl, hbq⟩ := hcut
            have HR2 := Lib.hid (HR.out.trans (hbq.out.mono HR.out.size))
            have HAC := Lib.hid (HAX.out.on HR2.out)
            replace b0 := (hbq.out.cell (World.block_lt_of_cell? _ _ b0)).trans b0
            replace b1 := (hbq.out.cell (World.block_lt_of_cell? _ _ b1)).trans b1
            replace b2 := (hbq.out.cell (World.block_lt_of_cell? _ _ b2)).trans b2
            clear hbq HR HAW HP3
            rcases T with _ | _
            · have h0 : a = 0 ∨ z.h ≠ y.h := by
                rcases Nat.eq_zero_or_pos a with h | h
                · exact .inl h
                · rw [decide_eq_true h] at hT; exact .inr (fun e => by simp [e] at hT)
              have hpl := HPA.out h0
              obtain ⟨n, j, hn, hj, e1, e2, e3⟩ := hsp
              have HNM := Lib.hid (fun W => name_any y.h n j W hn hj)
              have hnz := name_size n j
              have HPK := Lib.hid (fun W h => HPC.out (some ad) c8 W h (nameS n j) (by unfold maxLen; omega))
              rw [e3, hpl] at HPK
              rw [e1] at b1
              rw [e2] at b2
              generalize nameS n j = nm at *
              generalize y.h = yh at *
              clear hT h0 hpl e1 e2 e3 hnz HPA
              have z3 : ((a : Int) != (a : Int)) = false := by simp
              go_wp2_with fail
              refine (HNM.out _).mono ?_
              rintro e w30 ⟨rfl, hb30⟩
              have HR3 := Lib.hid (HR2.out.trans (hb30.mono HR2.out.size))
              clear b0 b1 b2
              go_wp2_with fail
              refine (HPK.out _ (HAX.out.on HR3.out)).mono ?_
              rintro e w31 ⟨rfl, hb31⟩
              have HR4 := Lib.hid (HR3.out.trans (hb31.mono HR3.out.size))
              clear hb31 hb30 HR2 HR3 HAC HPK HNM
              go_wp2_with fail
              go_roundw
              case rel => exact ⟨a + 1, by go_num, by omega, HR4⟩
              case measure => simp [intOf]; omega
            · clear hsp HPA HAC hT
              go_wp2_with fail
              go_roundw
              case rel => exact ⟨a + 1, by go_num, by omega, HR2⟩
              case measure => simp [intOf]; omega
        · obtain rfl : a = la.length := by omega
          have HBZ := Lib.hid (HBX.out.trans (HR.out.mono HBX.out.size))
          have z1 : ((la.length : Int) == (la.length : Int)) = true := by simp
          clear HSP HPO HPC
          go_wp2_with fail
          refine (awake_any _).mono ?_
          rintro e w7 ⟨rfl, hb⟩
          go_wp2_with fail
          go_ret
          exact ⟨rfl, HBZ.out.trans (hb.mono HBZ.out.size)⟩

theorem parOk : ∀ t ∈ (#[22, 5] : Array TypeId).toList, Tryd.prog.readableRec t = true ∧ t < Tryd.prog.types.size := by
  have hall : ([22, 5].all fun t => Tryd.prog.readableRec t && decide (t < Tryd.prog.types.size)) = true := by kernel_rfl
  intro t ht
  simpa using List.all_eq_true.1 hall t ht

set_option maxRecDepth 100000 in
/-- What the walk gives, for every argument and every world that holds the table. -/
theorem contract (H : Type) (enc : TypeId × Value → H) (W : World) (base : Nat) (args : Array Value) (ds gs : List (DataW H)) (before : List MemPlace)
    (hval : ∀ (j : Nat) t v, Tryd.f6.params[j]? = some t → args[j]? = some v → Value.okWide Tryd.prog W .any base t v)
    (hW : DataW.Whole enc Tryd.prog Tryd.f6.params.toList Rows.ringSpotsSpec.vars false W args.toList ds gs before) (_ : laidMetH Tryd.prog Rows.ringSpotsRow.laid W) :
    Calls Tryd.prog 6 args W fun e W' => ∃ v, e = .returned v ∧ Rows.ringSpotsSpec.post enc Tryd.prog Tryd.f6 false true false false W args v W' := by
  have hW' := hW
  obtain ⟨p, q, hA0, hV, rfl, hfz, hnd⟩ := hW
  have hA : DataW.TrodAll enc Tryd.prog W 0 (fun _ => true) true Tryd.f6.params.toList args.toList ds p := hA0
  rw [Tryd.params6] at hA hval
  obtain ⟨v0, vs0, d0, ds0, p0, q0, hargs, rfl, rfl, h0, r0⟩ := trodAll_cons hA
  obtain ⟨v1, vs1, d1, ds1, p1, q1, rfl, rfl, rfl, h1, r1⟩ := trodAll_cons r0
  obtain ⟨rfl, rfl, rfl⟩ := trodAll_nil r1
  obtain rfl : args = #[v0, v1] := by cases args; simp_all
  obtain ⟨rfl, rfl⟩ := trodVars_none hV
  obtain ⟨A, c, xs, rfl, hc, hm, hx⟩ := open_nums (hval 0 22 v0 rfl rfl) h0
  obtain ⟨s, rfl, hs⟩ := open_u8 (hval 1 5 v1 rfl rfl) h1
  clear hA0
  refine (walk A c xs s W hc hm hx hs).mono fun e W' ⟨he, hb⟩ => ?_
  subst he
  exact ⟨_, rfl, law_post rfl (by rw [Tryd.params6]; exact parOk) rfl hW' rfl rfl rfl hb⟩

set_option maxRecDepth 100000 in
theorem laid_met (os : Os) : laidMet Tryd.prog Rows.ringSpotsRow.laid ((laidWorld os).forCall (fun _ _ => 0) ⟨#[], #[.slice none 0 0, .int .u8 0], []⟩).memory :=
  laidMet_of_run' 8 (by kernel_rfl) (by kernel_rfl)
set_option maxRecDepth 100000 in
theorem reads (os : Os) {H : Type} (enc : TypeId × Value → H) : ∃ places, DataW.whole enc Tryd.prog ((laidWorld os).forCall (fun _ _ => 0) ⟨#[], #[.slice none 0 0, .int .u8 0], []⟩).memory Tryd.f6.params.toList Rows.ringSpotsSpec.vars false (#[.slice none 0 0, .int .u8 0] : Array Value).toList 8 = some ([.nil, .lit (.int .u8 0)], [], places) :=
  ⟨[], by kernel_rfl⟩

set_option maxRecDepth 100000 in
theorem lifted (os : Os) (started : os.Started) (H : Type) (enc : TypeId × Value → H) (F : Stop.Interp) :
    ReturnsInHanded {} Tryd.checked os 6 .any ((OpenSpec.ofChange Rows.ringSpotsSpec).preRow enc Tryd.prog Tryd.f6 Rows.ringSpotsRow.domain false Rows.ringSpotsRow.laid) (((OpenSpec.ofChange Rows.ringSpotsSpec).at F).post enc Tryd.prog Tryd.f6 false true false false) := by
  obtain ⟨places, hx⟩ := reads os enc
  refine returnsInHanded_of_row (C := Tryd.checked) (s := OpenSpec.ofChange Rows.ringSpotsSpec) own started (by kernel_rfl) Tryd.func6
    (witness_row_at (enc := enc) (C := Tryd.checked) false (laidWorld os) #[.slice none 0 0, .int .u8 0] rfl (by kernel_rfl) (by kernel_rfl) (by kernel_rfl)
      (OpenSpec.preRow_of_cond 8 hx (by kernel_rfl) (fun k hk => by cases hk) (by kernel_rfl) (laid_met os))) ?_
  intro W base args ds gs before hval hW _ _ _ hL _ _
  exact contract H enc W base args ds gs before hval hW hL

theorem said : Rows.RingSpotsSaid :=
  OpenClaim.holds_of_cond 6 Tryd.f6 rfl rfl rfl rfl rfl rfl rfl ⟨rfl, rfl, rfl, rfl, rfl⟩ rfl rfl rfl rfl rfl (by kernel_rfl) Tryd.func6 (by kernel_rfl)
    (of_decide_eq_true (by kernel_rfl)) (by unfold Func.isWrapper; first | (rw [if_pos (by decide +kernel)]; kernel_rfl) | (rw [if_neg (by decide +kernel)]; exact ⟨rfl, rfl⟩))
    (fun os started H enc _ F => by rw [OpenClaim.pre_eq_preRow]; exact lifted os started H enc F)

/-- No parameter wants a stand-in; the program's own looks are off. -/
theorem plain (f : FuncId) (fn : Func) (hf : Tryd.pinned.checked.prog.funcNamed "tattle/tattlelaw13.RingSpots" = some f) (hfn : Tryd.pinned.checked.prog.funcs[f]? = some fn) :
    false = Tryd.pinned.checked.prog.looks [] ∧ ∀ (j : Nat) t, fn.params[j]? = some t → Tryd.pinned.checked.prog.wantsStandIn t = false := by
  obtain rfl : f = 6 := Option.some.inj ((show Tryd.prog.funcNamed "tattle/tattlelaw13.RingSpots" = some 6 by kernel_rfl).symm.trans hf) |>.symm
  obtain rfl : fn = Tryd.f6 := (Option.some.inj (Tryd.func6.symm.trans hfn)).symm
  refine ⟨by kernel_rfl, fun j t ht => ?_⟩
  rw [Tryd.params6] at ht
  have hm : t ∈ [22, 5] := by simpa using Array.mem_of_getElem? ht
  have hall : ([22, 5].all fun u => !Tryd.prog.wantsStandIn u) = true := by kernel_rfl
  exact (show Tryd.prog.wantsStandIn t = false by simpa using List.all_eq_true.1 hall t hm)

/-- THE CARD. -/
theorem card : Rows.RingSpotsCardSaid :=
  Claim7.holds_tied_plain_at .later [] _ _ _ _ said (fun _ h => by cases h) (by kernel_rfl) (fun _ h => by cases h) ringSpots_row_tie rfl ⟨rfl, rfl⟩ (by kernel_rfl) rfl plain (by kernel_rfl)
end Go.Proofs.YtjmjeaipdfmglaaDoor.lawSpots
