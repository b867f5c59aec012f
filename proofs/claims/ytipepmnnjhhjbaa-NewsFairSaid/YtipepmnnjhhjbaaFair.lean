/-
  THE LAW NewsFair: what is told next is to be told as often yet as anything that is not, or oftener; none is told twice in one go; taking none changes nothing.
  For every queue (of which the law looks at the first sixty-five), and every number.
-/
import Derived.Test.YtipepmnnjhhjbaaFairMath
import Derived.Test.YtipepmnnjhhjbaaMaps
import Derived.Test.YtipepmnnjhhjbaaLaw
import Derived.Lib.MinMax
namespace Go.Proofs.Ytipepmnnjhhjbaa.lawFair
open Go.Sort Go.ChangeShapes Go.WideShapes Go.ChangeAt Go.RowKit Go.Joins Go.Proofs.Ytipepmnnjhhjbaa.Pure

set_option maxRecDepth 100000 in
set_option maxHeartbeats 4000000 in
theorem wayNot (A : Option Addr) (kq nt c k : Nat) (t : List Td) (w : World)
    (HF : Hid (∀ (W : World), Calls Try.prog 9 #[.slice A kq c] W fun e w' => e = .returned (.slice A nt c) ∧ Below W.heap.size W w'))
    (HCk : Hid (∀ (W : World), Ts W A t → Calls Try.prog 14 #[.slice A nt c] W fun e w' => e = .returned (.int .i64 1) ∧ Below W.heap.size W w'))
    (hT : Ts w A t) :
    Calls Try.prog 6 #[.slice A kq c, .int .u8 k] w fun e w' => e = .returned (.bool true) ∧ Below w.heap.size w w' := by
  go_enter Try.func6, Try.ntmps6
  go_wp2_with fail
  refine (HF.out _).mono ?_
  rintro e w1 ⟨rfl, hb⟩
  have LT_1 := Lib.hid (hT.on hb)
  have HB_1 := Lib.hid hb
  clear hb hT
  go_wp2_with fail
  refine (HCk.out _ LT_1.out).mono ?_
  rintro e w2 ⟨rfl, hb⟩
  have HB_2 : Hid (Below w.heap.size w w2) := Lib.hid (HB_1.out.trans (hb.mono HB_1.out.size))
  clear hb LT_1 HB_1
  go_wp2_with fail
  refine (awake_any _).mono ?_
  rintro e w3 ⟨rfl, hb⟩
  have HB_3 : Hid (Below w.heap.size w w3) := Lib.hid (HB_2.out.trans (hb.mono HB_2.out.size))
  clear hb HB_2
  go_wp2_with fail
  go_ret
  exact ⟨rfl, HB_3.out⟩

set_option maxRecDepth 100000 in
set_option maxHeartbeats 4000000 in
theorem wayMay (A : Option Addr) (kq c k m nl : Nat) (t lR : List Td) (lN : List Nw) (ws : List Int) (w : World) (hk : k ≤ 255) (hm : m = k % 8)
    (HF : Hid (∀ (W : World), Calls Try.prog 9 #[.slice A kq c] W fun e w' => e = .returned (.slice A t.length c) ∧ Below W.heap.size W w'))
    (HCk : Hid (∀ (W : World), Ts W A t → Calls Try.prog 14 #[.slice A t.length c] W fun e w' => e = .returned (.int .i64 0) ∧ Below W.heap.size W w'))
    (HT : Hid (∀ (W : World), Ts W A t → Calls Try.prog 13 #[.slice A t.length c, .int .i64 m] W fun e w' => ∃ A' c' A2 c2, e = .returned (.tuple #[.slice A' nl c', .slice A2 lR.length c2, .int .i64 0]) ∧ Ns w' A' lN ∧ Ts w' A2 lR ∧ Below W.heap.size W w'))
    (HZ : Hid (∀ (W : World), Ts W A t → Calls Try.prog 13 #[.slice A t.length c, .int .i64 0] W fun e w' => ∃ A' c' A2 c2, e = .returned (.tuple #[.slice A' 0 c', .slice A2 t.length c2, .int .i64 0]) ∧ Ts w' A2 t ∧ Below W.heap.size W w'))
    (HS : Hid (∀ (W : World) X cx Y cy, Ts W X t → Ts W Y t → Calls Try.prog 17 #[.slice X t.length cx, .slice Y t.length cy] W fun e w' => e = .returned (.bool true) ∧ Below W.heap.size W w'))
    (hnl : nl = min m t.length) (HL : Hid (lN.length = nl)) (HW : Hid (ws = lN.map Nw.w)) (HND : Hid (ws.Nodup)) (HIN : Hid (∀ x ∈ ws, 0 ≤ x ∧ x < 64))
    (HTB : Hid (∀ x ∈ t, 1 ≤ x.l ∧ x.l ≤ 64 ∧ 0 ≤ x.w ∧ x.w < 64)) (HRB : Hid (∀ x ∈ lR, 0 ≤ x.l ∧ x.l ≤ 64))
    (HFA : Hid (∀ x y : Td, x ∈ t → y ∈ t → x.w ∉ ws → y.w ∈ ws → x.l ≤ y.l)) (HSUM : Hid (sumT lR = sumT t - (nl : Int))) (htl : t.length ≤ 64) (hrl : lR.length ≤ 64)
    (hT : Ts w A t) :
    Calls Try.prog 6 #[.slice A kq c, .int .u8 k] w fun e w' => e = .returned (.bool true) ∧ Below w.heap.size w w' := by
  have r1 : Int.tmod (k : Int) 8 = ((m : Nat) : Int) := by rw [Int.tmod_eq_emod_of_nonneg (by omega), hm]; omega
  have r3 : IntKind.u8.wrap ((m : Nat) : Int) = ((m : Nat) : Int) := by rw [IntKind.wrap_u8]; omega
  have r5 : IntKind.i64.wrap ((m : Nat) : Int) = ((m : Nat) : Int) := IntWalk.i64_in _ (by omega)
  have hmn : ((nl : Int) != min (m : Int) (t.length : Int)) = false := by rw [bne_eq_false_iff_eq]; omega
  have hm7 : m ≤ 7 := by omega
  have hn7 : nl ≤ 7 := by omega
  have HTL := Lib.hid htl
  have HRL := Lib.hid hrl
  clear hm hnl htl hrl hk
  go_enter Try.func6, Try.ntmps6
  go_wp2_with fail
  refine (HF.out _).mono ?_
  rintro e w1 ⟨rfl, hb⟩
  have LT_1 := Lib.hid (hT.on hb)
  have HB_1 := Lib.hid hb
  clear hb hT HF
  go_wp2_with fail
  refine (HCk.out _ LT_1.out).mono ?_
  rintro e w2 ⟨rfl, hb⟩
  have HB_2 : Hid (Below w.heap.size w w2) := Lib.hid (HB_1.out.trans (hb.mono HB_1.out.size))
  have LT_2 := Lib.hid (LT_1.out.on hb)
  clear hb LT_1 HB_1 HCk
  go_wp2_with fail
  refine (HT.out _ LT_2.out).mono ?_
  rintro e w3 ⟨A3, c3, A4, c4, rfl, hn, hl, hb⟩
  have HB_3 : Hid (Below w.heap.size w w3) := Lib.hid (HB_2.out.trans (hb.mono HB_2.out.size))
  have LT_3 := Lib.hid (LT_2.out.on hb)
  have LN_3 := Lib.hid hn
  have LR_3 := Lib.hid hl
  clear hb LT_2 HB_2 hn hl HT
  go_wp2_with fail
  refine (HZ.out _ LT_3.out).mono ?_
  rintro e w4 ⟨A5, c5, A6, c6, rfl, hl, hb⟩
  have HB_4 : Hid (Below w.heap.size w w4) := Lib.hid (HB_3.out.trans (hb.mono HB_3.out.size))
  have LT_4 := Lib.hid (LT_3.out.on hb)
  have LN_4 := Lib.hid (LN_3.out.on hb)
  have LR_4 := Lib.hid (LR_3.out.on hb)
  have LZ_4 := Lib.hid hl
  clear hb LT_3 HB_3 LN_3 LR_3 hl HZ
  go_wp2_with fail
  refine (HS.out _ A6 c6 A c LZ_4.out LT_4.out).mono ?_
  rintro e w5 ⟨rfl, hb⟩
  have HB_5 : Hid (Below w.heap.size w w5) := Lib.hid (HB_4.out.trans (hb.mono HB_4.out.size))
  have LT_5 := Lib.hid (LT_4.out.on hb)
  have LN_5 := Lib.hid (LN_4.out.on hb)
  have LR_5 := Lib.hid (LR_4.out.on hb)
  clear hb LT_4 HB_4 LN_4 LR_4 LZ_4 HS
  have hmm := @run_makeMap Try.prog
  have HM0 : Hid (Mb (w5.alloc (.map #[] 0)) w5.heap.size 0 []) := Lib.hid (Mb.made w5)
  have HB0 : Hid (Below w5.heap.size w5 (w5.alloc (.map #[] 0))) := Lib.hid ((Below.refl _ _).alloc (Nat.le_refl _) _)
  go_wp2_with fail
  go_loopw [14] (fun v14 wm => ∃ i : Nat, i ≤ nl ∧ v14 = .int .i64 i ∧ Hid (Mb wm w5.heap.size i (ws.take i)) ∧ Hid (Below w5.heap.size w5 wm)) (fun v _ => nl - (intOf v).toNat)
  case atStart => exact ⟨0, Nat.zero_le _, rfl, HM0, HB0⟩
  case round =>
    clear HM0 HB0
    obtain ⟨i, hi, rfl, HM, HBm⟩ := hrel
    obtain ⟨wm, e⟩ : ∃ wm, wm = wr := ⟨_, rfl⟩
    subst e
    by_cases hlt : i < nl
    · obtain ⟨ad, rfl, hlo, h1⟩ := (LN_5.out.on HBm.out) i (by rw [HL.out]; exact hlt)
      obtain ⟨a0, a1, a2⟩ := h1.flat
      have hwl := nw_w lN i (by rw [HL.out]; exact hlt)
      rw [← HW.out] at hwl
      have HX := Lib.hid (HIN.out _ hwl.2.1)
      have HTK := Lib.hid hwl.1
      have hfr := hwl.2.2 HND.out
      generalize (nw lN i).w = x at *
      have k0 : (0 : Int) ≤ (i : Int) := by omega
      have k1 : (i : Int) < (nl : Int) := by omega
      have hlook := HM.out.look x HX.out false (by simpa using hfr)
      have hw1 : IntKind.i64.wrap ((i : Int) + 1) = (i : Int) + 1 := by rw [IntWalk.i64_in _ (by omega)]
      obtain ⟨w9, hput, hM9, hg9⟩ := HM.out.put (by omega) x HX.out (ws.take (i + 1)) (by intro y; rw [HTK.out]; simp)
      have HM9 := Lib.hid hM9
      have HB9 : Hid (Below w5.heap.size w5 w9) := Lib.hid (HBm.out.grown hg9 HBm.out.size (by intro b e; injection e with e; omega))
      clear hM9 hg9 h1 a1 a2 hwl hfr hi
      go_wp2_with fail
      go_roundw
      case rel => exact ⟨i + 1, by omega, by go_num, HM9, HB9⟩
      case measure => simp [intOf]; omega
    · obtain rfl : nl = i := by omega
      have HMW : Hid (Mb wm w5.heap.size nl ws) := Lib.hid (by have h1 := HM.out; rwa [List.take_of_length_le (by rw [HW.out, List.length_map, HL.out]; exact Nat.le_refl _)] at h1)
      have LT_6 := Lib.hid (LT_5.out.on HBm.out)
      have LR_6 := Lib.hid (LR_5.out.on HBm.out)
      have HB_6 : Hid (Below w.heap.size w wm) := Lib.hid (HB_5.out.trans (HBm.out.mono HB_5.out.size))
      clear HM HBm LT_5 LR_5 LN_5 HB_5 hi hlt
      obtain ⟨w6, e6⟩ : ∃ w6, w6 = wm := ⟨_, rfl⟩
      subst e6
      generalize w5.heap.size = gm at *
      go_wp2_with fail
      go_loopw [13, 15, 16] (fun v13 v15 v16 wr => ∃ (j : Nat) (v : Int), j ≤ t.length ∧ v13 = .int .i64 v ∧ v15 = .int .i64 (sumT (t.take j)) ∧ v16 = .int .i64 j ∧ (1 ≤ v ∧ v ≤ 65) ∧ Hid (∀ x ∈ t, x.w ∉ ws → x.l ≤ v) ∧ Hid (Below w6.heap.size w6 wr)) (fun _ _ v _ => t.length - (intOf v).toNat)
      case atStart => exact ⟨0, 65, Nat.zero_le _, rfl, rfl, rfl, ⟨by omega, by omega⟩, Lib.hid (fun x hx _ => by have := HTB.out x hx; omega), Lib.hid (Below.refl _ _)⟩
      case round =>
        obtain ⟨wq, ewq⟩ : ∃ wq, wq = wr := ⟨_, rfl⟩
        subst ewq
        obtain ⟨j, v, hj, rfl, rfl, rfl, hv, HUV, HBq⟩ := hrel
        by_cases hlt : j < t.length
        · obtain ⟨ad, rfl, hlo, h1⟩ := (LT_6.out.on HBq.out) j hlt
          obtain ⟨a0, a1, a2, a3⟩ := h1.flat
          have HY := Lib.hid (td_mem hlt)
          have hs1 := sumT_succ t j hlt
          have hsb := sumT_le (fun x hx => by have := HTB.out x hx; omega) (q := t) j
          have hsl : (t.take j).length ≤ 64 := by rw [List.length_take]; have := HTL.out; omega
          obtain ⟨y, ey⟩ : ∃ y, y = td t j := ⟨_, rfl⟩
          rw [← ey] at a0 a1 a2 a3 HY hs1
          have HYB := HTB.out y HY.out
          have HS1 := Lib.hid hs1
          generalize sumT (t.take j) = s at *
          have k0 : (0 : Int) ≤ (j : Int) := by omega
          have k1 : (j : Int) < (t.length : Int) := by omega
          have hws : IntKind.i64.wrap (s + y.l) = sumT (t.take (j + 1)) := by rw [hs1, IntWalk.i64_in _ (by omega)]
          have hw1 : IntKind.i64.wrap ((j : Int) + 1) = (j : Int) + 1 := by have := HTL.out; rw [IntWalk.i64_in _ (by omega)]
          by_cases hin : y.w ∈ ws
          · have hlook := (HMW.out.on HBq.out).look y.w ⟨HYB.2.2.1, HYB.2.2.2⟩ true (by simpa using hin)
            have HUV' : Hid (∀ x ∈ t, x.w ∉ ws → x.l ≤ min v y.l) := Lib.hid (fun x hx hn => by
              have h1 := HUV.out x hx hn
              have h2 := HFA.out x y hx HY.out hn hin
              omega)
            have hmv : 1 ≤ min v y.l ∧ min v y.l ≤ 65 := by omega
            generalize hmz : min v y.l = z at *
            clear h1 hs1 hsb hsl HYB hin ey HUV hv HY
            go_wp2_with fail
            go_roundw
            case rel => exact ⟨j + 1, z, by omega, rfl, rfl, by go_num, hmv, HUV', HBq⟩
            case measure => simp [intOf]; omega
          · have hlook := (HMW.out.on HBq.out).look y.w ⟨HYB.2.2.1, HYB.2.2.2⟩ false (by simpa using hin)
            clear h1 hs1 hsb hsl HYB hin ey HY
            go_wp2_with fail
            go_roundw
            case rel => exact ⟨j + 1, v, by omega, rfl, rfl, by go_num, hv, HUV, HBq⟩
            case measure => simp [intOf]; omega
        · obtain rfl : t.length = j := by omega
          rw [List.take_of_length_le (Nat.le_refl _)] at *
          have LT_7 := Lib.hid (LT_6.out.on HBq.out)
          have LR_7 := Lib.hid (LR_6.out.on HBq.out)
          have HMV := Lib.hid (HMW.out.on HBq.out)
          have HB_7 : Hid (Below w.heap.size w wq) := Lib.hid (HB_6.out.trans (HBq.out.mono HB_6.out.size))
          have hsb := sumT_le (fun x hx => by have := HTB.out x hx; omega) (q := t) t.length
          rw [List.take_of_length_le (Nat.le_refl _)] at hsb
          have HSB := Lib.hid hsb
          clear HMW HBq LT_6 LR_6 HB_6 hj hlt hsb
          obtain ⟨w7, e7⟩ : ∃ w7, w7 = wq := ⟨_, rfl⟩
          subst e7
          go_wp2_with fail
          go_loopw [17] (fun v17 wr => ∃ (j : Nat), j ≤ t.length ∧ v17 = .int .i64 j ∧ Hid (Below w7.heap.size w7 wr)) (fun v _ => t.length - (intOf v).toNat)
          case atStart => exact ⟨0, Nat.zero_le _, rfl, Lib.hid (Below.refl _ _)⟩
          case round =>
            obtain ⟨wq, ewq⟩ : ∃ wq, wq = wr := ⟨_, rfl⟩
            subst ewq
            obtain ⟨j, hj, rfl, HBq⟩ := hrel
            by_cases hlt : j < t.length
            · obtain ⟨ad, rfl, hlo, h1⟩ := (LT_7.out.on HBq.out) j hlt
              obtain ⟨a0, a1, a2, a3⟩ := h1.flat
              have HY := Lib.hid (td_mem hlt)
              obtain ⟨y, ey⟩ : ∃ y, y = td t j := ⟨_, rfl⟩
              rw [← ey] at a0 a1 a2 a3 HY
              have HYB := HTB.out y HY.out
              have k0 : (0 : Int) ≤ (j : Int) := by omega
              have k1 : (j : Int) < (t.length : Int) := by omega
              have hw1 : IntKind.i64.wrap ((j : Int) + 1) = (j : Int) + 1 := by have := HTL.out; rw [IntWalk.i64_in _ (by omega)]
              by_cases hin : y.w ∈ ws
              · have hlook := (HMV.out.on HBq.out).look y.w ⟨HYB.2.2.1, HYB.2.2.2⟩ true (by simpa using hin)
                clear h1 HYB hin ey HY HUV
                go_wp2_with fail
                go_roundw
                case rel => exact ⟨j + 1, by omega, by go_num, HBq⟩
                case measure => simp [intOf]; omega
              · have hlook := (HMV.out.on HBq.out).look y.w ⟨HYB.2.2.1, HYB.2.2.2⟩ false (by simpa using hin)
                have hyv := HUV.out y HY.out hin
                have d1 : decide (v < y.l) = false := by simp; omega
                clear h1 HYB hin ey HY HUV
                go_wp2_with fail
                go_roundw
                case rel => exact ⟨j + 1, by omega, by go_num, HBq⟩
                case measure => simp [intOf]; omega
            · obtain rfl : t.length = j := by omega
              have LR_8 := Lib.hid (LR_7.out.on HBq.out)
              have HB_8 : Hid (Below w.heap.size w wq) := Lib.hid (HB_7.out.trans (HBq.out.mono HB_7.out.size))
              clear HMV HBq LT_7 LR_7 HB_7 hj hlt HUV
              obtain ⟨w8, e8⟩ : ∃ w8, w8 = wq := ⟨_, rfl⟩
              subst e8
              go_wp2_with fail
              go_loopw [15, 18] (fun v15 v18 wr => ∃ (j : Nat), j ≤ lR.length ∧ v15 = .int .i64 (sumT t - sumT (lR.take j)) ∧ v18 = .int .i64 j ∧ Hid (Below w8.heap.size w8 wr)) (fun _ v _ => lR.length - (intOf v).toNat)
              case atStart => exact ⟨0, Nat.zero_le _, by simp [sumT], rfl, Lib.hid (Below.refl _ _)⟩
              case round =>
                obtain ⟨wq, ewq⟩ : ∃ wq, wq = wr := ⟨_, rfl⟩
                subst ewq
                obtain ⟨j, hj, rfl, rfl, HBq⟩ := hrel
                by_cases hlt : j < lR.length
                · obtain ⟨ad, rfl, hlo, h1⟩ := (LR_8.out.on HBq.out) j hlt
                  obtain ⟨a0, a1, a2, a3⟩ := h1.flat
                  have hy := HRB.out _ (td_mem hlt)
                  have hs1 := sumT_succ lR j hlt
                  have hsb := sumT_le HRB.out j
                  have hsl : (lR.take j).length ≤ 64 := by rw [List.length_take]; have := HRL.out; omega
                  have hst := HSB.out
                  have htl := HTL.out
                  obtain ⟨y, ey⟩ : ∃ y, y = td lR j := ⟨_, rfl⟩
                  rw [← ey] at a0 a1 a2 a3 hs1 hy
                  have hws : IntKind.i64.wrap (sumT t - sumT (lR.take j) - y.l) = sumT t - sumT (lR.take (j + 1)) := by rw [hs1, IntWalk.i64_in _ (by omega)]; omega
                  have k0 : (0 : Int) ≤ (j : Int) := by omega
                  have k1 : (j : Int) < (lR.length : Int) := by omega
                  have hw1 : IntKind.i64.wrap ((j : Int) + 1) = (j : Int) + 1 := by have := HRL.out; rw [IntWalk.i64_in _ (by omega)]
                  obtain ⟨s', es⟩ : ∃ s', s' = sumT t - sumT (lR.take (j + 1)) := ⟨_, rfl⟩
                  rw [← es] at hws
                  have ES := Lib.hid es
                  generalize sumT t - sumT (lR.take j) = s at *
                  clear es
                  clear h1 hs1 hsb hsl ey hst htl hy
                  go_wp2_with fail
                  go_roundw
                  case rel => exact ⟨j + 1, by omega, by rw [ES.out], by go_num, HBq⟩
                  case measure => simp [intOf]; omega
                · obtain rfl : lR.length = j := by omega
                  have HB_9 : Hid (Below w.heap.size w wq) := Lib.hid (HB_8.out.trans (HBq.out.mono HB_8.out.size))
                  have hse : sumT t - sumT (lR.take lR.length) = (nl : Int) := by rw [List.take_of_length_le (Nat.le_refl _), HSUM.out]; omega
                  rw [hse]
                  clear hse
                  go_wp2_with fail
                  refine (awake_any _).mono ?_
                  rintro e w10 ⟨rfl, hb10⟩
                  have HB_10 : Hid (Below w.heap.size w w10) := Lib.hid (HB_9.out.trans (hb10.mono HB_9.out.size))
                  clear hb10
                  go_wp2_with fail
                  go_ret
                  exact ⟨rfl, HB_10.out⟩

theorem walk (A : Option Addr) (c : Nat) (q : List Td) (k : Nat) (w : World) (hk : k ≤ 255) (hq : q.length ≤ c ∧ c ≤ maxLen ∧ Ts w A q) :
    Calls Try.prog 6 #[.slice A q.length c, .int .u8 k] w fun e w' => e = .returned (.bool true) ∧ Below w.heap.size w w' := by
  have fa : ∀ W : World, Calls Try.prog 9 #[.slice A q.length c] W fun e w' => e = .returned (.slice A (q.take 65).length c) ∧ Below W.heap.size W w' := fun W => (few_any A c q w hq.1 hq.2.1 hq.2.2 W).mono fun e w' ⟨h1, h2⟩ => ⟨h1, h2 ▸ Below.refl _ _⟩
  have lt := hq.2.2.take 65
  have nt : (q.take 65).length ≤ 65 := by rw [List.length_take]; omega
  generalize q.length = kq at *
  generalize q.take 65 = t at *
  clear hq
  rcases hm : mayQ t with _ | _
  · exact wayNot A kq t.length c k t w (Lib.hid fa) (Lib.hid fun W h => checkQ_any A c t W (by omega) h false hm) lt
  · have hz := tellR_zero hm
    have hrl := mayQ_len (may_tellR hm (k % 8))
    exact wayMay A kq c k (k % 8) (tellN t (k % 8)).length t (tellR t (k % 8)) (tellN t (k % 8)) ((tellN t (k % 8)).map Nw.w) w hk rfl (Lib.hid fa)
      (Lib.hid fun W h => checkQ_any A c t W (by omega) h true hm)
      (Lib.hid fun W h => by have := l_take (c := c) h hm ((k % 8 : Nat) : Int) (by omega); rwa [Int.toNat_natCast] at this)
      (Lib.hid fun W h => (l_take (c := c) h hm 0 (by omega)).mono fun e w' ⟨A1, c1, A2, c2, he, _, h2, hb⟩ => by
        rw [show (0 : Int).toNat = 0 from rfl, tellN_zero, hz] at he
        rw [show (0 : Int).toNat = 0 from rfl, hz] at h2
        exact ⟨A1, c1, A2, c2, he, h2, hb⟩)
      (Lib.hid fun W X cx Y cy h h' => rsame_any X Y cx cy t t W (by omega) h h' true (by simp))
      (tellN_len t _) (Lib.hid rfl) (Lib.hid rfl) (Lib.hid (tellN_nodup hm _)) (Lib.hid (tellN_mem hm _)) (Lib.hid (told_bounds hm))
      (Lib.hid fun x hx => by have := told_bounds (may_tellR hm _) x hx; omega) (Lib.hid (tellN_fair hm _))
      (Lib.hid (by rw [tellN_len]; exact sumT_rest t _)) (mayQ_len hm) hrl lt

theorem parOk : ∀ t ∈ (#[22, 5] : Array TypeId).toList, Try.prog.readableRec t = true ∧ t < Try.prog.types.size := by
  have hall : ([22, 5].all fun t => Try.prog.readableRec t && decide (t < Try.prog.types.size)) = true := by kernel_rfl
  intro t ht
  simpa using List.all_eq_true.1 hall t ht

set_option maxRecDepth 100000 in
/-- What the walk gives, for every argument. -/
theorem contract (H : Type) (enc : TypeId × Value → H) (W : World) (base : Nat) (args : Array Value) (ds gs : List (DataW H)) (before : List MemPlace)
    (hval : ∀ (j : Nat) t v, Try.f6.params[j]? = some t → args[j]? = some v → Value.okWide Try.prog W .any base t v)
    (hW : DataW.Whole enc Try.prog Try.f6.params.toList Rows.newsFairSpec.vars false W args.toList ds gs before) :
    Calls Try.prog 6 args W fun e W' => ∃ v, e = .returned v ∧ Rows.newsFairSpec.post enc Try.prog Try.f6 false true false false W args v W' := by
  have hW' := hW
  obtain ⟨p, q, hA0, hV, rfl, hfz, hnd⟩ := hW
  have hA : DataW.TrodAll enc Try.prog W 0 (fun _ => true) true Try.f6.params.toList args.toList ds p := hA0
  rw [Try.params6] at hA hval
  obtain ⟨v0, vs0, d0, ds0, p0, q0, hargs, rfl, rfl, h0, r0⟩ := trodAll_cons hA
  obtain ⟨v1, vs1, d1, ds1, p1, q1, rfl, rfl, rfl, h1, r1⟩ := trodAll_cons r0
  obtain ⟨rfl, rfl, rfl⟩ := trodAll_nil r1
  obtain rfl : args = #[v0, v1] := by cases args; simp_all
  obtain ⟨rfl, rfl⟩ := trodVars_none hV
  obtain ⟨A, c, q, rfl, hq⟩ := open_tds (hval 0 22 v0 rfl rfl) h0
  obtain ⟨k, rfl, hk⟩ := open_u8 (hval 1 5 v1 rfl rfl) h1
  clear hA0
  refine (walk A c q k W hk hq).mono fun e W' ⟨he, hb⟩ => ?_
  subst he
  exact ⟨_, rfl, law_post rfl (by rw [Try.params6]; exact parOk) rfl hW' rfl rfl rfl hb⟩

set_option maxRecDepth 100000 in
theorem lifted (os : Os) (started : os.Started) (H : Type) (enc : TypeId × Value → H) :
    ReturnsInHanded {} Try.checked os 6 .any (Rows.newsFairSpec.pre6 enc Try.prog Try.f6 Rows.newsFairRow.domain false) (Rows.newsFairSpec.post enc Try.prog Try.f6 false true false false) := by
  refine returnsInHanded_of_change (C := Try.checked) own started (by kernel_rfl) Try.func6
    (ChangeSpec.witness6 (enc := enc) (C := Try.checked) false ⟨#[], #[.slice none 0 0, .int .u8 0], []⟩ 8 (by kernel_rfl) (by kernel_rfl) (by kernel_rfl) (by kernel_rfl)) ?_
  intro W base args ds gs before hval hW _ _
  exact contract H enc W base args ds gs before hval hW

/-- THE STATEMENT. -/
theorem said : Rows.NewsFairSaid :=
  OpenClaim.holds_of_wide 6 Try.f6 rfl rfl rfl rfl rfl rfl rfl ⟨rfl, rfl, rfl, rfl, rfl⟩ rfl rfl rfl rfl rfl (by kernel_rfl) Try.func6 (by kernel_rfl)
    (of_decide_eq_true (by kernel_rfl)) (by unfold Func.isWrapper; first | (rw [if_pos (by decide +kernel)]; kernel_rfl) | (rw [if_neg (by decide +kernel)]; exact ⟨rfl, rfl⟩))
    (fun os started H enc _ => lifted os started H enc)
end Go.Proofs.Ytipepmnnjhhjbaa.lawFair
