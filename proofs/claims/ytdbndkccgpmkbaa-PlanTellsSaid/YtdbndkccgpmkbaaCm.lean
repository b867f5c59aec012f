/-
  Which moves may be: Check, the document's May; Back.
-/
import Derived.Test.YtdbndkccgpmkbaaLf
import Derived.Test.YtdbndkccgpmkbaaTk
namespace Go.Proofs.Ytdbndkccgpmkbaa
open Go.Sort Go.RowKit Go.Proofs.Ytdbndkccgpmkbaa.Pure

def oneB (m : Mv) : Bool := !decide (m.f = m.g) && (mayB m.f && mayB m.g)
def movB (l : List Mv) : Bool := l.all oneB && tskB (l.map Mv.t)
theorem ba_mapV (l : List Mv) {j : Nat} (h : j < l.length) : ba (l.map Mv.t) j = (mv l j).t := by
  rw [ba_lt _ (by simpa using h), mv_lt l h, List.getElem_map]
theorem names_nextV (l : List Mv) (k : Nat) (h : k < l.length) : (l.take (k + 1)).map Mv.t = (l.take k).map Mv.t ++ [(mv l k).t] := by
  rw [List.take_succ_eq_append_getElem h, List.map_append, mv_lt l h]
  rfl
theorem mov_is (l : List Mv) (L : Bool) (hL : movB l = L) : (∀ k, k < l.length → oneB (mv l k) = false → L = false) ∧ ((∀ k, k < l.length → oneB (mv l k) = true) → L = tskB (l.map Mv.t)) := by
  subst hL
  refine ⟨fun k hk h => ?_, fun h => ?_⟩
  · unfold movB
    rw [mv_lt l hk] at h
    rw [List.all_eq_false.2 ⟨l[k], List.getElem_mem hk, by rw [h]; decide⟩, Bool.false_and]
  · unfold movB
    rw [List.all_eq_true.2 fun p hp => ?_, Bool.true_and]
    obtain ⟨k, hk, rfl⟩ := List.mem_iff_getElem.1 hp
    have := h k hk
    rwa [mv_lt l hk] at this
theorem mayB_iff (n : Int) : mayB n = true ↔ -1 ≤ n ∧ n ≤ 63 := by
  unfold mayB
  simp only [Bool.or_eq_true, Bool.and_eq_true, decide_eq_true_eq]
  omega

set_option maxRecDepth 100000 in
set_option maxHeartbeats 4000000 in
theorem chkV_any (A : Option Addr) (c : Nat) (l : List Mv) (w : World) (hn : l.length ≤ 100000) (h : Vs w A l) (hs : Shrt (l.map Mv.t)) (L : Bool) (hL : movB l = L) :
    Calls Try.prog 14 #[.slice A l.length c] w fun e w' => e = .returned (.int .i64 (okE L)) ∧ Below w.heap.size w w' := by
  have HT := Lib.hid (mov_is l L hL)
  have H := Lib.hid h
  have HTK := Lib.hid (fun (A : Option Addr) (c : Nat) (W : World) (h : Ss W A (l.map Mv.t)) => tasks_any A c (l.map Mv.t) W (by simp; omega) h hs _ rfl)
  have HN := Lib.hid (fun (n : Int) (W : World) => may_any n W)
  have HNX : Hid (∀ k, k < l.length → (l.take (k + 1)).map Mv.t = (l.take k).map Mv.t ++ [(mv l k).t]) := Lib.hid (names_nextV l)
  have HE : Hid ((l.take l.length).map Mv.t = l.map Mv.t) := Lib.hid (by rw [List.take_length])
  have HZ0 : Hid ((l.take 0).map Mv.t = []) := Lib.hid rfl
  have HLN : Hid (∀ k, ((l.take k).map Mv.t).length ≤ k) := Lib.hid (fun k => by simp; omega)
  have HML : Hid ((l.map Mv.t).length = l.length) := Lib.hid (by simp)
  generalize tskB (l.map Mv.t) = TB at *
  generalize l.map Mv.t = TL at *
  clear h hs hL
  go_enter Try.func14, Try.ntmps14
  go_wp2_with fail
  go_loopw [3, 8] (fun v i wr => ∃ k : Nat, i = .int .i64 k ∧ k ≤ l.length ∧ Hid (F.Own wr w.heap.size v ((l.take k).map Mv.t)) ∧ Hid (∀ j, j < k → oneB (mv l j) = true) ∧ Hid (Below w.heap.size w wr)) (fun _ i _ => l.length - (intOf i).toNat)
  case atStart => exact ⟨0, rfl, Nat.zero_le _, Lib.hid (by rw [HZ0.out]; exact F.Own.nil _ _), Lib.hid (fun j hj => absurd hj (Nat.not_lt_zero j)), Lib.hid (Below.refl _ _)⟩
  case round =>
    obtain ⟨k, rfl, hk, HO, hok, hb⟩ := hrel
    by_cases hlt : k < l.length
    · have k0 : (0 : Int) ≤ (k : Int) := by omega
      have k1 : (k : Int) < (l.length : Int) := by omega
      obtain ⟨ad, rfl, hlo, h1⟩ := (H.out.on hb.out) k hlt
      obtain ⟨a0, a1, a2⟩ := h1.flat
      have HNX1 := Lib.hid (HNX.out k hlt)
      have HLN1 := Lib.hid (HLN.out k)
      have HF : Hid (oneB (mv l k) = false → L = false) := Lib.hid (HT.out.1 k hlt)
      have HOK : Hid (oneB (mv l k) = true → ∀ j, j < k + 1 → oneB (mv l j) = true) := Lib.hid (fun he j hj => by
        rcases Nat.lt_or_ge j k with hjk | hjk
        · exact hok.out j hjk
        · obtain rfl : j = k := by omega
          exact he)
      generalize (l.take k).map Mv.t = X at *
      generalize mv l k = x at *
      obtain ⟨xt, xf, xg⟩ := x
      simp only at a0 a1 a2 HNX1
      have HE1 : Hid (oneB ⟨xt, xf, xg⟩ = (!decide (xf = xg) && (mayB xf && mayB xg))) := Lib.hid rfl
      have HMF := Lib.hid (fun W => HN.out xf W)
      have HMG := Lib.hid (fun W => HN.out xg W)
      clear h1 hok HT HE
      have hb1 : Below w.heap.size w (wr.alloc (.cells #[.string xt, .int .i64 xf, .int .i64 xg] 39)) := hb.out.alloc hb.out.size _
      have HO1 := Lib.hid (ownS_alloc HO.out (.cells #[.string xt, .int .i64 xf, .int .i64 xg] 39))
      have HBU : Hid (BV (wr.alloc (.cells #[.string xt, .int .i64 xf, .int .i64 xg] 39)) wr.heap.size ⟨xt, xf, xg⟩) := Lib.hid (BV.new wr ⟨xt, xf, xg⟩ _)
      have HB1 := Lib.hid hb1
      clear hb1 HO
      generalize mayB xf = m1 at *
      generalize mayB xg = m2 at *
      go_upto_region 5 with (fail)
      generalize wr.alloc (.cells #[.string xt, .int .i64 xf, .int .i64 xg] 39) = w1 at *
      generalize wr.heap.size = b at *
      clear a0 a1 a2 hb hlo
      obtain ⟨b0, b1, b2⟩ := HBU.out
      simp only at b0 b1 b2
      by_cases hfg : xf = xg
      · have HL : Hid (L = false) := Lib.hid (HF.out (by rw [HE1.out, decide_eq_true hfg]; rfl))
        obtain rfl := HL.out
        have q1 : (xf == xg) = true := by simpa using hfg
        have e1 : okE false = 1 := rfl
        clear HF HOK hfg HL HE1
        go_wp2_with fail
        go_ret
        exact ⟨rfl, HB1.out⟩
      · have q1 : (xf == xg) = false := by simpa using hfg
        have HE2 : Hid (oneB ⟨xt, xf, xg⟩ = (m1 && m2)) := Lib.hid (by rw [HE1.out, decide_eq_false hfg]; rfl)
        clear HE1 hfg
        rcases m1 with _ | _
        · have HL : Hid (L = false) := Lib.hid (HF.out (by rw [HE2.out]; rfl))
          obtain rfl := HL.out
          have e1 : okE false = 1 := rfl
          clear HF HOK HL HE2
          go_wp2_with (go_at_call 31; refine (HMF.out _).mono ?_; rintro e w' ⟨rfl, rfl⟩)
          go_ret
          exact ⟨rfl, HB1.out⟩
        · rcases m2 with _ | _
          · have HL : Hid (L = false) := Lib.hid (HF.out (by rw [HE2.out]; rfl))
            obtain rfl := HL.out
            have e1 : okE false = 1 := rfl
            clear HF HOK HL HE2
            go_wp2_with fail
            refine (HMF.out _).mono ?_
            rintro e w' ⟨rfl, rfl⟩
            go_wp2_with fail
            refine (HMG.out _).mono ?_
            rintro e w' ⟨rfl, rfl⟩
            go_wp2_with fail
            go_ret
            exact ⟨rfl, HB1.out⟩
          · have HOK1 := Lib.hid (HOK.out (by rw [HE2.out]; rfl))
            clear HF HOK HE2
            go_wp2_with fail
            refine (HMF.out _).mono ?_
            rintro e w' ⟨rfl, rfl⟩
            go_wp2_with fail
            refine (HMG.out _).mono ?_
            rintro e w' ⟨rfl, rfl⟩
            go_wp2_with (at_builtin; refine F.append_one rfl _ _ rfl w.heap.size u3 X rfl (ownS_alloc HO1.out _) w1.heap.size xt rfl (by go_simp) (by have := HLN1.out; omega) (by have := HB1.out.size; simp; omega) ?_; intro v' w5 ho5 hg5 _)
            go_roundw
            case rel => exact ⟨k + 1, by go_num, by omega, Lib.hid (by rw [HNX1.out]; exact ho5), HOK1, Lib.hid (below_grownS (HB1.out.alloc HB1.out.size _) (ownS_alloc HO1.out _) hg5 (by have := HB1.out.size; simp; omega) (Nat.le_refl _))⟩
            case measure => simp [intOf]; omega
    · obtain rfl : k = l.length := by omega
      obtain rfl := HT.out.2 hok.out
      rw [HE.out] at HO
      obtain ⟨AX, cX, rfl, hcX, hX⟩ := Ss.of HO.out
      have HX := Lib.hid hX
      clear hX HT HE hok HO
      go_wp2_with fail
      refine (HTK.out _ _ _ HX.out).mono ?_
      rintro e w2 ⟨rfl, hb2⟩
      go_wp2_with fail
      go_ret
      exact ⟨rfl, hb.out.trans (hb2.mono hb.out.size)⟩

set_option maxRecDepth 100000 in
set_option maxHeartbeats 4000000 in
theorem rmayV_any (A : Option Addr) (c : Nat) (l : List Mv) (w : World) (hn : l.length ≤ 100000) (h : Vs w A l) (hs : Shrt (l.map Mv.t)) (L : Bool) (hL : movB l = L) :
    Calls Try.prog 15 #[.slice A l.length c] w fun e w' => e = .returned (.bool L) ∧ Below w.heap.size w w' := by
  have HT := Lib.hid (mov_is l L hL)
  have H := Lib.hid h
  have HTK := Lib.hid (fun (A : Option Addr) (c : Nat) (W : World) (h : Ss W A (l.map Mv.t)) => rtasks_any A c (l.map Mv.t) W (by simp; omega) h hs _ rfl)
  have HNX : Hid (∀ k, k < l.length → (l.take (k + 1)).map Mv.t = (l.take k).map Mv.t ++ [(mv l k).t]) := Lib.hid (names_nextV l)
  have HE : Hid ((l.take l.length).map Mv.t = l.map Mv.t) := Lib.hid (by rw [List.take_length])
  have HZ0 : Hid ((l.take 0).map Mv.t = []) := Lib.hid rfl
  have HLN : Hid (∀ k, ((l.take k).map Mv.t).length ≤ k) := Lib.hid (fun k => by simp; omega)
  have HML : Hid ((l.map Mv.t).length = l.length) := Lib.hid (by simp)
  generalize tskB (l.map Mv.t) = TB at *
  generalize l.map Mv.t = TL at *
  clear h hs hL
  go_enter Try.func15, Try.ntmps15
  go_wp2_with fail
  go_loopw [3, 4] (fun v i wr => ∃ k : Nat, i = .int .i64 k ∧ k ≤ l.length ∧ Hid (F.Own wr w.heap.size v ((l.take k).map Mv.t)) ∧ Hid (∀ j, j < k → oneB (mv l j) = true) ∧ Hid (Below w.heap.size w wr)) (fun _ i _ => l.length - (intOf i).toNat)
  case atStart => exact ⟨0, rfl, Nat.zero_le _, Lib.hid (by rw [HZ0.out]; exact F.Own.nil _ _), Lib.hid (fun j hj => absurd hj (Nat.not_lt_zero j)), Lib.hid (Below.refl _ _)⟩
  case round =>
    obtain ⟨k, rfl, hk, HO, hok, hb⟩ := hrel
    by_cases hlt : k < l.length
    · have k0 : (0 : Int) ≤ (k : Int) := by omega
      have k1 : (k : Int) < (l.length : Int) := by omega
      obtain ⟨ad, rfl, hlo, h1⟩ := (H.out.on hb.out) k hlt
      obtain ⟨a0, a1, a2⟩ := h1.flat
      have HNX1 := Lib.hid (HNX.out k hlt)
      have HLN1 := Lib.hid (HLN.out k)
      have HF : Hid (oneB (mv l k) = false → L = false) := Lib.hid (HT.out.1 k hlt)
      have HOK : Hid (oneB (mv l k) = true → ∀ j, j < k + 1 → oneB (mv l j) = true) := Lib.hid (fun he j hj => by
        rcases Nat.lt_or_ge j k with hjk | hjk
        · exact hok.out j hjk
        · obtain rfl : j = k := by omega
          exact he)
      generalize (l.take k).map Mv.t = X at *
      generalize mv l k = x at *
      obtain ⟨xt, xf, xg⟩ := x
      simp only at a0 a1 a2 HNX1
      have HFL : Hid (xf < -1 ∨ 63 < xf ∨ xg < -1 ∨ 63 < xg ∨ xf = xg → oneB ⟨xt, xf, xg⟩ = false) := Lib.hid (fun h => by
        unfold oneB
        simp only
        cases e1 : mayB xf <;> cases e2 : mayB xg <;> simp
        have h1 := (mayB_iff xf).1 e1
        have h2 := (mayB_iff xg).1 e2
        omega)
      have HTL : Hid (-1 ≤ xf → xf ≤ 63 → -1 ≤ xg → xg ≤ 63 → ¬ xf = xg → oneB ⟨xt, xf, xg⟩ = true) := Lib.hid (fun h1 h2 h3 h4 h5 => by
        unfold oneB
        simp only
        rw [(mayB_iff xf).2 ⟨h1, h2⟩, (mayB_iff xg).2 ⟨h3, h4⟩, decide_eq_false h5]
        rfl)
      clear h1 hok HT HE
      have hb1 : Below w.heap.size w (wr.alloc (.cells #[.string xt, .int .i64 xf, .int .i64 xg] 39)) := hb.out.alloc hb.out.size _
      have HO1 := Lib.hid (ownS_alloc HO.out (.cells #[.string xt, .int .i64 xf, .int .i64 xg] 39))
      have HBU : Hid (BV (wr.alloc (.cells #[.string xt, .int .i64 xf, .int .i64 xg] 39)) wr.heap.size ⟨xt, xf, xg⟩) := Lib.hid (BV.new wr ⟨xt, xf, xg⟩ _)
      have HB1 := Lib.hid hb1
      clear hb1 HO
      go_upto_region 6 with (fail)
      generalize wr.alloc (.cells #[.string xt, .int .i64 xf, .int .i64 xg] 39) = w1 at *
      generalize wr.heap.size = b at *
      clear a0 a1 a2 hb hlo
      obtain ⟨b0, b1, b2⟩ := HBU.out
      simp only at b0 b1 b2
      by_cases h1 : xf < -1
      · have d1 : decide (xf < -1) = true := decide_eq_true h1
        have HL : Hid (L = false) := Lib.hid (HF.out (HFL.out (by omega)))
        obtain rfl := HL.out
        clear h1
        clear HF HOK HL HFL HTL
        go_wp2_with fail
        go_ret
        exact ⟨rfl, HB1.out⟩
      · have d1 : decide (xf < -1) = false := decide_eq_false h1
        by_cases h2 : 63 < xf
        · have d2 : decide (63 < xf) = true := decide_eq_true h2
          have HL : Hid (L = false) := Lib.hid (HF.out (HFL.out (by omega)))
          obtain rfl := HL.out
          clear h1 h2
          clear HF HOK HL HFL HTL
          go_wp2_with fail
          go_ret
          exact ⟨rfl, HB1.out⟩
        · have d2 : decide (63 < xf) = false := decide_eq_false h2
          by_cases h3 : xg < -1
          · have d3 : decide (xg < -1) = true := decide_eq_true h3
            have HL : Hid (L = false) := Lib.hid (HF.out (HFL.out (by omega)))
            obtain rfl := HL.out
            clear h1 h2 h3
            clear HF HOK HL HFL HTL
            go_wp2_with fail
            go_ret
            exact ⟨rfl, HB1.out⟩
          · have d3 : decide (xg < -1) = false := decide_eq_false h3
            by_cases h4 : 63 < xg
            · have d4 : decide (63 < xg) = true := decide_eq_true h4
              have HL : Hid (L = false) := Lib.hid (HF.out (HFL.out (by omega)))
              obtain rfl := HL.out
              clear h1 h2 h3 h4
              clear HF HOK HL HFL HTL
              go_wp2_with fail
              go_ret
              exact ⟨rfl, HB1.out⟩
            · have d4 : decide (63 < xg) = false := decide_eq_false h4
              by_cases h5 : xf = xg
              · have d5 : (xf == xg) = true := by simpa using h5
                have HL : Hid (L = false) := Lib.hid (HF.out (HFL.out (by omega)))
                obtain rfl := HL.out
                clear h1 h2 h3 h4 h5
                clear HF HOK HL HFL HTL
                go_wp2_with fail
                go_ret
                exact ⟨rfl, HB1.out⟩
              · have d5 : (xf == xg) = false := by simpa using h5
                have HOK1 := Lib.hid (HOK.out (HTL.out (by omega) (by omega) (by omega) (by omega) h5))
                clear HF HOK HFL HTL h1 h2 h3 h4 h5
                go_wp2_with (at_builtin; refine F.append_one rfl _ _ rfl w.heap.size u3 X rfl (ownS_alloc HO1.out _) w1.heap.size xt rfl (by go_simp) (by have := HLN1.out; omega) (by have := HB1.out.size; simp; omega) ?_; intro v' w5 ho5 hg5 _)
                go_roundw
                case rel => exact ⟨k + 1, by go_num, by omega, Lib.hid (by rw [HNX1.out]; exact ho5), HOK1, Lib.hid (below_grownS (HB1.out.alloc HB1.out.size _) (ownS_alloc HO1.out _) hg5 (by have := HB1.out.size; simp; omega) (Nat.le_refl _))⟩
                case measure => simp [intOf]; omega
    · obtain rfl : k = l.length := by omega
      obtain rfl := HT.out.2 hok.out
      rw [HE.out] at HO
      obtain ⟨AX, cX, rfl, hcX, hX⟩ := Ss.of HO.out
      have HX := Lib.hid hX
      clear hX HT HE hok HO
      go_wp2_with fail
      refine (HTK.out _ _ _ HX.out).mono ?_
      rintro e w2 ⟨rfl, hb2⟩
      go_wp2_with fail
      go_ret
      exact ⟨rfl, hb.out.trans (hb2.mono hb.out.size)⟩
end Go.Proofs.Ytdbndkccgpmkbaa
