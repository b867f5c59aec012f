/-
  The walks of Check, of the document's May, and of Of.
-/
import Derived.Test.YtdbndkccgpmkbaaTk
import Derived.Shelf.Abstract
namespace Go.Proofs.Ytdbndkccgpmkbaa
open Go.Sort Go.RowKit Go.Proofs.Ytdbndkccgpmkbaa.Pure

theorem one_at (w : World) (x : Int) (t : TypeId) : Has (w.alloc (.cells #[.int .i64 x] t)) w.heap.size (w.heap.size + 1) (some ⟨w.heap.size, 0, none⟩) [x] := by
  intro j hj
  have hj0 : j = 0 := by simp at hj; omega
  subst hj0
  exact ⟨_, rfl, Nat.le_refl _, Nat.lt_succ_self _, by go_simp⟩
/-- A node's number. -/
def nodB (n : Int) : Bool := nodesB [n]
theorem nodB_iff (n : Int) : nodB n = true ↔ 0 ≤ n ∧ n ≤ 63 := by
  unfold nodB
  simp only [nodesB, Bool.and_eq_true, numsB_iff, risesB_iff]
  constructor
  · rintro ⟨⟨h, _⟩, _⟩
    have := h n (by simp)
    omega
  · intro h
    exact ⟨⟨fun y hy => by rw [List.mem_singleton.1 hy]; omega, by simp⟩, fun i hi => by simp at hi⟩
/-- What is put that may be. -/
def putB (l : List Pu) : Bool := l.all (fun p => nodB p.n) && tskB (l.map Pu.t)
theorem ba_map (l : List Pu) {j : Nat} (h : j < l.length) : ba (l.map Pu.t) j = (pu l j).t := by
  rw [ba_lt _ (by simpa using h), pu_lt l h, List.getElem_map]
theorem names_next (l : List Pu) (k : Nat) (h : k < l.length) : (l.take (k + 1)).map Pu.t = (l.take k).map Pu.t ++ [(pu l k).t] := by
  rw [List.take_succ_eq_append_getElem h, List.map_append, pu_lt l h]
  rfl
theorem put_is (l : List Pu) (L : Bool) (hL : putB l = L) : (∀ k, k < l.length → nodB (pu l k).n = false → L = false) ∧ ((∀ k, k < l.length → nodB (pu l k).n = true) → L = tskB (l.map Pu.t)) := by
  subst hL
  constructor
  · intro k hk h
    unfold putB
    rw [pu_lt l hk] at h
    rw [List.all_eq_false.2 ⟨l[k], List.getElem_mem hk, by rw [h]; decide⟩, Bool.false_and]
  · intro h
    unfold putB
    rw [List.all_eq_true.2 fun p hp => ?_, Bool.true_and]
    obtain ⟨k, hk, rfl⟩ := List.mem_iff_getElem.1 hp
    have := h k hk
    rwa [pu_lt l hk] at this

set_option maxRecDepth 100000 in
set_option maxHeartbeats 4000000 in
theorem chkU_any (A : Option Addr) (c : Nat) (l : List Pu) (w : World) (hn : l.length ≤ 100000) (h : Us w A l) (hs : Shrt (l.map Pu.t)) (L : Bool) (hL : putB l = L) :
    Calls Try.prog 23 #[.slice A l.length c] w fun e w' => e = .returned (.int .i64 (okE L)) ∧ Below w.heap.size w w' := by
  have HT := Lib.hid (put_is l L hL)
  have H := Lib.hid h
  have HTK := Lib.hid (fun (A : Option Addr) (c : Nat) (W : World) (h : Ss W A (l.map Pu.t)) => tasks_any A c (l.map Pu.t) W (by simp; omega) h hs _ rfl)
  have HN := Lib.hid (fun (n : Int) (W : World) => nodes_t (some ⟨W.heap.size, 0, none⟩) 1 W.heap.size (W.heap.size + 1) [n] (W.alloc (.cells #[.int .i64 n] 3)) (by simp) (one_at W n _) (by simp) (nodB n) rfl)
  have HNX : Hid (∀ k, k < l.length → (l.take (k + 1)).map Pu.t = (l.take k).map Pu.t ++ [(pu l k).t]) := Lib.hid (names_next l)
  have HE : Hid ((l.take l.length).map Pu.t = l.map Pu.t) := Lib.hid (by rw [List.take_length])
  have HZ0 : Hid ((l.take 0).map Pu.t = []) := Lib.hid rfl
  have HLN : Hid (∀ k, ((l.take k).map Pu.t).length ≤ k) := Lib.hid (fun k => by simp; omega)
  have HML : Hid ((l.map Pu.t).length = l.length) := Lib.hid (by simp)
  generalize tskB (l.map Pu.t) = TB at *
  generalize l.map Pu.t = TL at *
  clear h hs hL
  go_enter Try.func23, Try.ntmps23
  go_wp2_with fail
  go_loopw [3, 9] (fun v i wr => ∃ k : Nat, i = .int .i64 k ∧ k ≤ l.length ∧ Hid (F.Own wr w.heap.size v ((l.take k).map Pu.t)) ∧ Hid (∀ j, j < k → nodB (pu l j).n = true) ∧ Hid (Below w.heap.size w wr)) (fun _ i _ => l.length - (intOf i).toNat)
  case atStart => exact ⟨0, rfl, Nat.zero_le _, Lib.hid (by rw [HZ0.out]; exact F.Own.nil _ _), Lib.hid (fun j hj => absurd hj (Nat.not_lt_zero j)), Lib.hid (Below.refl _ _)⟩
  case round =>
    obtain ⟨k, rfl, hk, HO, hok, hb⟩ := hrel
    by_cases hlt : k < l.length
    · have k0 : (0 : Int) ≤ (k : Int) := by omega
      have k1 : (k : Int) < (l.length : Int) := by omega
      obtain ⟨ad, rfl, hlo, h1⟩ := (H.out.on hb.out) k hlt
      obtain ⟨a0, a1⟩ := h1.flat
      have HNX1 := Lib.hid (HNX.out k hlt)
      have HLN1 := Lib.hid (HLN.out k)
      have HF : Hid (nodB (pu l k).n = false → L = false) := Lib.hid (HT.out.1 k hlt)
      have HOK : Hid (nodB (pu l k).n = true → ∀ j, j < k + 1 → nodB (pu l j).n = true) := Lib.hid (fun he j hj => by
        rcases Nat.lt_or_ge j k with hjk | hjk
        · exact hok.out j hjk
        · obtain rfl : j = k := by omega
          exact he)
      have HN1 := Lib.hid (fun W => HN.out (pu l k).n W)
      generalize (l.take k).map Pu.t = X at *
      generalize pu l k = x at *
      obtain ⟨xt, xn⟩ := x
      simp only at a0 a1 HNX1 HF HOK HN1
      clear h1 hok HT HE
      have hb1 : Below w.heap.size w (wr.alloc (.cells #[.string xt, .int .i64 xn] 53)) := hb.out.alloc hb.out.size _
      have HO1 := Lib.hid (ownS_alloc HO.out (.cells #[.string xt, .int .i64 xn] 53))
      have HBU : Hid (Bu (wr.alloc (.cells #[.string xt, .int .i64 xn] 53)) wr.heap.size ⟨xt, xn⟩) := Lib.hid (Bu.new wr ⟨xt, xn⟩ _)
      have HB1 := Lib.hid hb1
      clear hb1 HO
      go_upto_region 5 with (fail)
      generalize wr.alloc (.cells #[.string xt, .int .i64 xn] 53) = w1 at *
      generalize wr.heap.size = b at *
      clear a0 a1 hb hlo
      have b1 := HBU.out.2
      rcases hN : nodB xn with _ | _
      · rw [hN] at HN1
        obtain rfl := HF.out hN
        simp only at b1
        clear HF HOK hN
        go_wp2_with fail
        refine (HN1.out _).mono ?_
        rintro e w2 ⟨rfl, hb2⟩
        have HB2 : Hid (Below w.heap.size w w2) := Lib.hid ((HB1.out.alloc HB1.out.size _).trans (hb2.mono (by have := HB1.out.size; simp; omega)))
        clear hb2
        have e1 : okE false = 1 := rfl
        go_wp2_with fail
        go_ret
        exact ⟨rfl, HB2.out⟩
      · rw [hN] at HN1
        have HOK1 := Lib.hid (HOK.out hN)
        simp only at b1
        clear HF HOK hN
        go_wp2_with fail
        refine (HN1.out _).mono ?_
        rintro e w2 ⟨rfl, hb2⟩
        have hb12 : Below w1.heap.size w1 w2 := ((Below.refl _ w1).alloc (Nat.le_refl _) _).trans (hb2.mono (by simp))
        have HB2 : Hid (Below w.heap.size w w2) := Lib.hid (HB1.out.trans (hb12.mono HB1.out.size))
        have HO2 := Lib.hid (HO1.out.on hb12)
        obtain ⟨c0, c1⟩ := HBU.out.on hb12
        simp only at c0
        clear hb2 hb12 HO1 HB1 c1 b1
        have e1 : okE true = 0 := rfl
        go_wp2_with (at_builtin; refine F.append_one rfl _ _ rfl w.heap.size u3 X rfl (ownS_alloc HO2.out _) w2.heap.size xt rfl (by go_simp) (by have := HLN1.out; omega) (by have := HB2.out.size; simp; omega) ?_; intro v' w5 ho5 hg5 _)
        go_roundw
        case rel => exact ⟨k + 1, by go_num, by omega, Lib.hid (by rw [HNX1.out]; exact ho5), HOK1, Lib.hid (below_grownS (HB2.out.alloc HB2.out.size _) (ownS_alloc HO2.out _) hg5 (by have := HB2.out.size; simp; omega) (Nat.le_refl _))⟩
        case measure => simp [intOf]; omega
    · obtain rfl : k = l.length := by omega
      obtain rfl := HT.out.2 hok.out
      rw [HE.out] at HO
      obtain ⟨AX, cX, rfl, hcX, hX⟩ := Ss.of HO.out
      have HX := Lib.hid hX
      clear hX HT HE hok HO
      go_wp2_with fail
      refine (HTK.out _ _ _ HX.out).mono ?_
      rintro e w2 ⟨rfl, hb2⟩
      go_wp2_with fail
      go_ret
      exact ⟨rfl, hb.out.trans (hb2.mono hb.out.size)⟩

set_option maxRecDepth 100000 in
set_option maxHeartbeats 4000000 in
theorem rmay_any (A : Option Addr) (c : Nat) (l : List Pu) (w : World) (hn : l.length ≤ 100000) (h : Us w A l) (hs : Shrt (l.map Pu.t)) (L : Bool) (hL : putB l = L) :
    Calls Try.prog 16 #[.slice A l.length c] w fun e w' => e = .returned (.bool L) ∧ Below w.heap.size w w' := by
  have HT := Lib.hid (put_is l L hL)
  have H := Lib.hid h
  have HTK := Lib.hid (fun (A : Option Addr) (c : Nat) (W : World) (h : Ss W A (l.map Pu.t)) => rtasks_any A c (l.map Pu.t) W (by simp; omega) h hs _ rfl)
  have HNX : Hid (∀ k, k < l.length → (l.take (k + 1)).map Pu.t = (l.take k).map Pu.t ++ [(pu l k).t]) := Lib.hid (names_next l)
  have HE : Hid ((l.take l.length).map Pu.t = l.map Pu.t) := Lib.hid (by rw [List.take_length])
  have HZ0 : Hid ((l.take 0).map Pu.t = []) := Lib.hid rfl
  have HLN : Hid (∀ k, ((l.take k).map Pu.t).length ≤ k) := Lib.hid (fun k => by simp; omega)
  have HML : Hid ((l.map Pu.t).length = l.length) := Lib.hid (by simp)
  generalize tskB (l.map Pu.t) = TB at *
  generalize l.map Pu.t = TL at *
  clear h hs hL
  go_enter Try.func16, Try.ntmps16
  go_wp2_with fail
  go_loopw [3, 4] (fun v i wr => ∃ k : Nat, i = .int .i64 k ∧ k ≤ l.length ∧ Hid (F.Own wr w.heap.size v ((l.take k).map Pu.t)) ∧ Hid (∀ j, j < k → nodB (pu l j).n = true) ∧ Hid (Below w.heap.size w wr)) (fun _ i _ => l.length - (intOf i).toNat)
  case atStart => exact ⟨0, rfl, Nat.zero_le _, Lib.hid (by rw [HZ0.out]; exact F.Own.nil _ _), Lib.hid (fun j hj => absurd hj (Nat.not_lt_zero j)), Lib.hid (Below.refl _ _)⟩
  case round =>
    obtain ⟨k, rfl, hk, HO, hok, hb⟩ := hrel
    by_cases hlt : k < l.length
    · have k0 : (0 : Int) ≤ (k : Int) := by omega
      have k1 : (k : Int) < (l.length : Int) := by omega
      obtain ⟨ad, rfl, hlo, h1⟩ := (H.out.on hb.out) k hlt
      obtain ⟨a0, a1⟩ := h1.flat
      have HNX1 := Lib.hid (HNX.out k hlt)
      have HLN1 := Lib.hid (HLN.out k)
      have HF : Hid (nodB (pu l k).n = false → L = false) := Lib.hid (HT.out.1 k hlt)
      have HOK : Hid (nodB (pu l k).n = true → ∀ j, j < k + 1 → nodB (pu l j).n = true) := Lib.hid (fun he j hj => by
        rcases Nat.lt_or_ge j k with hjk | hjk
        · exact hok.out j hjk
        · obtain rfl : j = k := by omega
          exact he)
      generalize (l.take k).map Pu.t = X at *
      generalize pu l k = x at *
      obtain ⟨xt, xn⟩ := x
      simp only at a0 a1 HNX1 HF HOK
      have HI := Lib.hid (nodB_iff xn)
      clear h1 hok HT HE
      by_cases hN : 0 ≤ xn ∧ xn ≤ 63
      · have HOK1 := Lib.hid (HOK.out (HI.out.2 hN))
        have d1 : decide (xn < 0) = false := decide_eq_false (by omega)
        have d2 : decide (63 < xn) = false := decide_eq_false (by omega)
        clear HF HOK HI hN
        go_upto_region 7 with (fail)
        go_wp2_with (at_builtin; refine F.append_one rfl _ _ rfl w.heap.size u3 X rfl (ownS_alloc HO.out _) wr.heap.size xt rfl (by go_simp) (by have := HLN1.out; omega) (by have := hb.out.size; simp; omega) ?_; intro v' w5 ho5 hg5 _)
        go_roundw
        case rel => exact ⟨k + 1, by go_num, by omega, Lib.hid (by rw [HNX1.out]; exact ho5), HOK1, Lib.hid (below_grownS (hb.out.alloc hb.out.size _) (ownS_alloc HO.out _) hg5 (by have := hb.out.size; simp; omega) (Nat.le_refl _))⟩
        case measure => simp [intOf]; omega
      · obtain rfl := HF.out (by cases hz : nodB xn with | false => rfl | true => exact absurd (HI.out.1 hz) hN)
        have hN' : xn < 0 ∨ 63 < xn := by omega
        clear HF HOK HI hN
        by_cases h1 : xn < 0
        · have d1 : decide (xn < 0) = true := decide_eq_true h1
          clear hN'
          go_wp2_with fail
          go_ret
          exact ⟨rfl, hb.out⟩
        · have d1 : decide (xn < 0) = false := decide_eq_false h1
          have d2 : decide (63 < xn) = true := decide_eq_true (by omega)
          clear hN' h1
          go_wp2_with fail
          go_ret
          exact ⟨rfl, hb.out⟩
    · obtain rfl : k = l.length := by omega
      obtain rfl := HT.out.2 hok.out
      rw [HE.out] at HO
      obtain ⟨AX, cX, rfl, hcX, hX⟩ := Ss.of HO.out
      have HX := Lib.hid hX
      clear hX HT HE hok HO
      go_wp2_with fail
      refine (HTK.out _ _ _ HX.out).mono ?_
      rintro e w2 ⟨rfl, hb2⟩
      go_wp2_with fail
      go_ret
      exact ⟨rfl, hb.out.trans (hb2.mono hb.out.size)⟩
def idxR {α : Type} (p : α → Bool) (q : List α) : Int := if q.findIdx p < q.length then ((q.findIdx p : Nat) : Int) else -1
end Go.Proofs.Ytdbndkccgpmkbaa
