/-
  The walks of Check, of the document's May, and of Of.
-/
import Derived.Test.YthcjjogomknddaaDoorTk
import Derived.Shelf.Abstract
namespace Go.Proofs.YthcjjogomknddaaDoor
open Go.Sort Go.RowKit Go.Proofs.YthcjjogomknddaaDoor.Pure

theorem one_at (w : World) (x : Int) (t : TypeId) : Has (w.alloc (.cells #[.int .i64 x] t)) w.heap.size (w.heap.size + 1) (some ⟨w.heap.size, 0, none⟩) [x] := by
  intro j hj
  have hj0 : j = 0 := by simp at hj; omega
  subst hj0
  exact ⟨_, rfl, Nat.le_refl _, Nat.lt_succ_self _, by go_simp⟩
/-- A node's number. -/
def nodB (n : Int) : Bool := nodesB [n]
theorem nodB_iff (n : Int) : nodB n = true ↔ 0 ≤ n ∧ n ≤ 63 := by
  unfold nodB
  simp only [nodesB, Bool.and_eq_true, numsB_iff, risesB_iff]
  constructor
  · rintro ⟨⟨h, _⟩, _⟩
    have := h n (by simp)
    omega
  · intro h
    exact ⟨⟨fun y hy => by rw [List.mem_singleton.1 hy]; omega, by simp⟩, fun i hi => by simp at hi⟩
/-- What is put that may be. -/
def putB (l : List Pu) : Bool := l.all (fun p => nodB p.n) && tskB (l.map Pu.t)
theorem ba_map (l : List Pu) {j : Nat} (h : j < l.length) : ba (l.map Pu.t) j = (pu l j).t := by
  rw [ba_lt _ (by simpa using h), pu_lt l h, List.getElem_map]
theorem names_next (l : List Pu) (k : Nat) (h : k < l.length) : (l.take (k + 1)).map Pu.t = (l.take k).map Pu.t ++ [(pu l k).t] := by
  rw [List.take_succ_eq_append_getElem h, List.map_append, pu_lt l h]
  rfl
theorem put_is (l : List Pu) (L : Bool) (hL : putB l = L) : (∀ k, k < l.length → nodB (pu l k).n = false → L = false) ∧ ((∀ k, k < l.length → nodB (pu l k).n = true) → L = tskB (l.map Pu.t)) := by
  subst hL
  constructor
  · intro k hk h
    unfold putB
    rw [pu_lt l hk] at h
    rw [List.all_eq_false.2 ⟨l[k], List.getElem_mem hk, by rw [h]; decide⟩, Bool.false_and]
  · intro h
    unfold putB
    rw [List.all_eq_true.2 fun p hp => ?_, Bool.true_and]
    obtain ⟨k, hk, rfl⟩ := List.mem_iff_getElem.1 hp
    have := h k hk
    rwa [pu_lt l hk] at this

set_option maxRecDepth 100000 in
set_option maxHeartbeats 4000000 in
theorem chkU_any (A : Option Addr) (c : Nat) (l : List Pu) (w : World) (hn : l.length ≤ 100000) (h : Us w A l) (hs : Shrt (l.map Pu.t)) (L : Bool) (hL : putB l = L) :
    Calls Tryd.prog 17 #[.slice A l.length c] w fun e w' => e = .returned (.int .i64 (okE L)) ∧ Below w.heap.size w w' := by
  have HT := Lib.hid (put_is l L hL)
  have H := Lib.hid h
  have HTK := Lib.hid (fun (A : Option Addr) (c : Nat) (W : World) (h : Ss W A (l.map Pu.t)) => tasks_any A c (l.map Pu.t) W (by simp; omega) h hs _ rfl)
  have HN := Lib.hid (fun (n : Int) (W : World) => nodes_t (some ⟨W.heap.size, 0, none⟩) 1 W.heap.size (W.heap.size + 1) [n] (W.alloc (.cells #[.int .i64 n] 3)) (by simp) (one_at W n _) (by simp) (nodB n) rfl)
  have HNX : Hid (∀ k, k < l.length → (l.take (k + 1)).map Pu.t = (l.take k).map Pu.t ++ [(pu l k).t]) := Lib.hid (names_next l)
  have HE : Hid ((l.take l.length).map Pu.t = l.map Pu.t) := Lib.hid (by rw [List.take_length])
  have HZ0 : Hid ((l.take 0).map Pu.t = []) := Lib.hid rfl
  have HLN : Hid (∀ k, ((l.take k).map Pu.t).length ≤ k) := Lib.hid (fun k => by simp; omega)
  have HML : Hid ((l.map Pu.t).length = l.length) := Lib.hid (by simp)
  generalize tskB (l.map Pu.t) = TB at *
  generalize l.map Pu.t = TL at *
  clear h hs hL
  go_enter Tryd.func17, Tryd.ntmps17
  go_wp2_with fail
  go_loopw [3, 9] (fun v i wr => ∃ k : Nat, i = .int .i64 k ∧ k ≤ l.length ∧ Hid (F.Own wr w.heap.size v ((l.take k).map Pu.t)) ∧ Hid (∀ j, j < k → nodB (pu l j).n = true) ∧ Hid (Below w.heap.size w wr)) (fun _ i _ => l.length - (intOf i).toNat)
  case atStart => exact ⟨0, rfl, Nat.zero_le _, Lib.hid (by rw [HZ0.out]; exact F.Own.nil _ _), Lib.hid (fun j hj => absurd hj (Nat.not_lt_zero j)), Lib.hid (Below.refl _ _)⟩
  case round =>
    obtain ⟨k, rfl, hk, HO, hok, hb⟩ := hrel
    by_cases hlt : k < l.length
    · have k0 : (0 : Int) ≤ (k : Int) := by omega
      have k1 : (k : Int) < (l.length : Int) := by omega
      obtain ⟨ad, rfl, hlo, h1⟩ := (H.out.on hb.out) k hlt
      obtain ⟨a0, a1⟩ := h1.flat
      have HNX1 := Lib.hid (HNX.out k hlt)
      have HLN1 := Lib.hid (HLN.out k)
      have HF : Hid (nodB (pu l k).n = false → L = false) := Lib.hid (HT.out.1 k hlt)
      have HOK : Hid (nodB (pu l k).n = true → ∀ j, j < k + 1 → nodB (pu l j).n = true) := Lib.hid (fun he j hj => by
        rcases Nat.lt_or_ge j k with hjk | hjk
        · exact hok.out j hjk
        · obtain rfl : j = k := by omega
          exact he)
      have HN1 := Lib.hid (fun W => HN.out (pu l k).n W)
      generalize (l.take k).map Pu.t = X at *
      generalize pu l k = x at *
      obtain ⟨xt, xn⟩ := x
      simp only at a0 a1 HNX1 HF HOK HN1
      clear h1 hok HT HE
      have hb1 : Below w.heap.size w (wr.alloc (.cells #[.string xt, .int .i64 xn] 36)) := hb.out.alloc hb.out.size _
      have HO1 := Lib.hid (ownS_alloc HO.out (.cells #[.string xt, .int .i64 xn] 36))
      have HBU : Hid (Bu (wr.alloc (.cells #[.string xt, .int .i64 xn] 36)) wr.heap.size ⟨xt, xn⟩) := Lib.hid (Bu.new wr ⟨xt, xn⟩ _)
      have HB1 := Lib.hid hb1
      clear hb1 HO
      go_upto_region 5 with (fail)
      generalize wr.alloc (.cells #[.string xt, .int .i64 xn] 36) = w1 at *
      generalize wr.heap.size = b at *
      clear a0 a1 hb hlo
      have b1 := HBU.out.2
      rcases hN : nodB xn with _ | _
      · rw [hN] at HN1
        obtain rfl := HF.out hN
        simp only at b1
        clear HF HOK hN
        go_wp2_with fail
        refine (HN1.out _).mono ?_
        rintro e w2 ⟨rfl, hb2⟩
        have HB2 : Hid (Below w.heap.size w w2) := Lib.hid ((HB1.out.alloc HB1.out.size _).trans (hb2.mono (by have := HB1.out.size; simp; omega)))
        clear hb2
        have e1 : okE false = 1 := rfl
        go_wp2_with fail
        go_ret
        exact ⟨rfl, HB2.out⟩
      · rw [hN] at HN1
        have HOK1 := Lib.hid (HOK.out hN)
        simp only at b1
        clear HF HOK hN
        go_wp2_with fail
        refine (HN1.out _).mono ?_
        rintro e w2 ⟨rfl, hb2⟩
        have hb12 : Below w1.heap.size w1 w2 := ((Below.refl _ w1).alloc (Nat.le_refl _) _).trans (hb2.mono (by simp))
        have HB2 : Hid (Below w.heap.size w w2) := Lib.hid (HB1.out.trans (hb12.mono HB1.out.size))
        have HO2 := Lib.hid (HO1.out.on hb12)
        obtain ⟨c0, c1⟩ := HBU.out.on hb12
        simp only at c0
        clear hb2 hb12 HO1 HB1 c1 b1
        have e1 : okE true = 0 := rfl
        go_wp2_with (at_builtin; refine F.append_one rfl _ _ rfl w.heap.size u3 X rfl (ownS_alloc HO2.out _) w2.heap.size xt rfl (by go_simp) (by have := HLN1.out; omega) (by have := HB2.out.size; simp; omega) ?_; intro v' w5 ho5 hg5 _)
        go_roundw
        case rel => exact ⟨k + 1, by go_num, by omega, Lib.hid (by rw [HNX1.out]; exact ho5), HOK1, Lib.hid (below_grownS (HB2.out.alloc HB2.out.size _) (ownS_alloc HO2.out _) hg5 (by have := HB2.out.size; simp; omega) (Nat.le_refl _))⟩
        case measure => simp [intOf]; omega
    · obtain rfl : k = l.length := by omega
      obtain rfl := HT.out.2 hok.out
      rw [HE.out] at HO
      obtain ⟨AX, cX, rfl, hcX, hX⟩ := Ss.of HO.out
      have HX := Lib.hid hX
      clear hX HT HE hok HO
      go_wp2_with fail
      refine (HTK.out _ _ _ HX.out).mono ?_
      rintro e w2 ⟨rfl, hb2⟩
      go_wp2_with fail
      go_ret
      exact ⟨rfl, hb.out.trans (hb2.mono hb.out.size)⟩

set_option maxRecDepth 100000 in
set_option maxHeartbeats 4000000 in
theorem rmay_any (A : Option Addr) (c : Nat) (l : List Pu) (w : World) (hn : l.length ≤ 100000) (h : Us w A l) (hs : Shrt (l.map Pu.t)) (L : Bool) (hL : putB l = L) :
    Calls Tryd.prog 16 #[.slice A l.length c] w fun e w' => e = .returned (.bool L) ∧ Below w.heap.size w w' := by
  have HT := Lib.hid (put_is l L hL)
  have H := Lib.hid h
  have HTK := Lib.hid (fun (A : Option Addr) (c : Nat) (W : World) (h : Ss W A (l.map Pu.t)) => rtasks_any A c (l.map Pu.t) W (by simp; omega) h hs _ rfl)
  have HNX : Hid (∀ k, k < l.length → (l.take (k + 1)).map Pu.t = (l.take k).map Pu.t ++ [(pu l k).t]) := Lib.hid (names_next l)
  have HE : Hid ((l.take l.length).map Pu.t = l.map Pu.t) := Lib.hid (by rw [List.take_length])
  have HZ0 : Hid ((l.take 0).map Pu.t = []) := Lib.hid rfl
  have HLN : Hid (∀ k, ((l.take k).map Pu.t).length ≤ k) := Lib.hid (fun k => by simp; omega)
  have HML : Hid ((l.map Pu.t).length = l.length) := Lib.hid (by simp)
  generalize tskB (l.map Pu.t) = TB at *
  generalize l.map Pu.t = TL at *
  clear h hs hL
  go_enter Tryd.func16, Tryd.ntmps16
  go_wp2_with fail
  go_loopw [3, 4] (fun v i wr => ∃ k : Nat, i = .int .i64 k ∧ k ≤ l.length ∧ Hid (F.Own wr w.heap.size v ((l.take k).map Pu.t)) ∧ Hid (∀ j, j < k → nodB (pu l j).n = true) ∧ Hid (Below w.heap.size w wr)) (fun _ i _ => l.length - (intOf i).toNat)
  case atStart => exact ⟨0, rfl, Nat.zero_le _, Lib.hid (by rw [HZ0.out]; exact F.Own.nil _ _), Lib.hid (fun j hj => absurd hj (Nat.not_lt_zero j)), Lib.hid (Below.refl _ _)⟩
  case round =>
    obtain ⟨k, rfl, hk, HO, hok, hb⟩ := hrel
    by_cases hlt : k < l.length
    · have k0 : (0 : Int) ≤ (k : Int) := by omega
      have k1 : (k : Int) < (l.length : Int) := by omega
      obtain ⟨ad, rfl, hlo, h1⟩ := (H.out.on hb.out) k hlt
      obtain ⟨a0, a1⟩ := h1.flat
      have HNX1 := Lib.hid (HNX.out k hlt)
      have HLN1 := Lib.hid (HLN.out k)
      have HF : Hid (nodB (pu l k).n = false → L = false) := Lib.hid (HT.out.1 k hlt)
      have HOK : Hid (nodB (pu l k).n = true → ∀ j, j < k + 1 → nodB (pu l j).n = true) := Lib.hid (fun he j hj => by
        rcases Nat.lt_or_ge j k with hjk | hjk
        · exact hok.out j hjk
        · obtain rfl : j = k := by omega
          exact he)
      generalize (l.take k).map Pu.t = X at *
      generalize pu l k = x at *
      obtain ⟨xt, xn⟩ := x
      simp only at a0 a1 HNX1 HF HOK
      have HI := Lib.hid (nodB_iff xn)
      clear h1 hok HT HE
      by_cases hN : 0 ≤ xn ∧ xn ≤ 63
      · have HOK1 := Lib.hid (HOK.out (HI.out.2 hN))
        have d1 : decide (xn < 0) = false := decide_eq_false (by omega)
        have d2 : decide (63 < xn) = false := decide_eq_false (by omega)
        clear HF HOK HI hN
        go_upto_region 7 with (fail)
        go_wp2_with (at_builtin; refine F.append_one rfl _ _ rfl w.heap.size u3 X rfl (ownS_alloc HO.out _) wr.heap.size xt rfl (by go_simp) (by have := HLN1.out; omega) (by have := hb.out.size; simp; omega) ?_; intro v' w5 ho5 hg5 _)
        go_roundw
        case rel => exact ⟨k + 1, by go_num, by omega, Lib.hid (by rw [HNX1.out]; exact ho5), HOK1, Lib.hid (below_grownS (hb.out.alloc hb.out.size _) (ownS_alloc HO.out _) hg5 (by have := hb.out.size; simp; omega) (Nat.le_refl _))⟩
        case measure => simp [intOf]; omega
      · obtain rfl := HF.out (by cases hz : nodB xn with | false => rfl | true => exact absurd (HI.out.1 hz) hN)
        have hN' : xn < 0 ∨ 63 < xn := by omega
        clear HF HOK HI hN
        by_cases h1 : xn < 0
        · have d1 : decide (xn < 0) = true := decide_eq_true h1
          clear hN'
          go_wp2_with fail
          go_ret
          exact ⟨rfl, hb.out⟩
        · have d1 : decide (xn < 0) = false := decide_eq_false h1
          have d2 : decide (63 < xn) = true := decide_eq_true (by omega)
          clear hN' h1
          go_wp2_with fail
          go_ret
          exact ⟨rfl, hb.out⟩
    · obtain rfl : k = l.length := by omega
      obtain rfl := HT.out.2 hok.out
      rw [HE.out] at HO
      obtain ⟨AX, cX, rfl, hcX, hX⟩ := Ss.of HO.out
      have HX := Lib.hid hX
      clear hX HT HE hok HO
      go_wp2_with fail
      refine (HTK.out _ _ _ HX.out).mono ?_
      rintro e w2 ⟨rfl, hb2⟩
      go_wp2_with fail
      go_ret
      exact ⟨rfl, hb.out.trans (hb2.mono hb.out.size)⟩
def idxR {α : Type} (p : α → Bool) (q : List α) : Int := if q.findIdx p < q.length then ((q.findIdx p : Nat) : Int) else -1
theorem idxR_any {α : Type} (p : α → Bool) (q : List α) : decide (0 ≤ idxR p q) = q.any p := by
  unfold idxR
  rw [Bool.eq_iff_iff, decide_eq_true_iff, List.any_eq_true]
  constructor
  · intro h
    split at h
    · rename_i h1
      exact ⟨_, List.getElem_mem h1, List.findIdx_getElem⟩
    · omega
  · intro h
    rw [if_pos (List.findIdx_lt_length_of_exists h)]
    omega
set_option maxRecDepth 100000 in
set_option maxHeartbeats 1000000 in
theorem indexU_of (F c : Nat) (p : Pu → Bool) (A : Option Addr) (d : Nat) (q : List Pu) (w : World) (hn : q.length ≤ 100000) (h : Us w A q) (hE : ∀ (args : Array Value) (w : World), (callFunc F args).run Tryd.prog w = .ok (.enter F args) w)
    (hC : ∀ (W : World) (x : Pu), Below w.heap.size w W → x ∈ q → Calls Tryd.prog F #[.agg #[.string x.t, .int .i64 x.n], .pointer (some ⟨c, 0, none⟩)] W fun e w' => e = .returned (.bool (p x)) ∧ Below W.heap.size W w') :
    Calls Tryd.prog 30 #[.slice A q.length d, .func (.func F) #[] #[.pointer (some ⟨c, 0, none⟩)]] w fun e w' => e = .returned (.int .i64 (idxR p q)) ∧ Below w.heap.size w w' := by
  have H := Lib.hid h
  have HCC := Lib.hid hC
  have hE' := hE
  have HL : Hid (∀ j, j < q.findIdx p → ∀ h : j < q.length, p q[j] = false) := Lib.hid (fun j h _ => List.not_of_lt_findIdx h)
  have HLE : Hid (q.findIdx p ≤ q.length) := Lib.hid List.findIdx_le_length
  have HAT : Hid (∀ j, j = q.findIdx p → ∀ h : j < q.length, p q[j] = true) := Lib.hid (fun j e h => by subst e; exact List.findIdx_getElem)
  obtain ⟨R, hR⟩ : ∃ R : Int, R = idxR p q := ⟨_, rfl⟩
  have HR1 : Hid (q.findIdx p < q.length → R = ((q.findIdx p : Nat) : Int)) := Lib.hid (fun h => by rw [hR, idxR, if_pos h])
  have HR2 : Hid (¬q.findIdx p < q.length → R = -1) := Lib.hid (fun h => by rw [hR, idxR, if_neg h])
  rw [← hR]
  clear hR h hC hE
  obtain ⟨n, hnz⟩ : ∃ n, q.findIdx p = n := ⟨_, rfl⟩
  simp only [hnz] at HL HLE HAT HR1 HR2
  clear hnz
  go_enter Tryd.func30, Tryd.ntmps30
  go_wp2_with fail
  go_loopw [8] (fun i wr => ∃ k : Nat, i = .int .i64 k ∧ k ≤ n ∧ Hid (Below w.heap.size w wr)) (fun i _ => q.length - (intOf i).toNat)
  case atStart => exact ⟨0, rfl, Nat.zero_le _, Lib.hid (Below.refl _ _)⟩
  case round =>
    obtain ⟨wq, ewq⟩ : ∃ wq, wq = wr := ⟨_, rfl⟩
    subst ewq
    obtain ⟨k, rfl, hk, hb⟩ := hrel
    by_cases hlt : k < q.length
    · obtain ⟨ad, rfl, hlo, h1⟩ := (H.out.on hb.out) k hlt
      have k0 : (0 : Int) ≤ (k : Int) := by omega
      have k1 : (k : Int) < (q.length : Int) := by omega
      have e0 : decide ((k : Int) < (q.length : Int)) = true := by simpa using k1
      have hacc : pu q k = q[k] := pu_lt q hlt
      obtain ⟨x, hx⟩ : ∃ x, q[k] = x := ⟨_, rfl⟩
      have hxm : x ∈ q := hx ▸ List.getElem_mem hlt
      rw [hacc, hx] at h1
      obtain ⟨xt, xn⟩ := x
      obtain ⟨a0, a1⟩ := h1.flat
      simp only at a0 a1
      have HC := Lib.hid (HCC.out wq ⟨xt, xn⟩ hb.out hxm)
      have hL0 : k < n → p ⟨xt, xn⟩ = false := fun h => hx ▸ HL.out k h hlt
      have hA0 : ∀ e : k = n, p ⟨xt, xn⟩ = true := fun e => hx ▸ HAT.out k e hlt
      clear hacc hx hxm h1
      rcases hz : p ⟨xt, xn⟩ with _ | _
      · have hkp : k + 1 ≤ n := by
          rcases Nat.lt_or_ge k n with h | h
          · exact h
          · have := hA0 (by omega)
            rw [hz] at this; cases this
        rw [hz] at HC
        clear hz hk hL0 hA0
        
        go_wp2_with (go_at_fn F; refine HC.out.mono ?_; rintro e w2 ⟨rfl, hb2⟩)
        have HB2 : Hid (Below w.heap.size w w2) := Lib.hid (hb.out.trans (hb2.mono hb.out.size))
        clear hb2 a0 a1 hb HC
        go_roundw
        case rel => exact ⟨k + 1, by go_num, hkp, HB2⟩
        case measure => simp [intOf]; omega
      · obtain rfl : k = n := by
          rcases Nat.lt_or_ge k n with h | h
          · have := hL0 h
            rw [hz] at this; cases this
          · omega
        obtain rfl := HR1.out hlt
        rw [hz] at HC
        clear hz hL0 hA0
        
        go_wp2_with (go_at_fn F; refine HC.out.mono ?_; rintro e w2 ⟨rfl, hb2⟩)
        have HB2 : Hid (Below w.heap.size w w2) := Lib.hid (hb.out.trans (hb2.mono hb.out.size))
        clear hb2 a0 a1 hb HC
        go_ret
        exact ⟨rfl, HB2.out⟩
    · have hp := HLE.out
      obtain rfl : k = n := by omega
      obtain rfl := HR2.out hlt
      have e0 : decide ((k : Int) < (q.length : Int)) = false := by simp; omega
      clear hp
      go_wp2_with fail
      go_ret
      exact ⟨rfl, hb.out⟩

/-- What the closure looks at. -/
theorem hit_any (x : Pu) (task : ByteArray) (c : Nat) (w : World) (h : w.cell? ⟨c, 0, none⟩ = some (.string task)) :
    Calls Tryd.prog 31 #[.agg #[.string x.t, .int .i64 x.n], .pointer (some ⟨c, 0, none⟩)] w fun e w' => e = .returned (.bool (decide (x.t = task))) ∧ Below w.heap.size w w' := by
  have hlt : c < w.heap.size := World.block_lt_of_cell? w _ h
  have HE := Lib.hid (eq_is x.t task)
  generalize decide (x.t = task) = T at *
  obtain ⟨xt, xn⟩ := x
  simp only at HE
  go_enter Tryd.func31, Tryd.ntmps31
  go_wp2_with fail
  go_ret
  refine ⟨?_, (Below.refl _ _).alloc (Nat.le_refl _) _⟩
  rw [← HE.out]
  rfl
/-- A task's node. -/
def ofI (l : List Pu) (task : ByteArray) : Int := if l.findIdx (fun p => decide (p.t = task)) < l.length then (pu l (l.findIdx fun p => decide (p.t = task))).n else 0
def ofE (l : List Pu) (task : ByteArray) : Int := if putB l then (if l.findIdx (fun p => decide (p.t = task)) < l.length then 0 else 6) else 1
theorem ent_of : (∀ (args : Array Value) (w : World), (callFunc 31 args).run Tryd.prog w = .ok (.enter 31 args) w) := enters_of Tryd.func31 (by kernel_rfl) rfl

set_option maxRecDepth 100000 in
set_option maxHeartbeats 4000000 in
theorem of_any (A : Option Addr) (c : Nat) (l : List Pu) (task : ByteArray) (w : World) (hn : l.length ≤ 100000) (h : Us w A l) (hs : Shrt (l.map Pu.t)) (n e : Int) (he : ofE l task = e) (hi : (if e = 0 then ofI l task else 0) = n) :
    Calls Tryd.prog 15 #[.slice A l.length c, .string task] w fun r w' => r = .returned (.tuple #[.int .i64 n, .int .i64 e]) ∧ Below w.heap.size w w' := by
  have H := Lib.hid h
  have HCK := Lib.hid (fun (W : World) (h : Us W A l) => chkU_any A c l W hn h hs _ rfl)
  have HI := Lib.hid (fun (W : World) (b : Nat) (h : Us W A l) (hb : W.cell? ⟨b, 0, none⟩ = some (.string task)) => indexU_of 31 b (fun p => decide (p.t = task)) A c l W hn h ent_of (fun W' y hb' _ => hit_any y task b W' ((hb'.cell (World.block_lt_of_cell? W _ hb)).trans hb)))
  obtain ⟨q, hq⟩ : ∃ q, l.findIdx (fun p => decide (p.t = task)) = q := ⟨_, rfl⟩
  have HQ : Hid (ofI l task = if q < l.length then (pu l q).n else 0) := Lib.hid (by unfold ofI; rw [hq])
  have HR : Hid (idxR (fun p => decide (p.t = task)) l = if q < l.length then (q : Int) else -1) := Lib.hid (by unfold idxR; rw [hq])
  have HE : Hid (ofE l task = if putB l then (if q < l.length then 0 else 6) else 1) := Lib.hid (by unfold ofE; rw [hq])
  rw [HE.out] at he
  clear hq h hs
  rcases hP : putB l with _ | _
  · rw [hP] at he HCK
    rw [if_neg (by decide)] at he
    subst he
    rw [if_neg (by decide)] at hi
    subst hi
    have e1 : okE false = 1 := rfl
    clear hP HQ HR HE HI
    go_enter Tryd.func15, Tryd.ntmps15
    go_wp2_with fail
    refine (HCK.out _ (H.out.alloc _)).mono ?_
    rintro e w2 ⟨rfl, hb2⟩
    have HB2 : Hid (Below w.heap.size w w2) := Lib.hid (((Below.refl _ w).alloc (Nat.le_refl _) _).trans (hb2.mono (by simp)))
    clear hb2
    go_wp2_with fail
    exact bodyPost_ret (v := .tuple #[.int .i64 0, .int .i64 1]) (by simp [results, Tryd.results15, go_sem]) rfl ⟨rfl, HB2.out⟩
  · rw [hP] at he HCK
    rw [if_pos rfl] at he
    have e1 : okE true = 0 := rfl
    by_cases hlt : q < l.length
    · rw [if_pos hlt] at he HQ HR
      subst he
      rw [if_pos rfl, HQ.out] at hi
      have HI2 := Lib.hid hi
      clear hi
      rw [HR.out] at HI
      clear hP HQ HR HE
      have HLT := Lib.hid hlt
      go_enter Tryd.func15, Tryd.ntmps15
      go_wp2_with fail
      refine (HCK.out _ (H.out.alloc _)).mono ?_
      rintro e w2 ⟨rfl, hb2⟩
      have HB2 : Hid (Below w.heap.size w w2) := Lib.hid (((Below.refl _ w).alloc (Nat.le_refl _) _).trans (hb2.mono (by simp)))
      have hc2 : w2.cell? ⟨w.heap.size, 0, none⟩ = some (.string task) := (hb2.cell (by simp)).trans (by go_simp)
      clear hb2
      have HU2 := Lib.hid (H.out.on HB2.out)
      go_wp2_with fail
      refine (HI.out _ _ HU2.out hc2).mono ?_
      rintro e w3 ⟨rfl, hb3⟩
      have HB3 := Lib.hid (HB2.out.trans (hb3.mono HB2.out.size))
      obtain ⟨ad, rfl, hlo, h1⟩ := (H.out.on HB3.out) q hlt
      obtain ⟨a0, a1⟩ := h1.flat
      have q0 : (0 : Int) ≤ (q : Int) := by omega
      have q1 : (q : Int) < (l.length : Int) := by omega
      have q2 : decide ((q : Int) < 0) = false := decide_eq_false (by omega)
      clear hb3 HU2 h1 a0 hc2
      rw [HI2.out] at a1
      go_wp2_with fail
      exact bodyPost_ret (v := .tuple #[.int .i64 n, .int .i64 0]) (by simp [results, Tryd.results15, go_sem]) rfl ⟨rfl, HB3.out⟩
    · rw [if_neg hlt] at he HR
      subst he
      rw [if_neg (by decide)] at hi
      subst hi
      rw [HR.out] at HI
      clear hP HQ HR HE
      go_enter Tryd.func15, Tryd.ntmps15
      go_wp2_with fail
      refine (HCK.out _ (H.out.alloc _)).mono ?_
      rintro e w2 ⟨rfl, hb2⟩
      have HB2 : Hid (Below w.heap.size w w2) := Lib.hid (((Below.refl _ w).alloc (Nat.le_refl _) _).trans (hb2.mono (by simp)))
      have hc2 : w2.cell? ⟨w.heap.size, 0, none⟩ = some (.string task) := (hb2.cell (by simp)).trans (by go_simp)
      clear hb2
      have HU2 := Lib.hid (H.out.on HB2.out)
      go_wp2_with fail
      refine (HI.out _ _ HU2.out hc2).mono ?_
      rintro e w3 ⟨rfl, hb3⟩
      have HB3 := Lib.hid (HB2.out.trans (hb3.mono HB2.out.size))
      clear hb3
      go_wp2_with fail
      exact bodyPost_ret (v := .tuple #[.int .i64 0, .int .i64 6]) (by simp [results, Tryd.results15, go_sem]) rfl ⟨rfl, HB3.out⟩
end Go.Proofs.YthcjjogomknddaaDoor
