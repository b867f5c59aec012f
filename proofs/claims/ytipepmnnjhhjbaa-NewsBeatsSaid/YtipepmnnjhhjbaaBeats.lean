/-
  THE LAW NewsBeats: news that beat what is there stand in its place, and are told anew as often; what does not changes nothing; added twice is as once.
  For every queue (of which the law looks at the first sixty-five), all news, and every number.
-/
import Derived.Test.YtipepmnnjhhjbaaLawBox
namespace Go.Proofs.Ytipepmnnjhhjbaa.lawBeats
open Go.Sort Go.ChangeShapes Go.WideShapes Go.ChangeAt Go.RowKit Go.Joins Go.Proofs.Ytipepmnnjhhjbaa.Pure

theorem beats_self (k : Kn) : beatsB k k = false := by
  unfold beatsB over
  rw [Bool.and_eq_false_iff]
  right
  rw [decide_eq_false_iff_not]
  omega
theorem addQ_cons (y : Td) (r : List Td) (x : Td) : addQ (y :: r) x = if y.w < x.w then y :: addQ r x else if y.w = x.w then (if beatsB x.k y.k = true then x :: r else y :: r) else x :: y :: r := rfl
/-- What is added does not beat what is there then. -/
theorem addQ_beats {q : List Td} (hr : Rise q) (x : Td) : ∀ y ∈ addQ q x, y.w = x.w → beatsB x.k y.k = false := by
  induction q with
  | nil =>
    intro y hy _
    obtain rfl : y = x := by simpa [addQ] using hy
    exact beats_self _
  | cons z r ih =>
    have h1 := (List.pairwise_cons.1 hr).1
    have hr' : Rise r := (List.pairwise_cons.1 hr).2
    intro y hy e
    rw [addQ_cons] at hy
    split at hy
    · rename_i hz
      rcases List.mem_cons.1 hy with rfl | hy
      · omega
      · exact ih hr' y hy e
    · rename_i hz
      split at hy
      · rename_i hw
        split at hy
        · rcases List.mem_cons.1 hy with rfl | hy
          · exact beats_self _
          · have := h1 y hy; omega
        · rename_i hb
          rcases List.mem_cons.1 hy with rfl | hy
          · simpa using hb
          · have := h1 y hy; omega
      · rcases List.mem_cons.1 hy with rfl | hy
        · exact beats_self _
        · rcases List.mem_cons.1 hy with rfl | hy
          · omega
          · have := h1 y hy; omega
theorem addQ_has (q : List Td) (x : Td) : ∃ y ∈ addQ q x, y.w = x.w := by
  induction q with
  | nil => exact ⟨x, by simp [addQ], rfl⟩
  | cons z r ih =>
    rw [addQ_cons]
    split
    · obtain ⟨y, hy, e⟩ := ih
      exact ⟨y, List.mem_cons_of_mem _ hy, e⟩
    · split
      · rename_i hw
        split
        · exact ⟨x, by simp, rfl⟩
        · exact ⟨z, by simp, hw⟩
      · exact ⟨x, by simp, rfl⟩
/-- What does not beat what is there changes nothing. -/
theorem addQ_stays {q : List Td} (hr : Rise q) {x : Td} (h : ∃ y ∈ q, y.w = x.w) (hb : ∀ y ∈ q, y.w = x.w → beatsB x.k y.k = false) : addQ q x = q := by
  induction q with
  | nil => obtain ⟨y, hy, _⟩ := h; simp at hy
  | cons z r ih =>
    have h1 := (List.pairwise_cons.1 hr).1
    have hr' : Rise r := (List.pairwise_cons.1 hr).2
    obtain ⟨y, hy, e⟩ := h
    rw [addQ_cons]
    split
    · rename_i hz
      rcases List.mem_cons.1 hy with rfl | hy
      · omega
      · rw [ih hr' ⟨y, hy, e⟩ (fun u hu => hb u (List.mem_cons_of_mem _ hu))]
    · rename_i hz
      split
      · rename_i hw
        rw [if_neg (by rw [hb z (by simp) hw]; simp)]
      · rename_i hw
        rcases List.mem_cons.1 hy with rfl | hy
        · exact absurd e hw
        · have := h1 y hy; omega
/-- Is something of w among the first i? -/
def hasB (q : List Td) (w : Int) (i : Nat) : Bool := (q.take i).any fun y => y.w == w
theorem hasB_zero (q : List Td) (w : Int) : hasB q w 0 = false := by simp [hasB]
theorem hasB_succ (q : List Td) (w : Int) (i : Nat) (h : i < q.length) : hasB q w (i + 1) = (hasB q w i || ((td q i).w == w)) := by
  unfold hasB
  rw [List.take_succ_eq_append_getElem h, List.any_append, td_lt q h]
  simp
theorem hasB_all {q : List Td} {w : Int} (h : ∃ y ∈ q, y.w = w) : hasB q w q.length = true := by
  unfold hasB
  rw [List.take_length, List.any_eq_true]
  obtain ⟨y, hy, e⟩ := h
  exact ⟨y, hy, by simpa using e⟩

set_option maxRecDepth 100000 in
set_option maxHeartbeats 8000000 in
theorem walk (A : Option Addr) (c : Nat) (q : List Td) (n : Nw) (a b : Int) (w : World) (hq : q.length ≤ c ∧ c ≤ maxLen ∧ Ts w A q) :
    Calls Try.prog 7 #[.agg #[.slice A q.length c, .int .i64 n.w, .int .u64 n.i, .int .i64 n.s, .int .i64 a, .int .i64 b]] w fun e w' => e = .returned (.bool true) ∧ Below w.heap.size w w' := by
  obtain ⟨t, ht⟩ : ∃ t, t = q.take 65 := ⟨_, rfl⟩
  have htl : t.length ≤ 65 := by rw [ht, List.length_take]; omega
  have HF : Hid (∀ W : World, Calls Try.prog 9 #[.slice A q.length c] W fun e w' => e = .returned (.slice A t.length c) ∧ W = w') := Lib.hid (by rw [ht]; exact few_any A c q w hq.1 hq.2.1 hq.2.2)
  have HT0 : Hid (Ts w A t) := Lib.hid (by rw [ht]; exact hq.2.2.take 65)
  obtain ⟨r, hr⟩ : ∃ r, r = Int.tmod a 64 := ⟨_, rfl⟩
  have hr1 : -64 < r ∧ r < 64 := by
    have h1 := Int.tmod_lt_of_pos a (show (0 : Int) < 64 by decide)
    have h2 := Int.lt_tmod_of_pos a (show (0 : Int) < 64 by decide)
    omega
  obtain ⟨s, hs⟩ : ∃ s, s = Int.tmod (r + 64) 64 := ⟨_, rfl⟩
  have hs1 : 0 ≤ s ∧ s < 64 := by rw [hs, Int.tmod_eq_emod_of_nonneg (by omega)]; omega
  obtain ⟨o, ho⟩ : ∃ o, o = 1 + s := ⟨_, rfl⟩
  obtain ⟨s2, hs2⟩ : ∃ s2, s2 = Int.tmod o 64 := ⟨_, rfl⟩
  have hs3 : 0 ≤ s2 ∧ s2 < 64 := by rw [hs2, Int.tmod_eq_emod_of_nonneg (by omega)]; omega
  obtain ⟨o2, ho2⟩ : ∃ o2, o2 = 1 + s2 := ⟨_, rfl⟩
  have w1 : IntKind.i64.wrap (r + 64) = r + 64 := by rw [IntWalk.i64_in _ (by omega)]
  have w2 : IntKind.i64.wrap (1 + s) = o := by rw [IntWalk.i64_in _ (by omega), ho]
  have w3 : IntKind.i64.wrap (1 + s2) = o2 := by rw [IntWalk.i64_in _ (by omega), ho2]
  have t1 : Int.tmod a 64 = r := hr.symm
  have t2 : Int.tmod (r + 64) 64 = s := hs.symm
  have t3 : Int.tmod o 64 = s2 := hs2.symm
  obtain ⟨x, hx⟩ : ∃ x, x = n.td o := ⟨_, rfl⟩
  obtain ⟨x2, hx2⟩ : ∃ x2, x2 = n.td o2 := ⟨_, rfl⟩
  have hxk : x.k = n.k ∧ x2.k = n.k ∧ x.w = n.w ∧ x2.w = n.w := by rw [hx, hx2]; exact ⟨rfl, rfl, rfl, rfl⟩
  have hxm : mayT x = mayT x2 := by
    rw [hx, hx2, mayT_td, mayT_td]
    have e1 : decide (1 ≤ o) = true := by simp; omega
    have e2 : decide (o ≤ 64) = true := by simp; omega
    have e3 : decide (1 ≤ o2) = true := by simp; omega
    have e4 : decide (o2 ≤ 64) = true := by simp; omega
    rw [e1, e2, e3, e4]
  obtain ⟨u, hu⟩ : ∃ u, u = addL t x := ⟨_, rfl⟩
  obtain ⟨E, hE⟩ : ∃ E, E = addE t x := ⟨_, rfl⟩
  have hul : u.length ≤ 66 := by
    rw [hu]
    unfold addL
    split
    · have := (addQ_len t x).2; omega
    · omega
  have HA1 : Hid (∀ W : World, Ts W A t → Calls Try.prog 12 #[.slice A t.length c, .agg #[.int .i64 n.w, .int .u64 n.i, .int .i64 n.s], .int .i64 o] W (Gq W u E)) := Lib.hid (fun W h => by rw [hu, hE, hx]; exact l_add h (by omega) n o)
  have HA2 : Hid (∀ (W : World) A' c', Ts W A' u → Calls Try.prog 12 #[.slice A' u.length c', .agg #[.int .i64 n.w, .int .u64 n.i, .int .i64 n.s], .int .i64 o2] W (Gq W (addL u x2) (addE u x2))) := Lib.hid (fun W A' c' h => by rw [hx2]; exact l_add h (by omega) n o2)
  have HBX := Lib.hid (Bask.new w A q.length c n a b 29)
  have HAW := Lib.hid (fun W => awake_any W)
  have HB0 : Hid (Below w.heap.size w (w.alloc (.cells #[.slice A q.length c, .int .i64 n.w, .int .u64 n.i, .int .i64 n.s, .int .i64 a, .int .i64 b] 29))) := Lib.hid ((Below.refl _ w).alloc (Nat.le_refl _) _)
  have HN := Lib.hid (show t.length ≤ 65 ∧ u.length ≤ 66 from ⟨htl, hul⟩)
  rcases hok : (mayQ t && mayT x) with _ | _
  · -- refused
    have hue : u = t ∧ E = 1 := by rw [hu, hE]; unfold addL addE; rw [hok]; exact ⟨rfl, rfl⟩
    obtain ⟨rfl, rfl⟩ := hue
    have HSA : Hid (∀ (W : World) A1 c1 A2 c2, Ts W A1 u → Ts W A2 u → Calls Try.prog 17 #[.slice A1 u.length c1, .slice A2 u.length c2] W fun e w' => e = .returned (.bool true) ∧ Below W.heap.size W w') := Lib.hid (fun W A1 c1 A2 c2 h h' => rsame_any A1 A2 c1 c2 u u W (by omega) h h' true (by simp))
    have HA2' : Hid (∀ (W : World) A' c', Ts W A' u → Calls Try.prog 12 #[.slice A' u.length c', .agg #[.int .i64 n.w, .int .u64 n.i, .int .i64 n.s], .int .i64 o2] W fun e w' => ∃ v er, e = .returned (.tuple #[v, .int .i64 er]) ∧ Below W.heap.size W w') := Lib.hid (fun W A' c' h => (HA2.out W A' c' h).mono fun e w' ⟨A3, c3, he, _, hb⟩ => ⟨_, _, he, hb⟩)
    clear hq ht htl hr hr1 hs hs1 ho hs2 hs3 ho2 hx hx2 hxk hxm hu hE hul hok HA2
    go_enter Try.func7, Try.ntmps7
    go_upto_region 1 with (fail)
    have HT1 := Lib.hid (HT0.out.on HB0.out)
    generalize w.alloc (.cells #[.slice A q.length c, .int .i64 n.w, .int .u64 n.i, .int .i64 n.s, .int .i64 a, .int .i64 b] 29) = w0 at *
    clear HT0
    obtain ⟨b0, b1, b2, b3, b4, b5⟩ := HBX.out
    go_upto_region 4 with (first | (go_at_call 9; refine (HF.out _).mono ?_; rintro e w' ⟨rfl, rfl⟩) | (go_at_call 12; refine (HA1.out _ HT1.out).mono ?_; rintro e w1 ⟨A1, c1, rfl, hl1, hb1⟩))
    have HB1 : Hid (Below w.heap.size w w1) := Lib.hid (HB0.out.trans (hb1.mono HB0.out.size))
    have HT2 := Lib.hid (HT1.out.on hb1)
    have HL2 := Lib.hid hl1
    have HBX2 := Lib.hid (HBX.out.on hb1)
    clear hb1 hl1 HB0 HT1 HBX b0 b1 b2 b3 b4 b5 HF HA1
    obtain ⟨b0, b1, b2, b3, b4, b5⟩ := HBX2.out
    go_wp2_with fail
    refine (HA2'.out _ _ _ HL2.out).mono ?_
    rintro e w2 ⟨v2, er2, rfl, hb2⟩
    have HB2 : Hid (Below w.heap.size w w2) := Lib.hid (HB1.out.trans (hb2.mono HB1.out.size))
    have HT3 := Lib.hid (HT2.out.on hb2)
    have HL3 := Lib.hid (HL2.out.on hb2)
    clear hb2 HB1 HT2 HL2 HBX2 b0 b1 b2 b3 b4 b5 HA2'
    go_wp2_with fail
    refine (HSA.out _ _ _ _ _ HL3.out HT3.out).mono ?_
    rintro e w3 ⟨rfl, hb3⟩
    have HB3 : Hid (Below w.heap.size w w3) := Lib.hid (HB2.out.trans (hb3.mono HB2.out.size))
    clear hb3
    go_wp2_with fail
    refine (HAW.out _).mono ?_
    rintro e w4 ⟨rfl, hb4⟩
    have HB4 : Hid (Below w.heap.size w w4) := Lib.hid (HB3.out.trans (hb4.mono HB3.out.size))
    clear hb4
    go_wp2_with fail
    go_ret
    exact ⟨rfl, HB4.out⟩
  · -- added
    rw [Bool.and_eq_true] at hok
    have hue : u = addQ t x ∧ E = 0 := by rw [hu, hE]; unfold addL addE; rw [hok.1, hok.2]; exact ⟨rfl, rfl⟩
    have hum : mayQ u = true := by rw [hue.1]; exact may_addQ hok.1 hok.2
    have hup : ∀ y ∈ u, y.w = x.w → beatsB x.k y.k = false := by rw [hue.1]; exact addQ_beats (mayQ_rise hok.1) x
    have huh : ∃ y ∈ u, y.w = x.w := by rw [hue.1]; exact addQ_has t x
    have hu2 : addL u x2 = u ∧ addE u x2 = 0 := by
      unfold addL addE
      have e : (mayQ u && mayT x2) = true := by rw [hum, ← hxm, hok.2]; rfl
      rw [if_pos e, if_pos e]
      exact ⟨addQ_stays (mayQ_rise hum) (by rw [hxk.2.2.2, ← hxk.2.2.1]; exact huh) (by rw [hxk.2.2.2, hxk.2.1, ← hxk.2.2.1, ← hxk.1]; exact hup), rfl⟩
    rw [hu2.1, hu2.2] at HA2
    rw [hue.2] at HA1
    have HUP : Hid (∀ i, i < u.length → (td u i).w = n.w → beatsB n.k (td u i).k = false) := Lib.hid (fun i hi e => by
      have := hup (td u i) (td_mem u hi) (by rw [hxk.2.2.1]; exact e)
      rwa [hxk.1] at this)
    have HUH : Hid (hasB u n.w u.length = true) := Lib.hid (hasB_all (by rw [← hxk.2.2.1]; exact huh))
    have hll := addQ_len t x
    rw [← hue.1] at hll
    have HSA : Hid (∀ (W : World) A1 c1 A2 c2, Ts W A1 u → Ts W A2 u → Calls Try.prog 17 #[.slice A1 u.length c1, .slice A2 u.length c2] W fun e w' => e = .returned (.bool true) ∧ Below W.heap.size W w') := Lib.hid (fun W A1 c1 A2 c2 h h' => rsame_any A1 A2 c1 c2 u u W (by omega) h h' true (by simp))
    have HRB := Lib.hid (fun (y : Td) (W : World) => rbeats_any n.k y.k W)
    have g1 : decide ((t.length : Int) ≤ (u.length : Int)) = true := by simp; omega
    have g1' : decide (t.length ≤ u.length) = true := by simp; omega
    have g2 : decide ((u.length : Int) ≤ (t.length : Int) + 1) = true := by simp; omega
    have g3 : IntKind.i64.wrap ((t.length : Int) + 1) = (t.length : Int) + 1 := by rw [IntWalk.i64_in _ (by omega)]
    clear hq ht htl hr hr1 hs hs1 ho hs2 hs3 ho2 hx hx2 hxk hxm hu hE hul hok hue hum hup huh hu2 hll
    go_enter Try.func7, Try.ntmps7
    go_upto_region 1 with (fail)
    have HT1 := Lib.hid (HT0.out.on HB0.out)
    generalize w.alloc (.cells #[.slice A q.length c, .int .i64 n.w, .int .u64 n.i, .int .i64 n.s, .int .i64 a, .int .i64 b] 29) = w0 at *
    clear HT0
    obtain ⟨b0, b1, b2, b3, b4, b5⟩ := HBX.out
    go_upto_region 4 with (first | (go_at_call 9; refine (HF.out _).mono ?_; rintro e w' ⟨rfl, rfl⟩) | (go_at_call 12; refine (HA1.out _ HT1.out).mono ?_; rintro e w1 ⟨A1, c1, rfl, hl1, hb1⟩))
    have HB1 : Hid (Below w.heap.size w w1) := Lib.hid (HB0.out.trans (hb1.mono HB0.out.size))
    have HL2 := Lib.hid hl1
    have HBX2 := Lib.hid (HBX.out.on hb1)
    clear hb1 hl1 HB0 HT1 HBX b0 b1 b2 b3 b4 b5 HF HA1
    obtain ⟨b0, b1, b2, b3, b4, b5⟩ := HBX2.out
    go_wp2_with fail
    refine (HA2.out _ _ _ HL2.out).mono ?_
    rintro e w2 ⟨A2, c2, rfl, hl2, hb2⟩
    have HB2 : Hid (Below w.heap.size w w2) := Lib.hid (HB1.out.trans (hb2.mono HB1.out.size))
    have HM3 := Lib.hid hl2
    have HL3 := Lib.hid (HL2.out.on hb2)
    have HBX3 := Lib.hid (HBX2.out.on hb2)
    clear hb2 hl2 HB1 HL2 HBX2 b0 b1 b2 b3 b4 b5 HA2
    go_wp2_with fail
    refine (HSA.out _ _ _ _ _ HL3.out HM3.out).mono ?_
    rintro e w3 ⟨rfl, hb3⟩
    have HB3 : Hid (Below w.heap.size w w3) := Lib.hid (HB2.out.trans (hb3.mono HB2.out.size))
    have HL4 := Lib.hid (HL3.out.on hb3)
    have HBX4 := Lib.hid (HBX3.out.on hb3)
    clear hb3 HB2 HL3 HM3 HBX3 HSA
    go_wp2_with fail
    go_loopw [9, 10] (fun f i wr => ∃ j : Nat, i = .int .i64 j ∧ j ≤ u.length ∧ f = .bool (hasB u n.w j) ∧ Hid (Ts wr A1 u) ∧ Hid (Bask wr w.heap.size A q.length c n a b) ∧ Hid (Below w.heap.size w wr)) (fun _ i _ => u.length - (intOf i).toNat)
    case atStart => exact ⟨0, rfl, Nat.zero_le _, by rw [hasB_zero], HL4, HBX4, HB3⟩
    case round =>
      clear HL4 HBX4 HB3
      obtain ⟨wq, ewq⟩ : ∃ wq, wq = wr := ⟨_, rfl⟩
      subst ewq
      obtain ⟨j, rfl, hj, rfl, HLq, HBXq, HBq⟩ := hrel
      by_cases hlt : j < u.length
      · obtain ⟨ad, rfl, hlo, h1⟩ := HLq.out j hlt
        obtain ⟨a0, a1, a2, a3⟩ := h1.flat
        obtain ⟨b0, b1, b2, b3, b4, b5⟩ := HBXq.out
        have k0 : (0 : Int) ≤ (j : Int) := by omega
        have k1 : (j : Int) < (u.length : Int) := by omega
        have e0 : decide ((j : Int) < (u.length : Int)) = true := by simpa using k1
        have e0' : decide (j < u.length) = true := by simpa using hlt
        have hw1 : IntKind.i64.wrap ((j : Int) + 1) = (j : Int) + 1 := by have := HN.out; rw [IntWalk.i64_in _ (by omega)]
        have HS := Lib.hid (hasB_succ u n.w j hlt)
        have HUJ := Lib.hid (HUP.out j hlt)
        have HRJ := Lib.hid (fun (W : World) => HRB.out (td u j) W)
        have HJ := Lib.hid hlt
        obtain ⟨y, HY⟩ : ∃ y, Hid (td u j = y) := ⟨_, Lib.hid rfl⟩
        rw [HY.out] at a0 a1 a2 a3 HS HUJ HRJ
        have C0 : ∀ p : Regrown, (grow (redrawn wq p.d) p.os).cell? (ad.add (j * 4)) = some (.int .i64 y.w) := fun p => cell_regrown a0 p.d p.os
        have N0 : ∀ p : Regrown, (grow (redrawn wq p.d) p.os).cell? ⟨w.heap.size, 1, none⟩ = some (.int .i64 n.w) := fun p => cell_regrown b1 p.d p.os
        clear h1 a0 a1 a2 a3 b0 b1 b2 b3 b4 b5 hj hlt
        go_upto_region 13 with (fail)
        refine q_enter (by kernel_rfl) (by kernel_rfl) ?_
        iterate 10 (refine q_step ?_; intro K hK; go_simp; refine hK _ ?_; clear hK K)
        refine q_nil ?_
        intro w5 hb5
        have HB5 : Hid (Below w.heap.size w w5) := Lib.hid (HBq.out.trans (hb5.mono HBq.out.size))
        have HL5 := Lib.hid (HLq.out.on hb5)
        have HBX5 := Lib.hid (HBXq.out.on hb5)
        clear hb5 HBq HLq HBXq C0 N0
        by_cases hyw : y.w = n.w
        · have e1 : (y.w == n.w) = true := by simpa using hyw
          rw [e1, Bool.or_true] at HS
          have HUF := Lib.hid (HUJ.out hyw)
          have HRJ' : Hid (∀ W : World, Calls Try.prog 23 #[.agg #[.int .u64 n.i, .int .i64 n.s], .agg #[.int .u64 y.i, .int .i64 y.s]] W fun e w' => e = .returned (.bool false) ∧ Below W.heap.size W w') := Lib.hid (fun W => by have := HRJ.out W; rwa [HUF.out] at this)
          obtain ⟨_, e, _, h1⟩ := HL5.out j HJ.out
          obtain rfl := Option.some.inj e
          rw [HY.out] at h1
          obtain ⟨a0, a1, a2, a3⟩ := h1.flat
          obtain ⟨b0, b1, b2, b3, b4, b5⟩ := HBX5.out
          have C1 : ∀ p : Regrown, (grow (redrawn w5 p.d) p.os).cell? ⟨(ad.add (j * 4)).block, (ad.add (j * 4)).off + 1, none⟩ = some (.int .u64 y.i) := fun p => cell_regrown a1 p.d p.os
          have C2 : ∀ p : Regrown, (grow (redrawn w5 p.d) p.os).cell? ⟨(ad.add (j * 4)).block, (ad.add (j * 4)).off + 2, none⟩ = some (.int .i64 y.s) := fun p => cell_regrown a2 p.d p.os
          have N1 : ∀ p : Regrown, (grow (redrawn w5 p.d) p.os).cell? ⟨w.heap.size, 2, none⟩ = some (.int .u64 n.i) := fun p => cell_regrown b2 p.d p.os
          have N2 : ∀ p : Regrown, (grow (redrawn w5 p.d) p.os).cell? ⟨w.heap.size, 3, none⟩ = some (.int .i64 n.s) := fun p => cell_regrown b3 p.d p.os
          have HRp := Lib.hid (fun p : Regrown => HRJ'.out (grow (redrawn w5 p.d) p.os))
          clear h1 a0 a1 a2 a3 b0 b1 b2 b3 b4 b5 HRJ HRJ' HUJ
          go_upto_region 14 with (fail)
          refine q_enter (by kernel_rfl) (by kernel_rfl) ?_
          iterate 12 (refine q_step ?_; intro K hK; go_simp; first | (refine hK _ ?_; clear hK K) | (refine ⟨_, fun p => Calls.regrown_of (by with_reducible exact HRp.out p), hK _ ?_⟩; clear hK K))
          refine q_nil ?_
          intro w6 hb6
          have HB6 : Hid (Below w.heap.size w w6) := Lib.hid (HB5.out.trans (hb6.mono HB5.out.size))
          have HL6 := Lib.hid (HL5.out.on hb6)
          have HBX6 := Lib.hid (HBX5.out.on hb6)
          clear hb6 HB5 HL5 HBX5 C1 C2 N1 N2 HRp HUF hyw e1
          go_wp2_with fail
          go_roundw
          case rel => exact ⟨j + 1, by go_num, HJ.out, by rw [HS.out], HL6, HBX6, HB6⟩
          case measure => have := HJ.out; simp [intOf]; omega
        · have e1 : (y.w == n.w) = false := by simpa using hyw
          have e1' : ¬y.w = n.w := hyw
          rw [e1, Bool.or_false] at HS
          clear HUJ HRJ
          go_wp2_with fail
          go_roundw
          case rel => exact ⟨j + 1, by go_num, HJ.out, by rw [HS.out], HL5, HBX5, HB5⟩
          case measure => have := HJ.out; simp [intOf]; omega
      · obtain rfl : j = u.length := by omega
        have e0 : decide ((u.length : Int) < (u.length : Int)) = false := by simp
        rw [HUH.out]
        have HAWq := Lib.hid (HAW.out wq)
        clear hlt hj
        go_wp2_with fail
        refine HAWq.out.mono ?_
        rintro e w7 ⟨rfl, hb7⟩
        have HB7 : Hid (Below w.heap.size w w7) := Lib.hid (HBq.out.trans (hb7.mono HBq.out.size))
        clear hb7
        go_wp2_with fail
        go_ret
        exact ⟨rfl, HB7.out⟩

theorem parOk : ∀ t ∈ (#[29] : Array TypeId).toList, Try.prog.readableRec t = true ∧ t < Try.prog.types.size := by
  have hall : ([29].all fun t => Try.prog.readableRec t && decide (t < Try.prog.types.size)) = true := by kernel_rfl
  intro t ht
  simpa using List.all_eq_true.1 hall t ht

set_option maxRecDepth 100000 in
/-- What the walk gives, for every argument. -/
theorem contract (H : Type) (enc : TypeId × Value → H) (W : World) (base : Nat) (args : Array Value) (ds gs : List (DataW H)) (before : List MemPlace)
    (hval : ∀ (j : Nat) t v, Try.f7.params[j]? = some t → args[j]? = some v → Value.okWide Try.prog W .any base t v)
    (hW : DataW.Whole enc Try.prog Try.f7.params.toList Rows.newsBeatsSpec.vars false W args.toList ds gs before) :
    Calls Try.prog 7 args W fun e W' => ∃ v, e = .returned v ∧ Rows.newsBeatsSpec.post enc Try.prog Try.f7 false true false false W args v W' := by
  have hW' := hW
  obtain ⟨p, q, hA0, hV, rfl, hfz, hnd⟩ := hW
  have hA : DataW.TrodAll enc Try.prog W 0 (fun _ => true) true Try.f7.params.toList args.toList ds p := hA0
  rw [Try.params7] at hA hval
  obtain ⟨v0, vs0, d0, ds0, p0, q0, hargs, rfl, rfl, h0, r0⟩ := trodAll_cons hA
  obtain ⟨rfl, rfl, rfl⟩ := trodAll_nil r0
  obtain rfl : args = #[v0] := by cases args; simp_all
  obtain ⟨rfl, rfl⟩ := trodVars_none hV
  obtain ⟨A, c, q, n, a, b, rfl, hq, _, _⟩ := open_ask (hval 0 29 v0 rfl rfl) h0
  clear hA0
  refine (walk A c q n a b W hq).mono fun e W' ⟨he, hb⟩ => ?_
  subst he
  exact ⟨_, rfl, law_post rfl (by rw [Try.params7]; exact parOk) rfl hW' rfl rfl rfl hb⟩

set_option maxRecDepth 100000 in
theorem lifted (os : Os) (started : os.Started) (H : Type) (enc : TypeId × Value → H) :
    ReturnsInHanded {} Try.checked os 7 .any (Rows.newsBeatsSpec.pre6 enc Try.prog Try.f7 Rows.newsBeatsRow.domain false) (Rows.newsBeatsSpec.post enc Try.prog Try.f7 false true false false) := by
  refine returnsInHanded_of_change (C := Try.checked) own started (by kernel_rfl) Try.func7
    (ChangeSpec.witness6 (enc := enc) (C := Try.checked) false ⟨#[], #[.agg #[.slice none 0 0, .int .i64 0, .int .u64 0, .int .i64 0, .int .i64 0, .int .i64 0]], []⟩ 8 (by kernel_rfl) (by kernel_rfl) (by kernel_rfl) (by kernel_rfl)) ?_
  intro W base args ds gs before hval hW _ _
  exact contract H enc W base args ds gs before hval hW

/-- THE STATEMENT. -/
theorem said : Rows.NewsBeatsSaid :=
  OpenClaim.holds_of_wide 7 Try.f7 rfl rfl rfl rfl rfl rfl rfl ⟨rfl, rfl, rfl, rfl, rfl⟩ rfl rfl rfl rfl rfl (by kernel_rfl) Try.func7 (by kernel_rfl)
    (of_decide_eq_true (by kernel_rfl)) (by unfold Func.isWrapper; first | (rw [if_pos (by decide +kernel)]; kernel_rfl) | (rw [if_neg (by decide +kernel)]; exact ⟨rfl, rfl⟩))
    (fun os started H enc _ => lifted os started H enc)
end Go.Proofs.Ytipepmnnjhhjbaa.lawBeats
