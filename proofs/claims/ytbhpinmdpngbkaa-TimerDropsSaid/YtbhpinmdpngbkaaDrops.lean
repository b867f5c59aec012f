/-
  TimerDrops: what is dropped comes no more, all others do; dropped twice is as once: the law returns true for every input.
-/
import Derived.Test.YtbhpinmdpngbkaaEq
namespace Go.Proofs.Ytbhpinmdpngbkaa.lawDrops
open Go.ChangeShapes Go.WideShapes Go.ChangeAt Go.RowKit Go.Proofs.Ytbhpinmdpngbkaa.Pure

theorem filter_nth (f : Tm → Bool) (L : List Tm) (i : Nat) (hi : i < L.length) (hf : f (nth L i) = true) : nth (L.filter f) ((L.take i).filter f).length = nth L i ∧ ((L.take i).filter f).length < (L.filter f).length := by
  have e : L.filter f = (L.take i).filter f ++ nth L i :: (L.drop (i + 1)).filter f := by
    conv => lhs; rw [← List.take_append_drop i L]
    rw [List.filter_append, List.drop_eq_getElem_cons hi, ← nth_get L i hi, List.filter_cons, if_pos hf]
  rw [e]
  constructor
  · simp [nth, List.getD]
  · simp
theorem drop_less (x : Tm) (L : List Tm) (h : x ∈ L) : (dropL x.k x.o L).length < L.length := by
  unfold dropL
  rw [← List.countP_eq_length_filter]
  refine Nat.lt_of_le_of_ne List.countP_le_length fun e => ?_
  have := List.countP_eq_length.1 e x h
  simp at this
theorem drop_twice (kind who : Int) (L : List Tm) : dropL kind who (dropL kind who L) = dropL kind who L := by
  unfold dropL
  rw [List.filter_filter]
  simp
theorem drop_may (kind who : Int) (L : List Tm) (h : mayB L = true) : mayB (dropL kind who L) = true := by
  obtain ⟨h1, h2⟩ := (mayB_iff L).1 h
  exact (mayB_iff _).2 ⟨Nat.le_trans (List.length_filter_le _ _) h1, h2.filter _⟩

set_option maxRecDepth 100000 in
set_option maxHeartbeats 2000000 in
theorem wayFull (A : Option Addr) (c n0 : Nat) (xs : List Tm) (m : Nat) (w : World) (hfx : ∀ W : World, Calls Try.prog 9 #[.slice A n0 c] W fun e w' => e = .returned (.slice A xs.length c) ∧ W = w') (nx : xs.length ≤ 257) (hn : 256 < xs.length) :
    Calls Try.prog 7 #[.slice A n0 c, .int .u8 m] w fun e w' => e = .returned (.bool true) ∧ Below w.heap.size w w' := by
  have HFX := Lib.hid hfx
  have HSort : Hid (∀ W : World, Calls Try.prog 10 #[.slice A xs.length c] W (GivesN W 0 [] 9)) := Lib.hid fun W => (l_sort_full xs.length hn (by omega)).mono fun _ _ h => h.n rfl
  clear hfx
  go_enter Try.func7, Try.ntmps7
  go_wp2_with fail
  refine (HFX.out _).mono ?_
  rintro e w' ⟨rfl, rfl⟩
  go_wp2_with fail
  refine (HSort.out _).mono ?_
  rintro e w1 ⟨A1, c1, rfl, _, hb1⟩
  have HB1 := Lib.hid hb1
  clear hb1
  go_wp2_with fail
  refine (awake_any _).mono ?_
  rintro e w2 ⟨rfl, hb2⟩
  have HE : Hid (Below w.heap.size w w2) := Lib.hid (HB1.out.trans (hb2.mono HB1.out.size))
  clear hb2
  go_wp2_with fail
  go_ret
  exact ⟨rfl, HE.out⟩

set_option maxRecDepth 100000 in
set_option maxHeartbeats 2000000 in
theorem wayNone (A : Option Addr) (c n0 : Nat) (m : Nat) (w : World) (hfx : ∀ W : World, Calls Try.prog 9 #[.slice A n0 c] W fun e w' => e = .returned (.slice A 0 c) ∧ W = w') :
    Calls Try.prog 7 #[.slice A n0 c, .int .u8 m] w fun e w' => e = .returned (.bool true) ∧ Below w.heap.size w w' := by
  have HFX := Lib.hid hfx
  have HSort : Hid (∀ W : World, Calls Try.prog 10 #[.slice A 0 c] W (GivesN W 0 [] 0)) := Lib.hid fun W => (l_sort (T := A) (ts := []) (d := c) (Lst.nil W A) (by decide) (fun _ h => (List.not_mem_nil h).elim)).mono fun _ _ h => by
    rw [show srt [] = [] from List.eq_nil_of_length_eq_zero (srt_len [])] at h
    exact h.n rfl
  clear hfx
  go_enter Try.func7, Try.ntmps7
  go_wp2_with fail
  refine (HFX.out _).mono ?_
  rintro e w' ⟨rfl, rfl⟩
  go_wp2_with fail
  refine (HSort.out _).mono ?_
  rintro e w1 ⟨A1, c1, rfl, _, hb1⟩
  have HB1 := Lib.hid hb1
  clear hb1
  go_wp2_with fail
  refine (awake_any _).mono ?_
  rintro e w2 ⟨rfl, hb2⟩
  have HE : Hid (Below w.heap.size w w2) := Lib.hid (HB1.out.trans (hb2.mono HB1.out.size))
  clear hb2
  go_wp2_with fail
  go_ret
  exact ⟨rfl, HE.out⟩

set_option maxRecDepth 100000 in
set_option maxHeartbeats 4000000 in
theorem wayMain (A : Option Addr) (c n0 : Nat) (xs : List Tm) (m : Nat) (w : World) (hfx : ∀ W : World, Calls Try.prog 9 #[.slice A n0 c] W fun e w' => e = .returned (.slice A xs.length c) ∧ W = w') (hx : Lst w A xs) (fx : Fits xs) (h0 : 0 < xs.length) (hn : xs.length ≤ 256) (hmm : m ≤ 255) :
    Calls Try.prog 7 #[.slice A n0 c, .int .u8 m] w fun e w' => e = .returned (.bool true) ∧ Below w.heap.size w w' := by
  obtain ⟨L, hL⟩ : ∃ L, L = srt xs := ⟨_, rfl⟩
  obtain ⟨n, hnL⟩ : ∃ n, n = L.length := ⟨_, rfl⟩
  have hnx : n = xs.length := by rw [hnL, hL, srt_len]
  have hmay : mayB L = true := (mayB_iff L).2 ⟨by omega, by rw [hL]; exact srt_sorted _⟩
  have HFX := Lib.hid hfx
  have LX := Lib.hid hx
  have HSort : Hid (∀ W : World, Lst W A xs → Calls Try.prog 10 #[.slice A xs.length c] W (GivesN W n L 0)) := Lib.hid fun W h => (l_sort h hn fx).mono fun _ _ h => by
    rw [← hL] at h
    exact h.n hnL.symm
  obtain ⟨r, hr⟩ : ∃ r, r = m % n := ⟨_, rfl⟩
  have hrn : r < n := by rw [hr]; exact Nat.mod_lt _ (by omega)
  obtain ⟨x, hx'⟩ : ∃ x, x = nth L r := ⟨_, rfl⟩
  obtain ⟨a, ha⟩ : ∃ a, a = dropL x.k x.o L := ⟨_, rfl⟩
  obtain ⟨p, hp⟩ : ∃ p, p = a.length := ⟨_, rfl⟩
  have hpn : p < n := by rw [hp, ha, hnL]; exact drop_less x L (by rw [hx']; exact nth_mem (by omega))
  have HD1 : Hid (∀ (W : World) (B : Option Addr) (d : Nat), Lst W B L → Calls Try.prog 20 #[.slice B n d, .int .i64 x.k, .int .i64 x.o] W (GivesN W p a 0)) := Lib.hid fun W B d h => by
    have := l_drop (c := d) h x.k x.o hmay
    rw [← hnL, ← ha] at this
    exact this.mono fun _ _ h => h.n hp.symm
  have HD2 : Hid (∀ (W : World) (B : Option Addr) (d : Nat), Lst W B a → Calls Try.prog 20 #[.slice B p d, .int .i64 x.k, .int .i64 x.o] W (GivesN W p a 0)) := Lib.hid fun W B d h => by
    have := l_drop (c := d) h x.k x.o (by rw [ha]; exact drop_may _ _ _ hmay)
    rw [← hp] at this
    have e : dropL x.k x.o a = a := by rw [ha]; exact drop_twice _ _ _
    rw [e] at this
    exact this.mono fun _ _ h => h.n hp.symm
  have HSm : Hid (∀ (W : World) (B B' : Option Addr) (e e' : Nat), Lst W B a → Lst W B' a → Calls Try.prog 17 #[.slice B p e, .slice B' p e'] W fun e w' => e = .returned (.bool true) ∧ Below W.heap.size W w') := Lib.hid fun W B B' e e' h h' => by
    have := l_same (c := e) (c' := e') h h' (by omega)
    rw [← hp] at this
    exact this
  have HNX : Hid (n = L.length) := Lib.hid hnL
  have HAX : Hid (a = L.filter fun y => y.k != x.k || y.o != x.o) := Lib.hid ha
  have HPX : Hid (p = a.length) := Lib.hid hp
  have HRX : Hid (x = nth L r) := Lib.hid hx'
  have hn1 : n ≤ 256 := by omega
  have hn0 : 0 < n := by omega
  have HRE : Hid ((m : Int) % (n : Int) = (r : Int)) := Lib.hid (by rw [hr]; exact (Int.natCast_emod m n).symm)
  clear hfx hx fx hL hnL hnx hmay hr hx' ha hp
  go_enter Try.func7, Try.ntmps7
  go_wp2_with fail
  refine (HFX.out _).mono ?_
  rintro e w' ⟨rfl, rfl⟩
  go_wp2_with fail
  refine (HSort.out _ LX.out).mono ?_
  rintro e w1 ⟨A1, c1, rfl, hl1, hb1⟩
  have HB1 := Lib.hid hb1
  have HL1 := Lib.hid hl1
  clear hb1 hl1 LX HSort HFX
  have i0 : (0 : Int) ≤ (m : Int) % (n : Int) := by rw [HRE.out]; omega
  have i1 : (m : Int) % (n : Int) < (n : Int) := by rw [HRE.out]; omega
  have i2 : ((m : Int) % (n : Int)).toNat = r := by rw [HRE.out]; exact Int.toNat_natCast r
  have d0 : ((n : Int) == 0) = false := by rw [beq_eq_false_iff_ne]; omega
  obtain ⟨ad, rfl, _, _, t0⟩ := HL1.out r (by have := HNX.out; omega)
  have t0' : At w1 (ad.add (r * 4)) x := by rw [HRX.out]; exact t0
  obtain ⟨x1, x2, x3, x4⟩ := t0'.flat
  clear t0 t0'
  have BX1 := Lib.hid (Bx.new w1 x 33)
  go_wp2_with fail
  refine (HD1.out _ _ _ (HL1.out.alloc _)).mono ?_
  rintro e w2 ⟨A2, c2, rfl, hl2, hb2⟩
  have HL2 := Lib.hid ((HL1.out.alloc _).on hb2)
  have HA2 := Lib.hid hl2
  have BX2 := Lib.hid (BX1.out.on hb2)
  have HB2 : Hid (Below w.heap.size w w2) := Lib.hid ((HB1.out.alloc HB1.out.size _).trans (hb2.mono (by have := HB1.out.size; simp; omega)))
  clear hl2 hb2 HL1 BX1 x1 x2 x3 x4 i0 i1 i2
  obtain ⟨b0, b1, b2, b3⟩ := BX2.out
  go_wp2_with fail
  refine (HD2.out _ _ _ HA2.out).mono ?_
  rintro e w3 ⟨A3, c3, rfl, hl3, hb3⟩
  have HL3 := Lib.hid (HL2.out.on hb3)
  have HA3 := Lib.hid (HA2.out.on hb3)
  have HC3 := Lib.hid hl3
  have BX3 := Lib.hid (BX2.out.on hb3)
  have HB3 : Hid (Below w.heap.size w w3) := Lib.hid (HB2.out.trans (hb3.mono HB2.out.size))
  clear hl3 hb3 HL2 HA2 BX2 b0 b1 b2 b3
  have d1 : decide (n ≤ p) = false := by simp; omega
  go_wp2_with fail
  refine (HSm.out _ _ _ _ _ HA3.out HC3.out).mono ?_
  rintro e w4 ⟨rfl, hb4⟩
  have HL4 := Lib.hid (HL3.out.on hb4)
  have HA4 := Lib.hid (HA3.out.on hb4)
  have BX4 := Lib.hid (BX3.out.on hb4)
  have HB4 : Hid (Below w.heap.size w w4) := Lib.hid (HB3.out.trans (hb4.mono HB3.out.size))
  clear hb4 HL3 HA3 HC3 BX3 HSm HD1 HD2 HRE
  go_wp2_with fail
  go_loopw [11, 12] (fun kk i wr => ∃ j : Nat, i = .int .i64 j ∧ j ≤ n ∧ kk = .int .i64 (((L.take j).filter fun y => y.k != x.k || y.o != x.o).length : Nat) ∧ Hid (Below w4.heap.size w4 wr)) (fun _ i _ => n - (intOf i).toNat)
  case atStart => exact ⟨0, by go_num, Nat.zero_le _, by simp, Lib.hid (Below.refl _ _)⟩
  case round =>
    obtain ⟨j, rfl, hj, rfl, hb⟩ := hrel
    by_cases hlt : j < n
    · have hjL : j < L.length := by have := HNX.out; omega
      have HF := Lib.hid (filter_take_succ (fun y => y.k != x.k || y.o != x.o) L j hjL)
      have HFN := Lib.hid (filter_nth (fun y => y.k != x.k || y.o != x.o) L j hjL)
      have hkk : ((L.take j).filter fun y => y.k != x.k || y.o != x.o).length ≤ 256 := by have h1 := filter_take_len (fun y => y.k != x.k || y.o != x.o) L j; have h2 := HNX.out; omega
      generalize hkq : ((L.take j).filter fun y => y.k != x.k || y.o != x.o).length = q at *
      have HKQ := Lib.hid hkq
      have HLr := Lib.hid (HL4.out.on hb.out)
      have HAr := Lib.hid (HA4.out.on hb.out)
      obtain ⟨b0, b1, b2, b3⟩ := BX4.out.on hb.out
      obtain ⟨ad', ee, _, _, t1⟩ := HLr.out j hjL
      obtain rfl := Option.some.inj ee
      have t1' : At wr (ad.add (j * 4)) (nth L j) := t1
      have HYL : Hid (nth L j = L.getD j zt) := Lib.hid rfl
      generalize hy : nth L j = y at *
      have HY := Lib.hid hy
      obtain ⟨y1, y2, y3, y4⟩ := t1'.flat
      have Y1 := fun d os => cell_regrown y1 d os
      have Y2 := fun d os => cell_regrown y2 d os
      have Y3 := fun d os => cell_regrown y3 d os
      have Y4 := fun d os => cell_regrown y4 d os
      have B1 := fun d os => cell_regrown b1 d os
      have B2 := fun d os => cell_regrown b2 d os
      clear t1 t1' ee hkq hy y1 y2 y3 y4 b0 b1 b2 b3
      have j0 : (0 : Int) ≤ (j : Int) := by omega
      have j1 : (j : Int) < (n : Int) := by omega
      have hway : (y.k == x.k) = true ∧ (y.o == x.o) = true ∨ (y.k == x.k) = false ∨ ((y.k == x.k) = true ∧ (y.o == x.o) = false) := by
        rcases (y.k == x.k) with _ | _ <;> rcases (y.o == x.o) with _ | _ <;> simp
      rcases hway with ⟨h1, h2⟩ | h1 | ⟨h1, h2⟩
      · have HN : Hid (((L.take (j + 1)).filter fun y => y.k != x.k || y.o != x.o).length = q) := Lib.hid (by
          rw [HF.out, ← HYL.out]
          have : (y.k != x.k || y.o != x.o) = false := by simp only [bne, h1, h2]; rfl
          simp only [this]
          simpa using HKQ.out)
        go_wp2_with fail
        refine q_enter (by kernel_rfl) (by kernel_rfl) ?_
        iterate 18 (refine q_step ?_; intro K hK; go_simp; refine hK _ ?_; clear hK K)
        refine q_nil ?_
        intro wz hbz
        have HZ : Hid (Below w4.heap.size w4 wz) := Lib.hid (hb.out.trans (hbz.mono hb.out.size))
        clear hbz
        go_wp2_with fail
        go_roundw
        case rel => exact ⟨j + 1, by go_num, by omega, by rw [HN.out], HZ⟩
        case measure => simp [intOf]; omega
      · have hkp : (y.k != x.k || y.o != x.o) = true := by
          have : (y.k != x.k || y.o != x.o) = true := by simp only [bne, h1]; rfl
          exact this
        have HN : Hid (((L.take (j + 1)).filter fun y => y.k != x.k || y.o != x.o).length = q + 1) := Lib.hid (by
          rw [HF.out, ← HYL.out]
          simp only [hkp]
          simpa using HKQ.out)
        obtain ⟨hq1, hq2⟩ := HFN.out hkp
        have hqp : q < p := by rw [HPX.out, HAX.out]; exact hq2
        obtain ⟨ad2, rfl, _, _, t2⟩ := HAr.out q (by rw [← HPX.out]; exact hqp)
        have t2' : At wr (ad2.add (q * 4)) y := by
          have e : a.getD q zt = y := by
            have : nth a q = y := by rw [HAX.out]; exact hq1
            exact this
          rw [← e]; exact t2
        obtain ⟨z1, z2, z3, z4⟩ := t2'.flat
        have q0 : (0 : Int) ≤ (q : Int) := by omega
        have q1 : (q : Int) < (p : Int) := by omega
        have d5 : decide (p ≤ q) = false := by simp; omega
        have HZC := Lib.hid (And.intro z1 (And.intro z2 (And.intro z3 z4)))
        clear t2 t2' hq1 hq2 hkp z1 z2 z3 z4
        go_wp2_with fail
        refine q_enter (by kernel_rfl) (by kernel_rfl) ?_
        iterate 18 (refine q_step ?_; intro K hK; go_simp; refine hK _ ?_; clear hK K)
        refine q_nil ?_
        intro wy hby
        have HY1 : Hid (Below w4.heap.size w4 wy) := Lib.hid (hb.out.trans (hby.mono hb.out.size))
        obtain ⟨z1, z2, z3, z4⟩ := HZC.out
        have hadl : ad2.block < wr.heap.size := by have := World.block_lt_of_cell? wr _ z1; rwa [block_add] at this
        have hadl2 : ad.block < wr.heap.size := by
          obtain ⟨ad', ee, _, h, _⟩ := HLr.out j hjL
          obtain rfl := Option.some.inj ee
          exact h
        have Z1 := fun d os => cell_regrown (w := wy) ((hby.cell (p := ad2.add (q * 4)) (by rw [block_add]; exact hadl)).trans z1) d os
        have Z2 := fun d os => cell_regrown (w := wy) ((hby.cell (p := ⟨(ad2.add (q * 4)).block, (ad2.add (q * 4)).off + 1, none⟩) (by show (ad2.add (q * 4)).block < _; rw [block_add]; exact hadl)).trans z2) d os
        have Z3 := fun d os => cell_regrown (w := wy) ((hby.cell (p := ⟨(ad2.add (q * 4)).block, (ad2.add (q * 4)).off + 2, none⟩) (by show (ad2.add (q * 4)).block < _; rw [block_add]; exact hadl)).trans z3) d os
        have Z4 := fun d os => cell_regrown (w := wy) ((hby.cell (p := ⟨(ad2.add (q * 4)).block, (ad2.add (q * 4)).off + 3, none⟩) (by show (ad2.add (q * 4)).block < _; rw [block_add]; exact hadl)).trans z4) d os
        have HLy := HLr.out.on hby
        obtain ⟨ad', ee, _, _, t3⟩ := HLy j hjL
        obtain rfl := Option.some.inj ee
        have t3' : At wy (ad.add (j * 4)) y := by rw [HYL.out]; exact t3
        obtain ⟨v1, v2, v3, v4⟩ := t3'.flat
        have V1 := fun d os => cell_regrown v1 d os
        have V2 := fun d os => cell_regrown v2 d os
        have V3 := fun d os => cell_regrown v3 d os
        have V4 := fun d os => cell_regrown v4 d os
        clear hby t3 t3' ee HLy v1 v2 v3 v4 z1 z2 z3 z4 Y1 Y2 Y3 Y4 B1 B2
        go_wp2_with fail
        refine q_enter (by kernel_rfl) (by kernel_rfl) ?_
        iterate 15 (refine q_step ?_; intro K hK; go_simp; refine hK _ ?_; clear hK K)
        refine q_nil ?_
        intro wz hbz
        have HZ : Hid (Below w4.heap.size w4 wz) := Lib.hid (HY1.out.trans (hbz.mono HY1.out.size))
        clear hbz
        go_wp2_with fail
        go_roundw
        case rel => exact ⟨j + 1, by go_num, by omega, by rw [HN.out]; go_num, HZ⟩
        case measure => simp [intOf]; omega
      · have hkp : (y.k != x.k || y.o != x.o) = true := by
          have : (y.k != x.k || y.o != x.o) = true := by simp only [bne, h1, h2]; rfl
          exact this
        have HN : Hid (((L.take (j + 1)).filter fun y => y.k != x.k || y.o != x.o).length = q + 1) := Lib.hid (by
          rw [HF.out, ← HYL.out]
          simp only [hkp]
          simpa using HKQ.out)
        obtain ⟨hq1, hq2⟩ := HFN.out hkp
        have hqp : q < p := by rw [HPX.out, HAX.out]; exact hq2
        obtain ⟨ad2, rfl, _, _, t2⟩ := HAr.out q (by rw [← HPX.out]; exact hqp)
        have t2' : At wr (ad2.add (q * 4)) y := by
          have e : a.getD q zt = y := by
            have : nth a q = y := by rw [HAX.out]; exact hq1
            exact this
          rw [← e]; exact t2
        obtain ⟨z1, z2, z3, z4⟩ := t2'.flat
        have q0 : (0 : Int) ≤ (q : Int) := by omega
        have q1 : (q : Int) < (p : Int) := by omega
        have d5 : decide (p ≤ q) = false := by simp; omega
        have HZC := Lib.hid (And.intro z1 (And.intro z2 (And.intro z3 z4)))
        clear t2 t2' hq1 hq2 hkp z1 z2 z3 z4
        go_wp2_with fail
        refine q_enter (by kernel_rfl) (by kernel_rfl) ?_
        iterate 18 (refine q_step ?_; intro K hK; go_simp; refine hK _ ?_; clear hK K)
        refine q_nil ?_
        intro wy hby
        have HY1 : Hid (Below w4.heap.size w4 wy) := Lib.hid (hb.out.trans (hby.mono hb.out.size))
        obtain ⟨z1, z2, z3, z4⟩ := HZC.out
        have hadl : ad2.block < wr.heap.size := by have := World.block_lt_of_cell? wr _ z1; rwa [block_add] at this
        have hadl2 : ad.block < wr.heap.size := by
          obtain ⟨ad', ee, _, h, _⟩ := HLr.out j hjL
          obtain rfl := Option.some.inj ee
          exact h
        have Z1 := fun d os => cell_regrown (w := wy) ((hby.cell (p := ad2.add (q * 4)) (by rw [block_add]; exact hadl)).trans z1) d os
        have Z2 := fun d os => cell_regrown (w := wy) ((hby.cell (p := ⟨(ad2.add (q * 4)).block, (ad2.add (q * 4)).off + 1, none⟩) (by show (ad2.add (q * 4)).block < _; rw [block_add]; exact hadl)).trans z2) d os
        have Z3 := fun d os => cell_regrown (w := wy) ((hby.cell (p := ⟨(ad2.add (q * 4)).block, (ad2.add (q * 4)).off + 2, none⟩) (by show (ad2.add (q * 4)).block < _; rw [block_add]; exact hadl)).trans z3) d os
        have Z4 := fun d os => cell_regrown (w := wy) ((hby.cell (p := ⟨(ad2.add (q * 4)).block, (ad2.add (q * 4)).off + 3, none⟩) (by show (ad2.add (q * 4)).block < _; rw [block_add]; exact hadl)).trans z4) d os
        have HLy := HLr.out.on hby
        obtain ⟨ad', ee, _, _, t3⟩ := HLy j hjL
        obtain rfl := Option.some.inj ee
        have t3' : At wy (ad.add (j * 4)) y := by rw [HYL.out]; exact t3
        obtain ⟨v1, v2, v3, v4⟩ := t3'.flat
        have V1 := fun d os => cell_regrown v1 d os
        have V2 := fun d os => cell_regrown v2 d os
        have V3 := fun d os => cell_regrown v3 d os
        have V4 := fun d os => cell_regrown v4 d os
        clear hby t3 t3' ee HLy v1 v2 v3 v4 z1 z2 z3 z4 Y1 Y2 Y3 Y4 B1 B2
        go_wp2_with fail
        refine q_enter (by kernel_rfl) (by kernel_rfl) ?_
        iterate 15 (refine q_step ?_; intro K hK; go_simp; refine hK _ ?_; clear hK K)
        refine q_nil ?_
        intro wz hbz
        have HZ : Hid (Below w4.heap.size w4 wz) := Lib.hid (HY1.out.trans (hbz.mono HY1.out.size))
        clear hbz
        go_wp2_with fail
        go_roundw
        case rel => exact ⟨j + 1, by go_num, by omega, by rw [HN.out]; go_num, HZ⟩
        case measure => simp [intOf]; omega
    · obtain rfl : j = n := by omega
      have HN : Hid (((L.take j).filter fun y => y.k != x.k || y.o != x.o).length = p) := Lib.hid (by
        rw [HNX.out, List.take_length, ← HAX.out, HPX.out])
      rw [HN.out]
      go_wp2_with fail
      refine (awake_any _).mono ?_
      rintro e wE ⟨rfl, hbE⟩
      have HE : Hid (Below w.heap.size w wE) := Lib.hid (HB4.out.trans ((hb.out.mono HB4.out.size).trans (hbE.mono (by have h1 := HB4.out.size; have h2 := hb.out.size; omega))))
      clear hbE
      go_wp2_with fail
      go_ret
      exact ⟨rfl, HE.out⟩
theorem run_walk (A : Option Addr) (c : Nat) (xs0 : List Tm) (m : Int) (w : World) (hc : xs0.length ≤ c) (hm : c ≤ maxLen) (hl : Lst w A xs0) (hf : Fits xs0) (hmm : 0 ≤ m ∧ m ≤ 255) :
    Calls Try.prog 7 #[.slice A xs0.length c, .int .u8 m] w fun e w' => e = .returned (.bool true) ∧ Below w.heap.size w w' := by
  obtain ⟨m, rfl⟩ := Int.eq_ofNat_of_zero_le hmm.1
  have hfx := few_any A c _ _ xs0 w hc hm hl
  have hx : Lst w A (cutL xs0) := Has.take hl 257
  have fx : Fits (cutL xs0) := fun x h => hf x (List.mem_of_mem_take h)
  have nx := cutL_len xs0
  rcases Nat.lt_or_ge 256 (cutL xs0).length with hn | hn
  · exact wayFull A c _ _ m w hfx nx hn
  · rcases Nat.eq_zero_or_pos (cutL xs0).length with h0 | h0
    · exact wayNone A c _ m w (by rw [h0] at hfx; exact hfx)
    · exact wayMain A c _ _ m w hfx hx fx h0 hn (by omega)

/-! ### the statement -/
theorem parOk : ∀ t ∈ (#[22, 5] : Array TypeId).toList, Try.prog.readableRec t = true ∧ t < Try.prog.types.size := by
  have hall : ([22, 5].all fun t => Try.prog.readableRec t && decide (t < Try.prog.types.size)) = true := by kernel_rfl
  intro t ht
  simpa using List.all_eq_true.1 hall t ht

/-- What the walk gives, for every argument. -/
theorem contract (H : Type) (enc : TypeId × Value → H) (W : World) (base : Nat) (args : Array Value) (ds gs : List (DataW H)) (before : List MemPlace)
    (hval : ∀ (j : Nat) t v, Try.f7.params[j]? = some t → args[j]? = some v → Value.okWide Try.prog W .any base t v)
    (hW : DataW.Whole enc Try.prog Try.f7.params.toList Rows.timerDropsSpec.vars false W args.toList ds gs before) :
    Calls Try.prog 7 args W fun e W' => ∃ v, e = .returned v ∧ Rows.timerDropsSpec.post enc Try.prog Try.f7 false true false false W args v W' := by
  have hW' := hW
  obtain ⟨p, q, hA0, hV, rfl, hfz, hnd⟩ := hW
  have hA : DataW.TrodAll enc Try.prog W 0 (fun _ => true) true Try.f7.params.toList args.toList ds p := hA0
  rw [Try.params7] at hA hval
  obtain ⟨v0, vs0, d0, ds0, p0, q0, hargs, rfl, rfl, h0, r0⟩ := trodAll_cons hA
  obtain ⟨v1, vs1, d1, ds1, p1, q1, rfl, rfl, rfl, h1, r1⟩ := trodAll_cons r0
  obtain ⟨rfl, rfl, rfl⟩ := trodAll_nil r1
  obtain rfl : args = #[v0, v1] := by cases args; simp_all
  obtain ⟨rfl, rfl⟩ := trodVars_none hV
  obtain ⟨Axs, cxs, xs, rfl, hcxs, hmxs, hlxs, hfxs⟩ := open_tms (hval 0 22 v0 rfl rfl) h0
  obtain ⟨m, rfl, rfl, rfl, wm⟩ := open_int Try.underlying5 (hval 1 5 v1 rfl rfl) h1
  clear hA0
  refine (run_walk Axs cxs xs m W hcxs hmxs hlxs hfxs (by simpa [Lit.wf, IntKind.min, IntKind.max, IntKind.signed, IntKind.bits] using wm)).mono fun e W' ⟨he, hb⟩ => ?_
  subst he
  exact ⟨_, rfl, law_post rfl (by rw [Try.params7]; exact parOk) rfl hW' rfl rfl rfl hb⟩

set_option maxRecDepth 100000 in
theorem lifted (os : Os) (started : os.Started) (H : Type) (enc : TypeId × Value → H) :
    ReturnsInHanded {} Try.checked os 7 .any (Rows.timerDropsSpec.pre6 enc Try.prog Try.f7 Rows.timerDropsRow.domain false) (Rows.timerDropsSpec.post enc Try.prog Try.f7 false true false false) := by
  refine returnsInHanded_of_change (C := Try.checked) own started (by kernel_rfl) Try.func7
    (ChangeSpec.witness6 (enc := enc) (C := Try.checked) false ⟨#[], #[.slice none 0 0, .int .u8 0], []⟩ 8 (by kernel_rfl) (by kernel_rfl) (by kernel_rfl) (by kernel_rfl)) ?_
  intro W base args ds gs before hval hW _ _
  exact contract H enc W base args ds gs before hval hW

/-- THE STATEMENT. -/
theorem said : Rows.TimerDropsSaid :=
  OpenClaim.holds_of_wide 7 Try.f7 rfl rfl rfl rfl rfl rfl rfl ⟨rfl, rfl, rfl, rfl, rfl⟩ rfl rfl rfl rfl rfl (by kernel_rfl) Try.func7 (by kernel_rfl)
    (of_decide_eq_true (by kernel_rfl)) (by unfold Func.isWrapper; first | (rw [if_pos (by decide +kernel)]; kernel_rfl) | (rw [if_neg (by decide +kernel)]; exact ⟨rfl, rfl⟩))
    (fun os started H enc _ => lifted os started H enc)
end Go.Proofs.Ytbhpinmdpngbkaa.lawDrops
