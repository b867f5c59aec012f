/-
  The walks of what tells whether two lists of doubts are the same: of the program, and of the document.
-/
import Derived.Test.YtknpbbplolncpaaClear
namespace Go.Proofs.Ytknpbbplolncpaa
open Go.Sort Go.RowKit Go.Proofs.Ytknpbbplolncpaa.Pure

theorem Bt.put {w : World} {b : Nat} {x : Db} (h : Bt w b x) : w.cell? ⟨b, 0, none⟩ = some (.int .i64 x.w) := h.1

set_option maxRecDepth 100000 in
set_option maxHeartbeats 2000000 in
theorem one_same (x y : Db) (P Q : Nat → Prop) (w : World) (hn : x.b.length ≤ 1000) (hx : Rd w P x) (hy : Rd w Q y) (S : Bool) (hS : decide (x.ct = y.ct) = S) :
    Calls Try.prog 41 #[.agg #[.int .i64 x.w, .int .u64 x.i, .int .i64 x.t, .slice x.A x.b.length x.c], .agg #[.int .i64 y.w, .int .u64 y.i, .int .i64 y.t, .slice y.A y.b.length y.c]] w fun e w' => e = .returned (.bool S) ∧ Below w.heap.size w w' := by
  have hb : Below w.heap.size w ((w.alloc (.cells #[.int .i64 x.w, .int .u64 x.i, .int .i64 x.t, .slice x.A x.b.length x.c] 55)).alloc (.cells #[.int .i64 y.w, .int .u64 y.i, .int .i64 y.t, .slice y.A y.b.length y.c] 55)) := ((Below.refl _ w).alloc (Nat.le_refl _) _).alloc (by simp) _
  have HB := Lib.hid hb
  have BX : Hid (Bt ((w.alloc (.cells #[.int .i64 x.w, .int .u64 x.i, .int .i64 x.t, .slice x.A x.b.length x.c] 55)).alloc (.cells #[.int .i64 y.w, .int .u64 y.i, .int .i64 y.t, .slice y.A y.b.length y.c] 55)) w.heap.size x) := Lib.hid ((Bt.new w x _).alloc _)
  have BY : Hid (Bt ((w.alloc (.cells #[.int .i64 x.w, .int .u64 x.i, .int .i64 x.t, .slice x.A x.b.length x.c] 55)).alloc (.cells #[.int .i64 y.w, .int .u64 y.i, .int .i64 y.t, .slice y.A y.b.length y.c] 55)) (w.heap.size + 1) y) := Lib.hid (by have := Bt.new (w.alloc (.cells #[.int .i64 x.w, .int .u64 x.i, .int .i64 x.t, .slice x.A x.b.length x.c] 55)) y 55; simpa using this)
  have HX := Lib.hid (hx.on hb).1.has
  have HY := Lib.hid (hy.on hb).1.has
  have HE : Hid (x.ct = y.ct ↔ x.w = y.w ∧ x.i = y.i ∧ x.t = y.t ∧ x.b = y.b) := Lib.hid (Dt.eq_iff x.ct y.ct)
  have HS : Hid (S = decide (x.ct = y.ct)) := Lib.hid hS.symm
  have HEQ := Lib.hid (fun (W : World) S hX hY hS => equal_any x.A y.A x.c y.c 0 ((w.alloc (.cells #[.int .i64 x.w, .int .u64 x.i, .int .i64 x.t, .slice x.A x.b.length x.c] 55)).alloc (.cells #[.int .i64 y.w, .int .u64 y.i, .int .i64 y.t, .slice y.A y.b.length y.c] 55)).heap.size 0 ((w.alloc (.cells #[.int .i64 x.w, .int .u64 x.i, .int .i64 x.t, .slice x.A x.b.length x.c] 55)).alloc (.cells #[.int .i64 y.w, .int .u64 y.i, .int .i64 y.t, .slice y.A y.b.length y.c] 55)).heap.size x.b y.b W (by omega) hX hY S hS)
  clear hx hy hS hb hn
  go_enter Try.func41, Try.ntmps41
  go_upto_region 1 with (fail)
  generalize hwz : ((w.alloc (.cells #[.int .i64 x.w, .int .u64 x.i, .int .i64 x.t, .slice x.A x.b.length x.c] 55)).alloc (.cells #[.int .i64 y.w, .int .u64 y.i, .int .i64 y.t, .slice y.A y.b.length y.c] 55)) = w1 at *
  generalize w.heap.size + 1 = by_ at *
  generalize hbx : w.heap.size = bx at *
  rw [← hbx] at HB
  clear hwz
  obtain ⟨x0, x1, x2, x3⟩ := BX.out
  obtain ⟨y0, y1, y2, y3⟩ := BY.out
  have HBX : Hid (w.heap.size = bx) := Lib.hid hbx
  clear hbx
  by_cases e1 : x.w = y.w
  · have d1 : (x.w == y.w) = true := by simpa using e1
    by_cases e2 : x.i = y.i
    · have d2 : (x.i == y.i) = true := by simpa using e2
      by_cases e3 : x.t = y.t
      · have d3 : (x.t == y.t) = true := by simpa using e3
        have HC := Lib.hid (HEQ.out w1 S HX.out HY.out (by
          rw [HS.out, Bool.eq_iff_iff, decide_eq_true_iff, decide_eq_true_iff, HE.out]
          exact ⟨fun h => ⟨e1, e2, e3, h⟩, fun h => h.2.2.2⟩))
        clear e1 e2 e3 HE HS HEQ
        go_wp2_with fail
        refine HC.out.mono ?_
        rintro e w2 ⟨rfl, hb2⟩
        have HB2 : Hid (Below w.heap.size w w2) := Lib.hid (HB.out.trans (hb2.mono HB.out.size))
        clear hb2 HC x0 x1 x2 x3 y0 y1 y2 y3 BX BY HX HY
        go_wp2_with fail
        go_ret
        exact ⟨rfl, HB2.out⟩
      · have d3 : (x.t == y.t) = false := by simpa using e3
        obtain rfl : S = false := by rw [HS.out, decide_eq_false_iff_not, HE.out]; exact fun h => e3 h.2.2.1
        clear e1 e2 e3 HE HS HEQ
        go_wp2_with fail
        go_ret
        exact ⟨rfl, HB.out⟩
    · have d2 : (x.i == y.i) = false := by simpa using e2
      obtain rfl : S = false := by rw [HS.out, decide_eq_false_iff_not, HE.out]; exact fun h => e2 h.2.1
      clear e1 e2 HE HS HEQ
      go_wp2_with fail
      go_ret
      exact ⟨rfl, HB.out⟩
  · have d1 : (x.w == y.w) = false := by simpa using e1
    obtain rfl : S = false := by rw [HS.out, decide_eq_false_iff_not, HE.out]; exact fun h => e1 h.1
    clear e1 HE HS HEQ
    go_wp2_with fail
    go_ret
    exact ⟨rfl, HB.out⟩

set_option maxRecDepth 100000 in
set_option maxHeartbeats 4000000 in
theorem equalD_any (A A' : Option Addr) (c c' hi hi' : Nat) (a b : List Db) (w : World) (hsa : Sm a) (h : Ds w hi A a) (h' : Ds w hi' A' b) (hh : hi ≤ w.heap.size) (hh' : hi' ≤ w.heap.size) (S : Bool) (hS : decide (a.map Db.ct = b.map Db.ct) = S) :
    Calls Try.prog 40 #[.slice A a.length c, .slice A' b.length c', .func (.func 41) #[] #[]] w fun e w' => e = .returned (.bool S) ∧ Below w.heap.size w w' := by
  by_cases hl : a.length = b.length
  · have H := Lib.hid h
    have H' := Lib.hid h'
    have HH := Lib.hid (And.intro hh hh')
    have HS : Hid ((∀ j, j < a.length → (db a j).ct = (db b j).ct) ↔ S = true) := Lib.hid (by
      rw [← hS, decide_eq_true_iff, ← same_dt (by simpa using hl)]
      simp only [List.length_map, ct_at])
    have HSM := Lib.hid hsa
    have hla := hsa.1
    clear h h' hS hh hh' hsa
    have HLB := Lib.hid hl
    rw [← hl]
    clear hl
    go_enter Try.func40, Try.ntmps40
    go_wp2_with fail
    go_loopw [17] (fun i wr => ∃ k : Nat, i = .int .i64 k ∧ k ≤ a.length ∧ Hid (∀ j, j < k → (db a j).ct = (db b j).ct) ∧ Hid (Below w.heap.size w wr)) (fun i _ => a.length - (intOf i).toNat)
    case atStart => exact ⟨0, rfl, Nat.zero_le _, Lib.hid (fun j hj => absurd hj (Nat.not_lt_zero j)), Lib.hid (Below.refl _ _)⟩
    case round =>
      obtain ⟨wq, ewq⟩ : ∃ wq, wq = wr := ⟨_, rfl⟩
      subst ewq
      obtain ⟨k, rfl, hk, hok, hb⟩ := hrel
      by_cases hlt : k < a.length
      · obtain ⟨ad, rfl, hlo, h1, hr1⟩ := (H.out.on hb.out HH.out.1) k hlt
        obtain ⟨ad', rfl, hlo', h2, hr2⟩ := (H'.out.on hb.out HH.out.2) k (by rw [← HLB.out]; exact hlt)
        obtain ⟨a0, a1, a2, a3⟩ := h1.flat
        have B2 := Lib.hid h2
        have k0 : (0 : Int) ≤ (k : Int) := by omega
        have k1 : (k : Int) < (a.length : Int) := by omega
        have HF : Hid ((db a k).ct ≠ (db b k).ct → S = false) := Lib.hid (fun hne => by
          rcases S with _ | _
          · rfl
          · exact absurd (HS.out.2 rfl k hlt) hne)
        have HT : Hid ((db a k).ct = (db b k).ct → ∀ j, j < k + 1 → (db a j).ct = (db b j).ct) := Lib.hid (fun he j hj => by
          rcases Nat.lt_or_ge j k with hjk | hjk
          · exact hok.out j hjk
          · obtain rfl : j = k := by omega
            exact he)
        have HBN := Lib.hid (HSM.out.2 _ (db_mem a hlt))
        have HR1 := Lib.hid hr1
        have HR2 := Lib.hid hr2
        generalize db a k = x at *
        generalize db b k = y at *
        clear h1 h2 hr1 hr2 hok
        have hwx : Below wq.heap.size wq (wq.alloc (.cells #[.int .i64 x.w, .int .u64 x.i, .int .i64 x.t, .slice x.A x.b.length x.c] 55)) := (Below.refl _ _).alloc (Nat.le_refl _) _
        have BX : Hid (Bt (wq.alloc (.cells #[.int .i64 x.w, .int .u64 x.i, .int .i64 x.t, .slice x.A x.b.length x.c] 55)) wq.heap.size x) := Lib.hid (Bt.new wq x _)
        have BY := Lib.hid (Bt.new (wq.alloc (.cells #[.int .i64 x.w, .int .u64 x.i, .int .i64 x.t, .slice x.A x.b.length x.c] 55)) y 55)
        have B2' := Lib.hid (B2.out.keep (w' := wq.alloc (.cells #[.int .i64 x.w, .int .u64 x.i, .int .i64 x.t, .slice x.A x.b.length x.c] 55)) fun p hp => hwx.cell (by rw [hp]; exact World.block_lt_of_cell? wq _ B2.out.1))
        have HBX := Lib.hid (hb.out.trans (hwx.mono hb.out.size))
        have HR1' := Lib.hid (HR1.out.on hwx)
        have HR2' := Lib.hid (HR2.out.on hwx)
        go_upto_region 6 with (fail)
        generalize hw2 : wq.alloc (.cells #[.int .i64 x.w, .int .u64 x.i, .int .i64 x.t, .slice x.A x.b.length x.c] 55) = w2 at *
        generalize wq.heap.size = nb at *
        clear a0 a1 a2 a3 B2 hwx hw2 HR1 HR2 hb
        obtain ⟨b0, b1, b2, b3⟩ := B2'.out.flat
        obtain ⟨x0, x1, x2, x3⟩ := BX.out
        have hwy : Below w2.heap.size w2 (w2.alloc (.cells #[.int .i64 y.w, .int .u64 y.i, .int .i64 y.t, .slice y.A y.b.length y.c] 55)) := (Below.refl _ _).alloc (Nat.le_refl _) _
        have BX3 := Lib.hid (BX.out.on hwy)
        have HBY := Lib.hid (HBX.out.trans (hwy.mono HBX.out.size))
        have HR1 := Lib.hid (HR1'.out.on hwy)
        have HR2 := Lib.hid (HR2'.out.on hwy)
        go_upto_region 7 with (fail)
        generalize w2.alloc (.cells #[.int .i64 y.w, .int .u64 y.i, .int .i64 y.t, .slice y.A y.b.length y.c] 55) = w3 at *
        generalize w2.heap.size = nc at *
        clear b0 b1 b2 b3 x0 x1 x2 x3 hwy HR1' HR2' BX HBX B2'
        obtain ⟨x0, x1, x2, x3⟩ := BX3.out
        obtain ⟨y0, y1, y2, y3⟩ := BY.out
        by_cases e1 : x.ct = y.ct
        · have HC := Lib.hid (one_same x y _ _ w3 HBN.out HR1.out HR2.out true (by simpa using e1))
          have HT' := Lib.hid (HT.out e1)
          clear HT HF e1
          go_wp2_with fail
          refine HC.out.mono ?_
          rintro e w4 ⟨rfl, hb4⟩
          have HZ : Hid (Below w.heap.size w w4) := Lib.hid (HBY.out.trans (hb4.mono HBY.out.size))
          clear hb4 HC x0 x1 x2 x3 y0 y1 y2 y3 BX3 BY HBY HR1 HR2
          go_wp2_with fail
          go_roundw
          case rel => exact ⟨k + 1, by go_num, by omega, HT', HZ⟩
          case measure => simp [intOf]; omega
        · have HC := Lib.hid (one_same x y _ _ w3 HBN.out HR1.out HR2.out false (by simpa using e1))
          obtain rfl := HF.out e1
          clear HT HF e1
          go_wp2_with fail
          refine HC.out.mono ?_
          rintro e w4 ⟨rfl, hb4⟩
          have HZ : Hid (Below w.heap.size w w4) := Lib.hid (HBY.out.trans (hb4.mono HBY.out.size))
          clear hb4 HC x0 x1 x2 x3 y0 y1 y2 y3 BX3 BY HBY HR1 HR2
          go_wp2_with fail
          go_ret
          exact ⟨rfl, HZ.out⟩
      · have hka : k = a.length := by omega
        have hSt : S = true := HS.out.1 fun i hi => hok.out i (by omega)
        subst hSt
        have e0 : decide ((k : Int) < (a.length : Int)) = false := by simp; omega
        clear hka
        go_wp2_with fail
        go_ret
        exact ⟨rfl, hb.out⟩
  · have hSf : S = false := by rw [← hS]; simp only [decide_eq_false_iff_not]; exact fun e => hl (by simpa using congrArg List.length e)
    subst hSf
    have e0 : ((a.length : Int) == (b.length : Int)) = false := by simp only [beq_eq_false_iff_ne]; omega
    clear hS h h' hsa
    generalize a.length = n at *
    generalize b.length = n' at *
    clear hl
    go_enter Try.func40, Try.ntmps40
    go_wp2_with fail
    go_ret
    exact ⟨rfl, Below.refl _ _⟩

set_option maxRecDepth 100000 in
set_option maxHeartbeats 400000 in
theorem same_any (A A' : Option Addr) (c c' hi hi' : Nat) (a b : List Db) (w : World) (hsa : Sm a) (h : Ds w hi A a) (h' : Ds w hi' A' b) (hh : hi ≤ w.heap.size) (hh' : hi' ≤ w.heap.size) (S : Bool) (hS : decide (a.map Db.ct = b.map Db.ct) = S) :
    Calls Try.prog 19 #[.slice A a.length c, .slice A' b.length c'] w fun e w' => e = .returned (.bool S) ∧ Below w.heap.size w w' := by
  have HC := Lib.hid (equalD_any A A' c c' hi hi' a b w hsa h h' hh hh' S hS)
  clear h h' hS hsa hh hh'
  generalize a.length = n at *
  generalize b.length = m at *
  go_enter Try.func19, Try.ntmps19
  go_wp2_with (go_at_call 40; refine HC.out.mono ?_; rintro e w2 ⟨rfl, hb2⟩)
  go_ret
  exact ⟨rfl, hb2⟩

set_option maxRecDepth 100000 in
set_option maxHeartbeats 4000000 in
theorem rsame_any (A A' : Option Addr) (c c' hi hi' : Nat) (a b : List Db) (w : World) (hsa : Sm a) (h : Ds w hi A a) (h' : Ds w hi' A' b) (hh : hi ≤ w.heap.size) (hh' : hi' ≤ w.heap.size) (S : Bool) (hS : decide (a.map Db.ct = b.map Db.ct) = S) :
    Calls Try.prog 20 #[.slice A a.length c, .slice A' b.length c'] w fun e w' => e = .returned (.bool S) ∧ Below w.heap.size w w' := by
  by_cases hl : a.length = b.length
  · have H := Lib.hid h
    have H' := Lib.hid h'
    have HH := Lib.hid (And.intro hh hh')
    have HS : Hid ((∀ j, j < a.length → (db a j).ct = (db b j).ct) ↔ S = true) := Lib.hid (by
      rw [← hS, decide_eq_true_iff, ← same_dt (by simpa using hl)]
      simp only [List.length_map, ct_at])
    have HSM := Lib.hid hsa
    have hla := hsa.1
    clear h h' hS hh hh' hsa
    have HLB := Lib.hid hl
    rw [← hl]
    clear hl
    go_enter Try.func20, Try.ntmps20
    go_wp2_with fail
    go_loopw [5] (fun i wr => ∃ k : Nat, i = .int .i64 k ∧ k ≤ a.length ∧ Hid (∀ j, j < k → (db a j).ct = (db b j).ct) ∧ Hid (Below w.heap.size w wr)) (fun i _ => a.length - (intOf i).toNat)
    case atStart => exact ⟨0, rfl, Nat.zero_le _, Lib.hid (fun j hj => absurd hj (Nat.not_lt_zero j)), Lib.hid (Below.refl _ _)⟩
    case round =>
      obtain ⟨wq, ewq⟩ : ∃ wq, wq = wr := ⟨_, rfl⟩
      subst ewq
      obtain ⟨k, rfl, hk, hok, hb⟩ := hrel
      by_cases hlt : k < a.length
      · obtain ⟨ad, rfl, hlo, h1, hr1⟩ := (H.out.on hb.out HH.out.1) k hlt
        obtain ⟨ad', rfl, hlo', h2, hr2⟩ := (H'.out.on hb.out HH.out.2) k (by rw [← HLB.out]; exact hlt)
        obtain ⟨a0, a1, a2, a3⟩ := h1.flat
        obtain ⟨b0, b1, b2, b3⟩ := h2.flat
        have k0 : (0 : Int) ≤ (k : Int) := by omega
        have k1 : (k : Int) < (a.length : Int) := by omega
        have HF : Hid ((db a k).ct ≠ (db b k).ct → S = false) := Lib.hid (fun hne => by
          rcases S with _ | _
          · rfl
          · exact absurd (HS.out.2 rfl k hlt) hne)
        have HT : Hid ((db a k).ct = (db b k).ct → ∀ j, j < k + 1 → (db a j).ct = (db b j).ct) := Lib.hid (fun he j hj => by
          rcases Nat.lt_or_ge j k with hjk | hjk
          · exact hok.out j hjk
          · obtain rfl : j = k := by omega
            exact he)
        have HBN := Lib.hid (HSM.out.2 _ (db_mem a hlt))
        have HR1 := Lib.hid hr1
        have HR2 := Lib.hid hr2
        generalize db a k = x at *
        generalize db b k = y at *
        have HE : Hid (x.ct = y.ct ↔ x.w = y.w ∧ x.i = y.i ∧ x.t = y.t ∧ x.b = y.b) := Lib.hid (Dt.eq_iff x.ct y.ct)
        have HEQ : Hid (∀ (W : World) (S : Bool), Has W 0 W.heap.size x.A x.b → Has W 0 W.heap.size y.A y.b → decide (x.b = y.b) = S → Calls Try.prog 26 #[.slice x.A x.b.length x.c, .slice y.A y.b.length y.c] W fun e w' => e = .returned (.bool S) ∧ Below W.heap.size W w') := Lib.hid (fun W S hX hY hS => same2_any x.A y.A x.c y.c 0 W.heap.size 0 W.heap.size x.b y.b W (by have := HBN.out; omega) hX hY S hS)
        have A0 : ∀ p : Regrown, (grow (redrawn wq p.d) p.os).cell? (ad.add (k * 4)) = some (.int .i64 x.w) := fun p => cell_regrown a0 p.d p.os
        have A1 : ∀ p : Regrown, (grow (redrawn wq p.d) p.os).cell? ⟨(ad.add (k * 4)).block, (ad.add (k * 4)).off + 1, none⟩ = some (.int .u64 x.i) := fun p => cell_regrown a1 p.d p.os
        have A2 : ∀ p : Regrown, (grow (redrawn wq p.d) p.os).cell? ⟨(ad.add (k * 4)).block, (ad.add (k * 4)).off + 2, none⟩ = some (.int .i64 x.t) := fun p => cell_regrown a2 p.d p.os
        have A3 : ∀ p : Regrown, (grow (redrawn wq p.d) p.os).cell? ⟨(ad.add (k * 4)).block, (ad.add (k * 4)).off + 3, none⟩ = some (.slice x.A x.b.length x.c) := fun p => cell_regrown a3 p.d p.os
        have B0 : ∀ p : Regrown, (grow (redrawn wq p.d) p.os).cell? (ad'.add (k * 4)) = some (.int .i64 y.w) := fun p => cell_regrown b0 p.d p.os
        have B1 : ∀ p : Regrown, (grow (redrawn wq p.d) p.os).cell? ⟨(ad'.add (k * 4)).block, (ad'.add (k * 4)).off + 1, none⟩ = some (.int .u64 y.i) := fun p => cell_regrown b1 p.d p.os
        have B2 : ∀ p : Regrown, (grow (redrawn wq p.d) p.os).cell? ⟨(ad'.add (k * 4)).block, (ad'.add (k * 4)).off + 2, none⟩ = some (.int .i64 y.t) := fun p => cell_regrown b2 p.d p.os
        have B3 : ∀ p : Regrown, (grow (redrawn wq p.d) p.os).cell? ⟨(ad'.add (k * 4)).block, (ad'.add (k * 4)).off + 3, none⟩ = some (.slice y.A y.b.length y.c) := fun p => cell_regrown b3 p.d p.os
        clear h1 h2 hr1 hr2 hok a0 a1 a2 a3 b0 b1 b2 b3
        by_cases e1 : x.w = y.w
        · have d1 : (x.w != y.w) = false := by simpa using e1
          by_cases e2 : x.i = y.i
          · have d2 : (x.i != y.i) = false := by simpa using e2
            by_cases e3 : x.t = y.t
            · have d3 : (x.t != y.t) = false := by simpa using e3
              by_cases e4 : x.b = y.b
              · have HC := Lib.hid (fun p : Regrown => HEQ.out (grow (redrawn wq p.d) p.os) true (HR1.out.on (below_regrown wq p.d p.os)).1.has (HR2.out.on (below_regrown wq p.d p.os)).1.has (by simpa using e4))
                have HT' := Lib.hid (HT.out (HE.out.2 ⟨e1, e2, e3, e4⟩))
                clear HT HF HE HEQ e1 e2 e3 e4
                go_upto_region 6 with (fail)
                refine q_enter (by kernel_rfl) (by kernel_rfl) ?_
                iterate 51 (refine q_step ?_; intro K hK; go_simp; first | (refine hK _ ?_; clear hK K) | (refine ⟨_, fun p => Calls.regrown_of (by with_reducible exact HC.out p), hK _ ?_⟩; clear hK K))
                refine q_nil ?_
                intro wz hbz
                have HZ : Hid (Below w.heap.size w wz) := Lib.hid (hb.out.trans (hbz.mono hb.out.size))
                clear hbz A0 A1 A2 A3 B0 B1 B2 B3 hb HR1 HR2
                go_wp2_with fail
                go_roundw
                case rel => exact ⟨k + 1, by go_num, by omega, HT', HZ⟩
                case measure => simp [intOf]; omega
              · have HC := Lib.hid (fun p : Regrown => HEQ.out (grow (redrawn wq p.d) p.os) false (HR1.out.on (below_regrown wq p.d p.os)).1.has (HR2.out.on (below_regrown wq p.d p.os)).1.has (by simpa using e4))
                obtain rfl := HF.out (fun h => e4 (HE.out.1 h).2.2.2)
                clear HT HF HE HEQ e1 e2 e3 e4
                go_upto_region 6 with (fail)
                refine q_enter (by kernel_rfl) (by kernel_rfl) ?_
                iterate 51 (refine q_step ?_; intro K hK; go_simp; first | (refine hK _ ?_; clear hK K) | (refine ⟨_, fun p => Calls.regrown_of (by with_reducible exact HC.out p), hK _ ?_⟩; clear hK K))
                refine q_nil ?_
                intro wz hbz
                have HZ : Hid (Below w.heap.size w wz) := Lib.hid (hb.out.trans (hbz.mono hb.out.size))
                clear hbz A0 A1 A2 A3 B0 B1 B2 B3 hb HR1 HR2
                go_wp2_with fail
                go_ret
                exact ⟨rfl, HZ.out⟩
            · have d3 : (x.t != y.t) = true := by simpa using e3
              obtain rfl := HF.out (fun h => e3 (HE.out.1 h).2.2.1)
              clear HT HF HE HEQ e1 e2 e3
              go_upto_region 6 with (fail)
              refine q_enter (by kernel_rfl) (by kernel_rfl) ?_
              iterate 51 (refine q_step ?_; intro K hK; go_simp; refine hK _ ?_; clear hK K)
              refine q_nil ?_
              intro wz hbz
              have HZ : Hid (Below w.heap.size w wz) := Lib.hid (hb.out.trans (hbz.mono hb.out.size))
              clear hbz A0 A1 A2 A3 B0 B1 B2 B3 hb HR1 HR2
              go_wp2_with fail
              go_ret
              exact ⟨rfl, HZ.out⟩
          · have d2 : (x.i != y.i) = true := by simpa using e2
            obtain rfl := HF.out (fun h => e2 (HE.out.1 h).2.1)
            clear HT HF HE HEQ e1 e2
            go_upto_region 6 with (fail)
            refine q_enter (by kernel_rfl) (by kernel_rfl) ?_
            iterate 51 (refine q_step ?_; intro K hK; go_simp; refine hK _ ?_; clear hK K)
            refine q_nil ?_
            intro wz hbz
            have HZ : Hid (Below w.heap.size w wz) := Lib.hid (hb.out.trans (hbz.mono hb.out.size))
            clear hbz A0 A1 A2 A3 B0 B1 B2 B3 hb HR1 HR2
            go_wp2_with fail
            go_ret
            exact ⟨rfl, HZ.out⟩
        · have d1 : (x.w != y.w) = true := by simpa using e1
          obtain rfl := HF.out (fun h => e1 (HE.out.1 h).1)
          clear HT HF HE HEQ e1
          go_upto_region 6 with (fail)
          refine q_enter (by kernel_rfl) (by kernel_rfl) ?_
          iterate 51 (refine q_step ?_; intro K hK; go_simp; refine hK _ ?_; clear hK K)
          refine q_nil ?_
          intro wz hbz
          have HZ : Hid (Below w.heap.size w wz) := Lib.hid (hb.out.trans (hbz.mono hb.out.size))
          clear hbz A0 A1 A2 A3 B0 B1 B2 B3 hb HR1 HR2
          go_wp2_with fail
          go_ret
          exact ⟨rfl, HZ.out⟩
      · have hka : k = a.length := by omega
        have hSt : S = true := HS.out.1 fun i hi => hok.out i (by omega)
        subst hSt
        have e0 : decide ((k : Int) < (a.length : Int)) = false := by simp; omega
        clear hka
        go_wp2_with fail
        go_ret
        exact ⟨rfl, hb.out⟩
  · have hSf : S = false := by rw [← hS]; simp only [decide_eq_false_iff_not]; exact fun e => hl (by simpa using congrArg List.length e)
    subst hSf
    have e0 : ((a.length : Int) == (b.length : Int)) = false := by simp only [beq_eq_false_iff_ne]; omega
    clear hS h h' hsa
    generalize a.length = n at *
    generalize b.length = n' at *
    clear hl
    go_enter Try.func20, Try.ntmps20
    go_wp2_with fail
    go_ret
    exact ⟨rfl, Below.refl _ _⟩
end Go.Proofs.Ytknpbbplolncpaa
