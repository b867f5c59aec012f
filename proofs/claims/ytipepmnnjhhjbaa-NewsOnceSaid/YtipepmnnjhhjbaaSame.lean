/-
  The walks of what tells whether two queues are the same, of the library, of the program, and of the document; whether news are.
-/
import Derived.Test.YtipepmnnjhhjbaaBudget
import Derived.Laws.StructEq
namespace Go.Proofs.Ytipepmnnjhhjbaa
open Go.Sort Go.RowKit Go.Proofs.Ytipepmnnjhhjbaa.Pure

theorem Td.eq_iff (x y : Td) : x = y ↔ x.w = y.w ∧ x.i = y.i ∧ x.s = y.s ∧ x.l = y.l := by
  obtain ⟨a, b, c, d⟩ := x
  obtain ⟨a', b', c', d'⟩ := y
  simp
theorem Nw.eq_iff (x y : Nw) : x = y ↔ x.w = y.w ∧ x.i = y.i ∧ x.s = y.s := by
  obtain ⟨a, b, c⟩ := x
  obtain ⟨a', b', c'⟩ := y
  simp
theorem ext_td {a b : List Td} (hl : a.length = b.length) (h : ∀ j, j < a.length → td a j = td b j) : a = b := List.ext_getElem hl fun j h1 h2 => by
  have := h j h1
  rwa [td_lt a h1, td_lt b h2] at this
theorem ext_nw {a b : List Nw} (hl : a.length = b.length) (h : ∀ j, j < a.length → nw a j = nw b j) : a = b := List.ext_getElem hl fun j h1 h2 => by
  have := h j h1
  rwa [nw_lt a h1, nw_lt b h2] at this
theorem same_td {a b : List Td} (hl : a.length = b.length) : (∀ j, j < a.length → td a j = td b j) ↔ a = b := ⟨fun h => ext_td hl h, fun h => h ▸ fun _ _ => rfl⟩
theorem same_nw {a b : List Nw} (hl : a.length = b.length) : (∀ j, j < a.length → nw a j = nw b j) ↔ a = b := ⟨fun h => ext_nw hl h, fun h => h ▸ fun _ _ => rfl⟩

theorem neq_td (x y : Td) (w : World) : (binOp .neq 59 (.agg #[.int .i64 x.w, .int .u64 x.i, .int .i64 x.s, .int .i64 x.l]) (.agg #[.int .i64 y.w, .int .u64 y.i, .int .i64 y.s, .int .i64 y.l])).run Try.prog w = .ok (.bool (!decide (x = y))) w := by
  have he : decide (x = y) = (decide (x.w = y.w) && (decide (x.i = y.i) && (decide (x.s = y.s) && decide (x.l = y.l)))) := by
    rw [Bool.eq_iff_iff]
    simp [Td.eq_iff]
  rw [he]
  go_simp
  by_cases h1 : x.w = y.w <;> by_cases h2 : x.i = y.i <;> by_cases h3 : x.s = y.s <;> by_cases h4 : x.l = y.l <;> simp [h1, h2, h3, h4]
theorem neq_nw (x y : Nw) (w : World) : (binOp .neq 27 (.agg #[.int .i64 x.w, .int .u64 x.i, .int .i64 x.s]) (.agg #[.int .i64 y.w, .int .u64 y.i, .int .i64 y.s])).run Try.prog w = .ok (.bool (!decide (x = y))) w := by
  have he : decide (x = y) = (decide (x.w = y.w) && (decide (x.i = y.i) && decide (x.s = y.s))) := by
    rw [Bool.eq_iff_iff]
    simp [Nw.eq_iff]
  rw [he]
  go_simp
  by_cases h1 : x.w = y.w <;> by_cases h2 : x.i = y.i <;> by_cases h3 : x.s = y.s <;> simp [h1, h2, h3]

set_option maxRecDepth 100000 in
set_option maxHeartbeats 2000000 in
theorem equal_any (A A' : Option Addr) (c c' : Nat) (a b : List Td) (w : World) (hn : a.length ≤ 1000) (h : Ts w A a) (h' : Ts w A' b) (S : Bool) (hS : decide (a = b) = S) :
    Calls Try.prog 36 #[.slice A a.length c, .slice A' b.length c'] w fun e w' => e = .returned (.bool S) ∧ Below w.heap.size w w' := by
  by_cases hl : a.length = b.length
  · have H := Lib.hid h
    have H' := Lib.hid h'
    have HS : Hid ((∀ j, j < a.length → td a j = td b j) ↔ S = true) := Lib.hid (by rw [same_td hl, ← hS, decide_eq_true_iff])
    clear h h' hS
    have hlb : b.length = a.length := hl.symm
    rw [hlb]
    clear hl
    go_enter Try.func36, Try.ntmps36
    go_wp2_with fail
    go_loopw [13] (fun i wr => ∃ k : Nat, i = .int .i64 k ∧ k ≤ a.length ∧ Hid (∀ j, j < k → td a j = td b j) ∧ Hid (Below w.heap.size w wr)) (fun i _ => a.length - (intOf i).toNat)
    case atStart => exact ⟨0, rfl, Nat.zero_le _, Lib.hid (fun j hj => absurd hj (Nat.not_lt_zero j)), Lib.hid (Below.refl _ _)⟩
    case round =>
      obtain ⟨k, rfl, hk, hok, hb⟩ := hrel
      by_cases hlt : k < a.length
      · obtain ⟨ad, rfl, hlo, h1⟩ := (H.out.on hb.out) k hlt
        obtain ⟨ad', rfl, hlo', h2⟩ := (H'.out.on hb.out) k (by omega)
        obtain ⟨a0, a1, a2, a3⟩ := h1.flat
        obtain ⟨b0, b1, b2, b3⟩ := h2.flat
        have hbk : (k : Int) < (b.length : Int) := by omega
        have k0 : (0 : Int) ≤ (k : Int) := by omega
        have k1 : (k : Int) < (a.length : Int) := by omega
        have HF : Hid (td a k ≠ td b k → S = false) := Lib.hid (fun hne => by
          rcases S with _ | _
          · rfl
          · exact absurd (HS.out.2 rfl k hlt) hne)
        have HT : Hid (td a k = td b k → ∀ j, j < k + 1 → td a j = td b j) := Lib.hid (fun he j hj => by
          rcases Nat.lt_or_ge j k with hjk | hjk
          · exact hok.out j hjk
          · obtain rfl : j = k := by omega
            exact he)
        have hz := Lib.hid hb.out.size
        have hq := fun W => neq_td (td a k) (td b k) W
        generalize hx : td a k = x at *
        generalize hy : td b k = y at *
        have A0 : ∀ p : Regrown, (grow (redrawn wr p.d) p.os).cell? (ad.add (k * 4)) = some (.int .i64 x.w) := fun p => cell_regrown a0 p.d p.os
        have A1 : ∀ p : Regrown, (grow (redrawn wr p.d) p.os).cell? ⟨(ad.add (k * 4)).block, (ad.add (k * 4)).off + 1, none⟩ = some (.int .u64 x.i) := fun p => cell_regrown a1 p.d p.os
        have A2 : ∀ p : Regrown, (grow (redrawn wr p.d) p.os).cell? ⟨(ad.add (k * 4)).block, (ad.add (k * 4)).off + 2, none⟩ = some (.int .i64 x.s) := fun p => cell_regrown a2 p.d p.os
        have A3 : ∀ p : Regrown, (grow (redrawn wr p.d) p.os).cell? ⟨(ad.add (k * 4)).block, (ad.add (k * 4)).off + 3, none⟩ = some (.int .i64 x.l) := fun p => cell_regrown a3 p.d p.os
        have B0 : ∀ p : Regrown, (grow (redrawn wr p.d) p.os).cell? (ad'.add (k * 4)) = some (.int .i64 y.w) := fun p => cell_regrown b0 p.d p.os
        have B1 : ∀ p : Regrown, (grow (redrawn wr p.d) p.os).cell? ⟨(ad'.add (k * 4)).block, (ad'.add (k * 4)).off + 1, none⟩ = some (.int .u64 y.i) := fun p => cell_regrown b1 p.d p.os
        have B2 : ∀ p : Regrown, (grow (redrawn wr p.d) p.os).cell? ⟨(ad'.add (k * 4)).block, (ad'.add (k * 4)).off + 2, none⟩ = some (.int .i64 y.s) := fun p => cell_regrown b2 p.d p.os
        have B3 : ∀ p : Regrown, (grow (redrawn wr p.d) p.os).cell? ⟨(ad'.add (k * 4)).block, (ad'.add (k * 4)).off + 3, none⟩ = some (.int .i64 y.l) := fun p => cell_regrown b3 p.d p.os
        clear a0 a1 a2 a3 b0 b1 b2 b3 h1 h2 hlb hx hy hok
        by_cases e1 : x = y
        · have e2 : decide (x = y) = true := by simpa using e1
          have HT' := Lib.hid (HT.out e1)
          rw [e2] at hq
          clear HT HF e1 e2
          go_upto_region 6 with (fail)
          refine q_enter (by kernel_rfl) (by kernel_rfl) ?_
          iterate 9 (refine q_step ?_; intro K hK; go_simp; refine hK _ ?_; clear hK K)
          refine q_nil ?_
          intro wz hbz
          have HZ : Hid (Below w.heap.size w wz) := Lib.hid (hb.out.trans (hbz.mono hz.out))
          clear hbz A0 A1 A2 A3 B0 B1 B2 B3 hb hz hq
          go_wp2_with fail
          go_roundw
          case rel => exact ⟨k + 1, by go_num, by omega, HT', HZ⟩
          case measure => simp [intOf]; omega
        · have e2 : decide (x = y) = false := by simpa using e1
          obtain rfl := HF.out e1
          rw [e2] at hq
          clear HT HF e1 e2
          go_upto_region 6 with (fail)
          refine q_enter (by kernel_rfl) (by kernel_rfl) ?_
          iterate 9 (refine q_step ?_; intro K hK; go_simp; refine hK _ ?_; clear hK K)
          refine q_nil ?_
          intro wz hbz
          have HZ : Hid (Below w.heap.size w wz) := Lib.hid (hb.out.trans (hbz.mono hz.out))
          clear hbz A0 A1 A2 A3 B0 B1 B2 B3 hb hz hq
          go_wp2_with fail
          go_ret
          exact ⟨rfl, HZ.out⟩
      · have hka : k = a.length := by omega
        have hSt : S = true := HS.out.1 fun i hi => hok.out i (by omega)
        subst hSt
        have e0 : decide ((k : Int) < (a.length : Int)) = false := by simp; omega
        clear hka
        go_wp2_with fail
        go_ret
        exact ⟨rfl, hb.out⟩
  · have hSf : S = false := by rw [← hS]; simp only [decide_eq_false_iff_not]; exact fun e => hl (by rw [e])
    subst hSf
    have e0 : ((a.length : Int) == (b.length : Int)) = false := by simp only [beq_eq_false_iff_ne]; omega
    clear hS h h'
    generalize a.length = n at *
    generalize b.length = n' at *
    clear hl
    go_enter Try.func36, Try.ntmps36
    go_wp2_with fail
    go_ret
    exact ⟨rfl, Below.refl _ _⟩

set_option maxRecDepth 100000 in
set_option maxHeartbeats 2000000 in
theorem rsame_any (A A' : Option Addr) (c c' : Nat) (a b : List Td) (w : World) (hn : a.length ≤ 1000) (h : Ts w A a) (h' : Ts w A' b) (S : Bool) (hS : decide (a = b) = S) :
    Calls Try.prog 17 #[.slice A a.length c, .slice A' b.length c'] w fun e w' => e = .returned (.bool S) ∧ Below w.heap.size w w' := by
  by_cases hl : a.length = b.length
  · have H := Lib.hid h
    have H' := Lib.hid h'
    have HS : Hid ((∀ j, j < a.length → td a j = td b j) ↔ S = true) := Lib.hid (by rw [same_td hl, ← hS, decide_eq_true_iff])
    clear h h' hS
    have hlb : b.length = a.length := hl.symm
    rw [hlb]
    clear hl
    go_enter Try.func17, Try.ntmps17
    go_wp2_with fail
    go_loopw [5] (fun i wr => ∃ k : Nat, i = .int .i64 k ∧ k ≤ a.length ∧ Hid (∀ j, j < k → td a j = td b j) ∧ Hid (Below w.heap.size w wr)) (fun i _ => a.length - (intOf i).toNat)
    case atStart => exact ⟨0, rfl, Nat.zero_le _, Lib.hid (fun j hj => absurd hj (Nat.not_lt_zero j)), Lib.hid (Below.refl _ _)⟩
    case round =>
      obtain ⟨k, rfl, hk, hok, hb⟩ := hrel
      by_cases hlt : k < a.length
      · obtain ⟨ad, rfl, hlo, h1⟩ := (H.out.on hb.out) k hlt
        obtain ⟨ad', rfl, hlo', h2⟩ := (H'.out.on hb.out) k (by omega)
        obtain ⟨a0, a1, a2, a3⟩ := h1.flat
        obtain ⟨b0, b1, b2, b3⟩ := h2.flat
        have hbk : (k : Int) < (b.length : Int) := by omega
        have k0 : (0 : Int) ≤ (k : Int) := by omega
        have k1 : (k : Int) < (a.length : Int) := by omega
        have HF : Hid (td a k ≠ td b k → S = false) := Lib.hid (fun hne => by
          rcases S with _ | _
          · rfl
          · exact absurd (HS.out.2 rfl k hlt) hne)
        have HT : Hid (td a k = td b k → ∀ j, j < k + 1 → td a j = td b j) := Lib.hid (fun he j hj => by
          rcases Nat.lt_or_ge j k with hjk | hjk
          · exact hok.out j hjk
          · obtain rfl : j = k := by omega
            exact he)
        have hz := Lib.hid hb.out.size
        have hq := fun W => neq_td (td a k) (td b k) W
        generalize hx : td a k = x at *
        generalize hy : td b k = y at *
        have A0 : ∀ p : Regrown, (grow (redrawn wr p.d) p.os).cell? (ad.add (k * 4)) = some (.int .i64 x.w) := fun p => cell_regrown a0 p.d p.os
        have A1 : ∀ p : Regrown, (grow (redrawn wr p.d) p.os).cell? ⟨(ad.add (k * 4)).block, (ad.add (k * 4)).off + 1, none⟩ = some (.int .u64 x.i) := fun p => cell_regrown a1 p.d p.os
        have A2 : ∀ p : Regrown, (grow (redrawn wr p.d) p.os).cell? ⟨(ad.add (k * 4)).block, (ad.add (k * 4)).off + 2, none⟩ = some (.int .i64 x.s) := fun p => cell_regrown a2 p.d p.os
        have A3 : ∀ p : Regrown, (grow (redrawn wr p.d) p.os).cell? ⟨(ad.add (k * 4)).block, (ad.add (k * 4)).off + 3, none⟩ = some (.int .i64 x.l) := fun p => cell_regrown a3 p.d p.os
        have B0 : ∀ p : Regrown, (grow (redrawn wr p.d) p.os).cell? (ad'.add (k * 4)) = some (.int .i64 y.w) := fun p => cell_regrown b0 p.d p.os
        have B1 : ∀ p : Regrown, (grow (redrawn wr p.d) p.os).cell? ⟨(ad'.add (k * 4)).block, (ad'.add (k * 4)).off + 1, none⟩ = some (.int .u64 y.i) := fun p => cell_regrown b1 p.d p.os
        have B2 : ∀ p : Regrown, (grow (redrawn wr p.d) p.os).cell? ⟨(ad'.add (k * 4)).block, (ad'.add (k * 4)).off + 2, none⟩ = some (.int .i64 y.s) := fun p => cell_regrown b2 p.d p.os
        have B3 : ∀ p : Regrown, (grow (redrawn wr p.d) p.os).cell? ⟨(ad'.add (k * 4)).block, (ad'.add (k * 4)).off + 3, none⟩ = some (.int .i64 y.l) := fun p => cell_regrown b3 p.d p.os
        clear a0 a1 a2 a3 b0 b1 b2 b3 h1 h2 hlb hx hy hok
        by_cases e1 : x = y
        · have e2 : decide (x = y) = true := by simpa using e1
          have HT' := Lib.hid (HT.out e1)
          rw [e2] at hq
          clear HT HF e1 e2
          go_upto_region 6 with (fail)
          refine q_enter (by kernel_rfl) (by kernel_rfl) ?_
          iterate 9 (refine q_step ?_; intro K hK; go_simp; refine hK _ ?_; clear hK K)
          refine q_nil ?_
          intro wz hbz
          have HZ : Hid (Below w.heap.size w wz) := Lib.hid (hb.out.trans (hbz.mono hz.out))
          clear hbz A0 A1 A2 A3 B0 B1 B2 B3 hb hz hq
          go_wp2_with fail
          go_roundw
          case rel => exact ⟨k + 1, by go_num, by omega, HT', HZ⟩
          case measure => simp [intOf]; omega
        · have e2 : decide (x = y) = false := by simpa using e1
          obtain rfl := HF.out e1
          rw [e2] at hq
          clear HT HF e1 e2
          go_upto_region 6 with (fail)
          refine q_enter (by kernel_rfl) (by kernel_rfl) ?_
          iterate 9 (refine q_step ?_; intro K hK; go_simp; refine hK _ ?_; clear hK K)
          refine q_nil ?_
          intro wz hbz
          have HZ : Hid (Below w.heap.size w wz) := Lib.hid (hb.out.trans (hbz.mono hz.out))
          clear hbz A0 A1 A2 A3 B0 B1 B2 B3 hb hz hq
          go_wp2_with fail
          go_ret
          exact ⟨rfl, HZ.out⟩
      · have hka : k = a.length := by omega
        have hSt : S = true := HS.out.1 fun i hi => hok.out i (by omega)
        subst hSt
        have e0 : decide ((k : Int) < (a.length : Int)) = false := by simp; omega
        clear hka
        go_wp2_with fail
        go_ret
        exact ⟨rfl, hb.out⟩
  · have hSf : S = false := by rw [← hS]; simp only [decide_eq_false_iff_not]; exact fun e => hl (by rw [e])
    subst hSf
    have e0 : ((a.length : Int) == (b.length : Int)) = false := by simp only [beq_eq_false_iff_ne]; omega
    clear hS h h'
    generalize a.length = n at *
    generalize b.length = n' at *
    clear hl
    go_enter Try.func17, Try.ntmps17
    go_wp2_with fail
    go_ret
    exact ⟨rfl, Below.refl _ _⟩

set_option maxRecDepth 100000 in
set_option maxHeartbeats 2000000 in
theorem rnews_any (A A' : Option Addr) (c c' : Nat) (a b : List Nw) (w : World) (hn : a.length ≤ 1000) (h : Ns w A a) (h' : Ns w A' b) (S : Bool) (hS : decide (a = b) = S) :
    Calls Try.prog 22 #[.slice A a.length c, .slice A' b.length c'] w fun e w' => e = .returned (.bool S) ∧ Below w.heap.size w w' := by
  by_cases hl : a.length = b.length
  · have H := Lib.hid h
    have H' := Lib.hid h'
    have HS : Hid ((∀ j, j < a.length → nw a j = nw b j) ↔ S = true) := Lib.hid (by rw [same_nw hl, ← hS, decide_eq_true_iff])
    clear h h' hS
    have hlb : b.length = a.length := hl.symm
    rw [hlb]
    clear hl
    go_enter Try.func22, Try.ntmps22
    go_wp2_with fail
    go_loopw [5] (fun i wr => ∃ k : Nat, i = .int .i64 k ∧ k ≤ a.length ∧ Hid (∀ j, j < k → nw a j = nw b j) ∧ Hid (Below w.heap.size w wr)) (fun i _ => a.length - (intOf i).toNat)
    case atStart => exact ⟨0, rfl, Nat.zero_le _, Lib.hid (fun j hj => absurd hj (Nat.not_lt_zero j)), Lib.hid (Below.refl _ _)⟩
    case round =>
      obtain ⟨k, rfl, hk, hok, hb⟩ := hrel
      by_cases hlt : k < a.length
      · obtain ⟨ad, rfl, hlo, h1⟩ := (H.out.on hb.out) k hlt
        obtain ⟨ad', rfl, hlo', h2⟩ := (H'.out.on hb.out) k (by omega)
        obtain ⟨a0, a1, a2⟩ := h1.flat
        obtain ⟨b0, b1, b2⟩ := h2.flat
        have hbk : (k : Int) < (b.length : Int) := by omega
        have k0 : (0 : Int) ≤ (k : Int) := by omega
        have k1 : (k : Int) < (a.length : Int) := by omega
        have HF : Hid (nw a k ≠ nw b k → S = false) := Lib.hid (fun hne => by
          rcases S with _ | _
          · rfl
          · exact absurd (HS.out.2 rfl k hlt) hne)
        have HT : Hid (nw a k = nw b k → ∀ j, j < k + 1 → nw a j = nw b j) := Lib.hid (fun he j hj => by
          rcases Nat.lt_or_ge j k with hjk | hjk
          · exact hok.out j hjk
          · obtain rfl : j = k := by omega
            exact he)
        have hz := Lib.hid hb.out.size
        have hq := fun W => neq_nw (nw a k) (nw b k) W
        generalize hx : nw a k = x at *
        generalize hy : nw b k = y at *
        have A0 : ∀ p : Regrown, (grow (redrawn wr p.d) p.os).cell? (ad.add (k * 3)) = some (.int .i64 x.w) := fun p => cell_regrown a0 p.d p.os
        have A1 : ∀ p : Regrown, (grow (redrawn wr p.d) p.os).cell? ⟨(ad.add (k * 3)).block, (ad.add (k * 3)).off + 1, none⟩ = some (.int .u64 x.i) := fun p => cell_regrown a1 p.d p.os
        have A2 : ∀ p : Regrown, (grow (redrawn wr p.d) p.os).cell? ⟨(ad.add (k * 3)).block, (ad.add (k * 3)).off + 2, none⟩ = some (.int .i64 x.s) := fun p => cell_regrown a2 p.d p.os
        have B0 : ∀ p : Regrown, (grow (redrawn wr p.d) p.os).cell? (ad'.add (k * 3)) = some (.int .i64 y.w) := fun p => cell_regrown b0 p.d p.os
        have B1 : ∀ p : Regrown, (grow (redrawn wr p.d) p.os).cell? ⟨(ad'.add (k * 3)).block, (ad'.add (k * 3)).off + 1, none⟩ = some (.int .u64 y.i) := fun p => cell_regrown b1 p.d p.os
        have B2 : ∀ p : Regrown, (grow (redrawn wr p.d) p.os).cell? ⟨(ad'.add (k * 3)).block, (ad'.add (k * 3)).off + 2, none⟩ = some (.int .i64 y.s) := fun p => cell_regrown b2 p.d p.os
        clear a0 a1 a2 b0 b1 b2 h1 h2 hlb hx hy hok
        by_cases e1 : x = y
        · have e2 : decide (x = y) = true := by simpa using e1
          have HT' := Lib.hid (HT.out e1)
          rw [e2] at hq
          clear HT HF e1 e2
          go_upto_region 6 with (fail)
          refine q_enter (by kernel_rfl) (by kernel_rfl) ?_
          iterate 9 (refine q_step ?_; intro K hK; go_simp; refine hK _ ?_; clear hK K)
          refine q_nil ?_
          intro wz hbz
          have HZ : Hid (Below w.heap.size w wz) := Lib.hid (hb.out.trans (hbz.mono hz.out))
          clear hbz A0 A1 A2 B0 B1 B2 hb hz hq
          go_wp2_with fail
          go_roundw
          case rel => exact ⟨k + 1, by go_num, by omega, HT', HZ⟩
          case measure => simp [intOf]; omega
        · have e2 : decide (x = y) = false := by simpa using e1
          obtain rfl := HF.out e1
          rw [e2] at hq
          clear HT HF e1 e2
          go_upto_region 6 with (fail)
          refine q_enter (by kernel_rfl) (by kernel_rfl) ?_
          iterate 9 (refine q_step ?_; intro K hK; go_simp; refine hK _ ?_; clear hK K)
          refine q_nil ?_
          intro wz hbz
          have HZ : Hid (Below w.heap.size w wz) := Lib.hid (hb.out.trans (hbz.mono hz.out))
          clear hbz A0 A1 A2 B0 B1 B2 hb hz hq
          go_wp2_with fail
          go_ret
          exact ⟨rfl, HZ.out⟩
      · have hka : k = a.length := by omega
        have hSt : S = true := HS.out.1 fun i hi => hok.out i (by omega)
        subst hSt
        have e0 : decide ((k : Int) < (a.length : Int)) = false := by simp; omega
        clear hka
        go_wp2_with fail
        go_ret
        exact ⟨rfl, hb.out⟩
  · have hSf : S = false := by rw [← hS]; simp only [decide_eq_false_iff_not]; exact fun e => hl (by rw [e])
    subst hSf
    have e0 : ((a.length : Int) == (b.length : Int)) = false := by simp only [beq_eq_false_iff_ne]; omega
    clear hS h h'
    generalize a.length = n at *
    generalize b.length = n' at *
    clear hl
    go_enter Try.func22, Try.ntmps22
    go_wp2_with fail
    go_ret
    exact ⟨rfl, Below.refl _ _⟩

set_option maxRecDepth 100000 in
set_option maxHeartbeats 1000000 in
theorem qsame_any (A A' : Option Addr) (c c' : Nat) (a b : List Td) (w : World) (hn : a.length ≤ 1000) (h : Ts w A a) (h' : Ts w A' b) (S : Bool) (hS : decide (a = b) = S) :
    Calls Try.prog 16 #[.slice A a.length c, .slice A' b.length c'] w fun e w' => e = .returned (.bool S) ∧ Below w.heap.size w w' := by
  have HC := Lib.hid (equal_any A A' c c' a b w hn h h' S hS)
  clear hS h h'
  generalize a.length = n at *
  generalize b.length = n' at *
  go_enter Try.func16, Try.ntmps16
  go_wp2_with (go_at_call 36; refine HC.out.mono ?_; rintro e w1 ⟨rfl, hb1⟩)
  go_ret
  exact ⟨rfl, hb1⟩
end Go.Proofs.Ytipepmnnjhhjbaa
