/-
  The walks of what tells whether two are the same, of the library, of the program, and of the document; of how often a node is there.
-/
import Derived.Test.YtjeepmdklbfgeaaDoorBase
namespace Go.Proofs.YtjeepmdklbfgeaaDoor
open Go.Sort Go.RowKit Go.Proofs.YtjeepmdklbfgeaaDoor.Pure

/-- The same? -/
def same (a b : List Kn) : Bool := decide (a = b)
theorem same_at {a b : List Kn} (hl : a.length = b.length) : (∀ j, j < a.length → kn a j = kn b j) ↔ a = b := ⟨fun h => ext_kn hl h, fun h => h ▸ fun _ _ => rfl⟩

set_option maxRecDepth 100000 in
set_option maxHeartbeats 2000000 in
theorem equal_any (A A' : Option Addr) (c c' : Nat) (a b : List Kn) (w : World) (hn : a.length ≤ 1000) (h : Lst w A a) (h' : Lst w A' b) (S : Bool) (hS : decide (a = b) = S) :
    Calls Tryd.prog 33 #[.slice A a.length c, .slice A' b.length c'] w fun e w' => e = .returned (.bool S) ∧ Below w.heap.size w w' := by
  by_cases hl : a.length = b.length
  · have H := Lib.hid h
    have H' := Lib.hid h'
    have HS : Hid ((∀ j, j < a.length → kn a j = kn b j) ↔ S = true) := Lib.hid (by rw [same_at hl, ← hS, decide_eq_true_iff])
    clear h h' hS
    have hlb : b.length = a.length := hl.symm
    rw [hlb]
    clear hl
    go_enter Tryd.func33, Tryd.ntmps33
    go_wp2_with fail
    go_loopw [13] (fun i wr => ∃ k : Nat, i = .int .i64 k ∧ k ≤ a.length ∧ Hid (∀ j, j < k → kn a j = kn b j) ∧ Hid (Below w.heap.size w wr)) (fun i _ => a.length - (intOf i).toNat)
    case atStart => exact ⟨0, rfl, Nat.zero_le _, Lib.hid (fun j hj => absurd hj (Nat.not_lt_zero j)), Lib.hid (Below.refl _ _)⟩
    case round =>
      obtain ⟨k, rfl, hk, hok, hb⟩ := hrel
      by_cases hlt : k < a.length
      · obtain ⟨ad, rfl, hlo, h1⟩ := (H.out.on hb.out) k hlt
        obtain ⟨ad', rfl, hlo', h2⟩ := (H'.out.on hb.out) k (by omega)
        obtain ⟨a0, a1⟩ := h1.flat
        obtain ⟨b0, b1⟩ := h2.flat
        have hbk : (k : Int) < (b.length : Int) := by omega
        have k0 : (0 : Int) ≤ (k : Int) := by omega
        have k1 : (k : Int) < (a.length : Int) := by omega
        have HF : Hid (kn a k ≠ kn b k → S = false) := Lib.hid (fun hne => by
          rcases S with _ | _
          · rfl
          · exact absurd (HS.out.2 rfl k hlt) hne)
        have HT : Hid (kn a k = kn b k → ∀ j, j < k + 1 → kn a j = kn b j) := Lib.hid (fun he j hj => by
          rcases Nat.lt_or_ge j k with hjk | hjk
          · exact hok.out j hjk
          · obtain rfl : j = k := by omega
            exact he)
        have A0 := fun d os => cell_regrown a0 d os
        have A1 := fun d os => cell_regrown a1 d os
        have B0 := fun d os => cell_regrown b0 d os
        have B1 := fun d os => cell_regrown b1 d os
        have hz := Lib.hid hb.out.size
        generalize hx : kn a k = x at *
        generalize hy : kn b k = y at *
        clear a0 a1 b0 b1 h1 h2 hlb hx hy hok
        obtain ⟨xi, xs⟩ := x
        obtain ⟨yi, ys⟩ := y
        simp only at A0 A1 B0 B1
        by_cases e1 : xi = yi
        · by_cases e2 : xs = ys
          · subst e1 e2
            have HT' := Lib.hid (HT.out rfl)
            clear HT HF
            go_upto_region 6 with (fail)
            refine q_enter (by kernel_rfl) (by kernel_rfl) ?_
            iterate 9 (refine q_step ?_; intro K hK; go_simp; refine hK _ ?_; clear hK K)
            refine q_nil ?_
            intro wz hbz
            have HZ : Hid (Below w.heap.size w wz) := Lib.hid (hb.out.trans (hbz.mono hz.out))
            clear hbz A0 A1 B0 B1 hb hz
            go_wp2_with fail
            go_roundw
            case rel => exact ⟨k + 1, by go_num, by omega, HT', HZ⟩
            case measure => simp [intOf]; omega
          · obtain rfl := HF.out (fun h => e2 (by cases h; rfl))
            subst e1
            clear HT HF
            go_upto_region 6 with (fail)
            refine q_enter (by kernel_rfl) (by kernel_rfl) ?_
            iterate 9 (refine q_step ?_; intro K hK; go_simp; refine hK _ ?_; clear hK K)
            refine q_nil ?_
            intro wz hbz
            have HZ : Hid (Below w.heap.size w wz) := Lib.hid (hb.out.trans (hbz.mono hz.out))
            clear hbz A0 A1 B0 B1 hb hz
            go_wp2_with fail
            go_ret
            exact ⟨rfl, HZ.out⟩
        · obtain rfl := HF.out (fun h => e1 (by cases h; rfl))
          clear HT HF
          go_upto_region 6 with (fail)
          refine q_enter (by kernel_rfl) (by kernel_rfl) ?_
          iterate 9 (refine q_step ?_; intro K hK; go_simp; refine hK _ ?_; clear hK K)
          refine q_nil ?_
          intro wz hbz
          have HZ : Hid (Below w.heap.size w wz) := Lib.hid (hb.out.trans (hbz.mono hz.out))
          clear hbz A0 A1 B0 B1 hb hz
          go_wp2_with fail
          go_ret
          exact ⟨rfl, HZ.out⟩
      · have hka : k = a.length := by omega
        have hSt : S = true := HS.out.1 fun i hi => hok.out i (by omega)
        subst hSt
        have e0 : decide ((k : Int) < (a.length : Int)) = false := by simp; omega
        clear hka
        go_wp2_with fail
        go_ret
        exact ⟨rfl, hb.out⟩
  · have hSf : S = false := by rw [← hS]; simp only [decide_eq_false_iff_not]; exact fun e => hl (by rw [e])
    subst hSf
    have e0 : ((a.length : Int) == (b.length : Int)) = false := by simp only [beq_eq_false_iff_ne]; omega
    clear hS h h'
    generalize a.length = n at *
    generalize b.length = n' at *
    clear hl
    go_enter Tryd.func33, Tryd.ntmps33
    go_wp2_with fail
    go_ret
    exact ⟨rfl, Below.refl _ _⟩

set_option maxRecDepth 100000 in
set_option maxHeartbeats 2000000 in
theorem rsame_any (A A' : Option Addr) (c c' : Nat) (a b : List Kn) (w : World) (hn : a.length ≤ 1000) (h : Lst w A a) (h' : Lst w A' b) (S : Bool) (hS : decide (a = b) = S) :
    Calls Tryd.prog 35 #[.slice A a.length c, .slice A' b.length c'] w fun e w' => e = .returned (.bool S) ∧ Below w.heap.size w w' := by
  by_cases hl : a.length = b.length
  · have H := Lib.hid h
    have H' := Lib.hid h'
    have HS : Hid ((∀ j, j < a.length → kn a j = kn b j) ↔ S = true) := Lib.hid (by rw [same_at hl, ← hS, decide_eq_true_iff])
    clear h h' hS
    have hlb : b.length = a.length := hl.symm
    rw [hlb]
    clear hl
    go_enter Tryd.func35, Tryd.ntmps35
    go_wp2_with fail
    go_loopw [5] (fun i wr => ∃ k : Nat, i = .int .i64 k ∧ k ≤ a.length ∧ Hid (∀ j, j < k → kn a j = kn b j) ∧ Hid (Below w.heap.size w wr)) (fun i _ => a.length - (intOf i).toNat)
    case atStart => exact ⟨0, rfl, Nat.zero_le _, Lib.hid (fun j hj => absurd hj (Nat.not_lt_zero j)), Lib.hid (Below.refl _ _)⟩
    case round =>
      obtain ⟨k, rfl, hk, hok, hb⟩ := hrel
      by_cases hlt : k < a.length
      · obtain ⟨ad, rfl, hlo, h1⟩ := (H.out.on hb.out) k hlt
        obtain ⟨ad', rfl, hlo', h2⟩ := (H'.out.on hb.out) k (by omega)
        obtain ⟨a0, a1⟩ := h1.flat
        obtain ⟨b0, b1⟩ := h2.flat
        have hbk : (k : Int) < (b.length : Int) := by omega
        have k0 : (0 : Int) ≤ (k : Int) := by omega
        have k1 : (k : Int) < (a.length : Int) := by omega
        have HF : Hid (kn a k ≠ kn b k → S = false) := Lib.hid (fun hne => by
          rcases S with _ | _
          · rfl
          · exact absurd (HS.out.2 rfl k hlt) hne)
        have HT : Hid (kn a k = kn b k → ∀ j, j < k + 1 → kn a j = kn b j) := Lib.hid (fun he j hj => by
          rcases Nat.lt_or_ge j k with hjk | hjk
          · exact hok.out j hjk
          · obtain rfl : j = k := by omega
            exact he)
        have A0 := fun d os => cell_regrown a0 d os
        have A1 := fun d os => cell_regrown a1 d os
        have B0 := fun d os => cell_regrown b0 d os
        have B1 := fun d os => cell_regrown b1 d os
        have hz := Lib.hid hb.out.size
        generalize hx : kn a k = x at *
        generalize hy : kn b k = y at *
        clear a0 a1 b0 b1 h1 h2 hlb hx hy hok
        obtain ⟨xi, xs⟩ := x
        obtain ⟨yi, ys⟩ := y
        simp only at A0 A1 B0 B1
        by_cases e1 : xi = yi
        · by_cases e2 : xs = ys
          · subst e1 e2
            have HT' := Lib.hid (HT.out rfl)
            clear HT HF
            go_upto_region 6 with (fail)
            refine q_enter (by kernel_rfl) (by kernel_rfl) ?_
            iterate 9 (refine q_step ?_; intro K hK; go_simp; refine hK _ ?_; clear hK K)
            refine q_nil ?_
            intro wz hbz
            have HZ : Hid (Below w.heap.size w wz) := Lib.hid (hb.out.trans (hbz.mono hz.out))
            clear hbz A0 A1 B0 B1 hb hz
            go_wp2_with fail
            go_roundw
            case rel => exact ⟨k + 1, by go_num, by omega, HT', HZ⟩
            case measure => simp [intOf]; omega
          · obtain rfl := HF.out (fun h => e2 (by cases h; rfl))
            subst e1
            clear HT HF
            go_upto_region 6 with (fail)
            refine q_enter (by kernel_rfl) (by kernel_rfl) ?_
            iterate 9 (refine q_step ?_; intro K hK; go_simp; refine hK _ ?_; clear hK K)
            refine q_nil ?_
            intro wz hbz
            have HZ : Hid (Below w.heap.size w wz) := Lib.hid (hb.out.trans (hbz.mono hz.out))
            clear hbz A0 A1 B0 B1 hb hz
            go_wp2_with fail
            go_ret
            exact ⟨rfl, HZ.out⟩
        · obtain rfl := HF.out (fun h => e1 (by cases h; rfl))
          clear HT HF
          go_upto_region 6 with (fail)
          refine q_enter (by kernel_rfl) (by kernel_rfl) ?_
          iterate 9 (refine q_step ?_; intro K hK; go_simp; refine hK _ ?_; clear hK K)
          refine q_nil ?_
          intro wz hbz
          have HZ : Hid (Below w.heap.size w wz) := Lib.hid (hb.out.trans (hbz.mono hz.out))
          clear hbz A0 A1 B0 B1 hb hz
          go_wp2_with fail
          go_ret
          exact ⟨rfl, HZ.out⟩
      · have hka : k = a.length := by omega
        have hSt : S = true := HS.out.1 fun i hi => hok.out i (by omega)
        subst hSt
        have e0 : decide ((k : Int) < (a.length : Int)) = false := by simp; omega
        clear hka
        go_wp2_with fail
        go_ret
        exact ⟨rfl, hb.out⟩
  · have hSf : S = false := by rw [← hS]; simp only [decide_eq_false_iff_not]; exact fun e => hl (by rw [e])
    subst hSf
    have e0 : ((a.length : Int) == (b.length : Int)) = false := by simp only [beq_eq_false_iff_ne]; omega
    clear hS h h'
    generalize a.length = n at *
    generalize b.length = n' at *
    clear hl
    go_enter Tryd.func35, Tryd.ntmps35
    go_wp2_with fail
    go_ret
    exact ⟨rfl, Below.refl _ _⟩
end Go.Proofs.YtjeepmdklbfgeaaDoor
