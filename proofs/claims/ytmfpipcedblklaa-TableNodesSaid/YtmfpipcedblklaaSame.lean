/-
  The walks of what tells whether two are the same, of the library, of the program, and of the document; of how often a node is there.
-/
import Derived.Test.YtmfpipcedblklaaLook
namespace Go.Proofs.Ytmfpipcedblklaa
open Go.Sort Go.RowKit Go.Proofs.Ytmfpipcedblklaa.Pure

/-- The same? -/
def same (a b : List Kn) : Bool := decide (a = b)
theorem same_at {a b : List Kn} (hl : a.length = b.length) : (∀ j, j < a.length → kn a j = kn b j) ↔ a = b := ⟨fun h => ext_kn hl h, fun h => h ▸ fun _ _ => rfl⟩

set_option maxRecDepth 100000 in
set_option maxHeartbeats 2000000 in
theorem equal_any (A A' : Option Addr) (c c' : Nat) (a b : List Kn) (w : World) (hn : a.length ≤ 1000) (h : Lst w A a) (h' : Lst w A' b) (S : Bool) (hS : decide (a = b) = S) :
    Calls Try.prog 41 #[.slice A a.length c, .slice A' b.length c'] w fun e w' => e = .returned (.bool S) ∧ Below w.heap.size w w' := by
  by_cases hl : a.length = b.length
  · have H := Lib.hid h
    have H' := Lib.hid h'
    have HS : Hid ((∀ j, j < a.length → kn a j = kn b j) ↔ S = true) := Lib.hid (by rw [same_at hl, ← hS, decide_eq_true_iff])
    clear h h' hS
    have hlb : b.length = a.length := hl.symm
    rw [hlb]
    clear hl
    go_enter Try.func41, Try.ntmps41
    go_wp2_with fail
    go_loopw [13] (fun i wr => ∃ k : Nat, i = .int .i64 k ∧ k ≤ a.length ∧ Hid (∀ j, j < k → kn a j = kn b j) ∧ Hid (Below w.heap.size w wr)) (fun i _ => a.length - (intOf i).toNat)
    case atStart => exact ⟨0, rfl, Nat.zero_le _, Lib.hid (fun j hj => absurd hj (Nat.not_lt_zero j)), Lib.hid (Below.refl _ _)⟩
    case round =>
      obtain ⟨k, rfl, hk, hok, hb⟩ := hrel
      by_cases hlt : k < a.length
      · obtain ⟨ad, rfl, hlo, h1⟩ := (H.out.on hb.out) k hlt
        obtain ⟨ad', rfl, hlo', h2⟩ := (H'.out.on hb.out) k (by omega)
        obtain ⟨a0, a1⟩ := h1.flat
        obtain ⟨b0, b1⟩ := h2.flat
        have hbk : (k : Int) < (b.length : Int) := by omega
        have k0 : (0 : Int) ≤ (k : Int) := by omega
        have k1 : (k : Int) < (a.length : Int) := by omega
        have HF : Hid (kn a k ≠ kn b k → S = false) := Lib.hid (fun hne => by
          rcases S with _ | _
          · rfl
          · exact absurd (HS.out.2 rfl k hlt) hne)
        have HT : Hid (kn a k = kn b k → ∀ j, j < k + 1 → kn a j = kn b j) := Lib.hid (fun he j hj => by
          rcases Nat.lt_or_ge j k with hjk | hjk
          · exact hok.out j hjk
          · obtain rfl : j = k := by omega
            exact he)
        have A0 := fun d os => cell_regrown a0 d os
        have A1 := fun d os => cell_regrown a1 d os
        have B0 := fun d os => cell_regrown b0 d os
        have B1 := fun d os => cell_regrown b1 d os
        have hz := Lib.hid hb.out.size
        generalize hx : kn a k = x at *
        generalize hy : kn b k = y at *
        clear a0 a1 b0 b1 h1 h2 hlb hx hy hok
        obtain ⟨xi, xs⟩ := x
        obtain ⟨yi, ys⟩ := y
        simp only at A0 A1 B0 B1
        by_cases e1 : xi = yi
        · by_cases e2 : xs = ys
          · subst e1 e2
            have HT' := Lib.hid (HT.out rfl)
            clear HT HF
            go_upto_region 6 with (fail)
            refine q_enter (by kernel_rfl) (by kernel_rfl) ?_
            iterate 9 (refine q_step ?_; intro K hK; go_simp; refine hK _ ?_; clear hK K)
            refine q_nil ?_
            intro wz hbz
            have HZ : Hid (Below w.heap.size w wz) := Lib.hid (hb.out.trans (hbz.mono hz.out))
            clear hbz A0 A1 B0 B1 hb hz
            go_wp2_with fail
            go_roundw
            case rel => exact ⟨k + 1, by go_num, by omega, HT', HZ⟩
            case measure => simp [intOf]; omega
          · obtain rfl := HF.out (fun h => e2 (by cases h; rfl))
            subst e1
            clear HT HF
            go_upto_region 6 with (fail)
            refine q_enter (by kernel_rfl) (by kernel_rfl) ?_
            iterate 9 (refine q_step ?_; intro K hK; go_simp; refine hK _ ?_; clear hK K)
            refine q_nil ?_
            intro wz hbz
            have HZ : Hid (Below w.heap.size w wz) := Lib.hid (hb.out.trans (hbz.mono hz.out))
            clear hbz A0 A1 B0 B1 hb hz
            go_wp2_with fail
            go_ret
            exact ⟨rfl, HZ.out⟩
        · obtain rfl := HF.out (fun h => e1 (by cases h; rfl))
          clear HT HF
          go_upto_region 6 with (fail)
          refine q_enter (by kernel_rfl) (by kernel_rfl) ?_
          iterate 9 (refine q_step ?_; intro K hK; go_simp; refine hK _ ?_; clear hK K)
          refine q_nil ?_
          intro wz hbz
          have HZ : Hid (Below w.heap.size w wz) := Lib.hid (hb.out.trans (hbz.mono hz.out))
          clear hbz A0 A1 B0 B1 hb hz
          go_wp2_with fail
          go_ret
          exact ⟨rfl, HZ.out⟩
      · have hka : k = a.length := by omega
        have hSt : S = true := HS.out.1 fun i hi => hok.out i (by omega)
        subst hSt
        have e0 : decide ((k : Int) < (a.length : Int)) = false := by simp; omega
        clear hka
        go_wp2_with fail
        go_ret
        exact ⟨rfl, hb.out⟩
  · have hSf : S = false := by rw [← hS]; simp only [decide_eq_false_iff_not]; exact fun e => hl (by rw [e])
    subst hSf
    have e0 : ((a.length : Int) == (b.length : Int)) = false := by simp only [beq_eq_false_iff_ne]; omega
    clear hS h h'
    generalize a.length = n at *
    generalize b.length = n' at *
    clear hl
    go_enter Try.func41, Try.ntmps41
    go_wp2_with fail
    go_ret
    exact ⟨rfl, Below.refl _ _⟩

set_option maxRecDepth 100000 in
set_option maxHeartbeats 2000000 in
theorem rsame_any (A A' : Option Addr) (c c' : Nat) (a b : List Kn) (w : World) (hn : a.length ≤ 1000) (h : Lst w A a) (h' : Lst w A' b) (S : Bool) (hS : decide (a = b) = S) :
    Calls Try.prog 11 #[.slice A a.length c, .slice A' b.length c'] w fun e w' => e = .returned (.bool S) ∧ Below w.heap.size w w' := by
  by_cases hl : a.length = b.length
  · have H := Lib.hid h
    have H' := Lib.hid h'
    have HS : Hid ((∀ j, j < a.length → kn a j = kn b j) ↔ S = true) := Lib.hid (by rw [same_at hl, ← hS, decide_eq_true_iff])
    clear h h' hS
    have hlb : b.length = a.length := hl.symm
    rw [hlb]
    clear hl
    go_enter Try.func11, Try.ntmps11
    go_wp2_with fail
    go_loopw [5] (fun i wr => ∃ k : Nat, i = .int .i64 k ∧ k ≤ a.length ∧ Hid (∀ j, j < k → kn a j = kn b j) ∧ Hid (Below w.heap.size w wr)) (fun i _ => a.length - (intOf i).toNat)
    case atStart => exact ⟨0, rfl, Nat.zero_le _, Lib.hid (fun j hj => absurd hj (Nat.not_lt_zero j)), Lib.hid (Below.refl _ _)⟩
    case round =>
      obtain ⟨k, rfl, hk, hok, hb⟩ := hrel
      by_cases hlt : k < a.length
      · obtain ⟨ad, rfl, hlo, h1⟩ := (H.out.on hb.out) k hlt
        obtain ⟨ad', rfl, hlo', h2⟩ := (H'.out.on hb.out) k (by omega)
        obtain ⟨a0, a1⟩ := h1.flat
        obtain ⟨b0, b1⟩ := h2.flat
        have hbk : (k : Int) < (b.length : Int) := by omega
        have k0 : (0 : Int) ≤ (k : Int) := by omega
        have k1 : (k : Int) < (a.length : Int) := by omega
        have HF : Hid (kn a k ≠ kn b k → S = false) := Lib.hid (fun hne => by
          rcases S with _ | _
          · rfl
          · exact absurd (HS.out.2 rfl k hlt) hne)
        have HT : Hid (kn a k = kn b k → ∀ j, j < k + 1 → kn a j = kn b j) := Lib.hid (fun he j hj => by
          rcases Nat.lt_or_ge j k with hjk | hjk
          · exact hok.out j hjk
          · obtain rfl : j = k := by omega
            exact he)
        have A0 := fun d os => cell_regrown a0 d os
        have A1 := fun d os => cell_regrown a1 d os
        have B0 := fun d os => cell_regrown b0 d os
        have B1 := fun d os => cell_regrown b1 d os
        have hz := Lib.hid hb.out.size
        generalize hx : kn a k = x at *
        generalize hy : kn b k = y at *
        clear a0 a1 b0 b1 h1 h2 hlb hx hy hok
        obtain ⟨xi, xs⟩ := x
        obtain ⟨yi, ys⟩ := y
        simp only at A0 A1 B0 B1
        by_cases e1 : xi = yi
        · by_cases e2 : xs = ys
          · subst e1 e2
            have HT' := Lib.hid (HT.out rfl)
            clear HT HF
            go_upto_region 6 with (fail)
            refine q_enter (by kernel_rfl) (by kernel_rfl) ?_
            iterate 9 (refine q_step ?_; intro K hK; go_simp; refine hK _ ?_; clear hK K)
            refine q_nil ?_
            intro wz hbz
            have HZ : Hid (Below w.heap.size w wz) := Lib.hid (hb.out.trans (hbz.mono hz.out))
            clear hbz A0 A1 B0 B1 hb hz
            go_wp2_with fail
            go_roundw
            case rel => exact ⟨k + 1, by go_num, by omega, HT', HZ⟩
            case measure => simp [intOf]; omega
          · obtain rfl := HF.out (fun h => e2 (by cases h; rfl))
            subst e1
            clear HT HF
            go_upto_region 6 with (fail)
            refine q_enter (by kernel_rfl) (by kernel_rfl) ?_
            iterate 9 (refine q_step ?_; intro K hK; go_simp; refine hK _ ?_; clear hK K)
            refine q_nil ?_
            intro wz hbz
            have HZ : Hid (Below w.heap.size w wz) := Lib.hid (hb.out.trans (hbz.mono hz.out))
            clear hbz A0 A1 B0 B1 hb hz
            go_wp2_with fail
            go_ret
            exact ⟨rfl, HZ.out⟩
        · obtain rfl := HF.out (fun h => e1 (by cases h; rfl))
          clear HT HF
          go_upto_region 6 with (fail)
          refine q_enter (by kernel_rfl) (by kernel_rfl) ?_
          iterate 9 (refine q_step ?_; intro K hK; go_simp; refine hK _ ?_; clear hK K)
          refine q_nil ?_
          intro wz hbz
          have HZ : Hid (Below w.heap.size w wz) := Lib.hid (hb.out.trans (hbz.mono hz.out))
          clear hbz A0 A1 B0 B1 hb hz
          go_wp2_with fail
          go_ret
          exact ⟨rfl, HZ.out⟩
      · have hka : k = a.length := by omega
        have hSt : S = true := HS.out.1 fun i hi => hok.out i (by omega)
        subst hSt
        have e0 : decide ((k : Int) < (a.length : Int)) = false := by simp; omega
        clear hka
        go_wp2_with fail
        go_ret
        exact ⟨rfl, hb.out⟩
  · have hSf : S = false := by rw [← hS]; simp only [decide_eq_false_iff_not]; exact fun e => hl (by rw [e])
    subst hSf
    have e0 : ((a.length : Int) == (b.length : Int)) = false := by simp only [beq_eq_false_iff_ne]; omega
    clear hS h h'
    generalize a.length = n at *
    generalize b.length = n' at *
    clear hl
    go_enter Try.func11, Try.ntmps11
    go_wp2_with fail
    go_ret
    exact ⟨rfl, Below.refl _ _⟩

set_option maxRecDepth 100000 in
set_option maxHeartbeats 2000000 in
theorem tsame_any (A A' : Option Addr) (c c' : Nat) (a b : List Kn) (w : World) (hn : a.length ≤ 1000) (h : Lst w A a) (h' : Lst w A' b) (S : Bool) (hS : decide (a = b) = S) :
    Calls Try.prog 18 #[.slice A a.length c, .slice A' b.length c'] w fun e w' => e = .returned (.bool S) ∧ Below w.heap.size w w' := by
  have HE := Lib.hid (equal_any A A' c c' a b w hn h h' S hS)
  clear h h' hS hn
  generalize a.length = n at *
  generalize b.length = n' at *
  go_enter Try.func18, Try.ntmps18
  go_wp2_with fail
  refine HE.out.mono ?_
  rintro e w1 ⟨rfl, hb⟩
  have HB := Lib.hid hb
  clear hb
  go_wp2_with fail
  go_ret
  exact ⟨rfl, HB.out⟩

theorem ns_ext {a b : List Nat} (hl : a.length = b.length) : (∀ j, j < a.length → a.getD j 0 = b.getD j 0) ↔ a = b := by
  constructor
  · intro h
    apply List.ext_getElem hl
    intro j h1 h2
    have := h j h1
    simpa [h1, h2] using this
  · rintro rfl _ _; rfl

set_option maxRecDepth 100000 in
set_option maxHeartbeats 2000000 in
theorem nsame_any (A A' : Option Addr) (c c' : Nat) (a b : List Nat) (w : World) (hn : a.length ≤ 1000) (h : Ns w A a) (h' : Ns w A' b) (S : Bool) (hS : decide (a = b) = S) :
    Calls Try.prog 23 #[.slice A a.length c, .slice A' b.length c'] w fun e w' => e = .returned (.bool S) ∧ Below w.heap.size w w' := by
  by_cases hl : a.length = b.length
  · have H := Lib.hid h
    have H' := Lib.hid h'
    have HS : Hid ((∀ j, j < a.length → a.getD j 0 = b.getD j 0) ↔ S = true) := Lib.hid (by rw [ns_ext hl, ← hS, decide_eq_true_iff])
    clear h h' hS
    have hlb : b.length = a.length := hl.symm
    rw [hlb]
    clear hl
    go_enter Try.func23, Try.ntmps23
    go_wp2_with fail
    go_loopw [5] (fun i wr => ∃ k : Nat, i = .int .i64 k ∧ k ≤ a.length ∧ Hid (∀ j, j < k → a.getD j 0 = b.getD j 0) ∧ Hid (Below w.heap.size w wr)) (fun i _ => a.length - (intOf i).toNat)
    case atStart => exact ⟨0, rfl, Nat.zero_le _, Lib.hid (fun j hj => absurd hj (Nat.not_lt_zero j)), Lib.hid (Below.refl _ _)⟩
    case round =>
      obtain ⟨k, rfl, hk, hok, hb⟩ := hrel
      by_cases hlt : k < a.length
      · obtain ⟨ad, rfl, hlo, a0⟩ := (H.out.on hb.out) k hlt
        obtain ⟨ad', rfl, hlo', b0⟩ := (H'.out.on hb.out) k (by omega)
        have hbk : (k : Int) < (b.length : Int) := by omega
        have k0 : (0 : Int) ≤ (k : Int) := by omega
        have k1 : (k : Int) < (a.length : Int) := by omega
        have HF : Hid (a.getD k 0 ≠ b.getD k 0 → S = false) := Lib.hid (fun hne => by
          rcases S with _ | _
          · rfl
          · exact absurd (HS.out.2 rfl k hlt) hne)
        have HT : Hid (a.getD k 0 = b.getD k 0 → ∀ j, j < k + 1 → a.getD j 0 = b.getD j 0) := Lib.hid (fun he j hj => by
          rcases Nat.lt_or_ge j k with hjk | hjk
          · exact hok.out j hjk
          · obtain rfl : j = k := by omega
            exact he)
        have A0 := fun d os => cell_regrown a0 d os
        have B0 := fun d os => cell_regrown b0 d os
        have hz := Lib.hid hb.out.size
        generalize hx : a.getD k 0 = x at *
        generalize hy : b.getD k 0 = y at *
        clear a0 b0 hlb hx hy hok
        by_cases e1 : x = y
        · subst e1
          have HT' := Lib.hid (HT.out rfl)
          have ee : ((x : Int) != (x : Int)) = false := by simp
          clear HT HF
          go_upto_region 6 with (fail)
          refine q_enter (by kernel_rfl) (by kernel_rfl) ?_
          iterate 9 (refine q_step ?_; intro K hK; go_simp; refine hK _ ?_; clear hK K)
          refine q_nil ?_
          intro wz hbz
          have HZ : Hid (Below w.heap.size w wz) := Lib.hid (hb.out.trans (hbz.mono hz.out))
          clear hbz A0 B0 hb hz
          go_wp2_with fail
          go_roundw
          case rel => exact ⟨k + 1, by go_num, by omega, HT', HZ⟩
          case measure => simp [intOf]; omega
        · obtain rfl := HF.out e1
          have ee : ((x : Int) != (y : Int)) = true := by simp only [bne_iff_ne, ne_eq]; omega
          have ex : ¬((x : Int) = (y : Int)) := by omega
          clear HT HF
          go_upto_region 6 with (fail)
          refine q_enter (by kernel_rfl) (by kernel_rfl) ?_
          iterate 9 (refine q_step ?_; intro K hK; go_simp; refine hK _ ?_; clear hK K)
          refine q_nil ?_
          intro wz hbz
          have HZ : Hid (Below w.heap.size w wz) := Lib.hid (hb.out.trans (hbz.mono hz.out))
          clear hbz A0 B0 hb hz e1
          go_wp2_with fail
          go_ret
          exact ⟨rfl, HZ.out⟩
      · have hka : k = a.length := by omega
        have hSt : S = true := HS.out.1 fun i hi => hok.out i (by omega)
        subst hSt
        have e0 : decide ((k : Int) < (a.length : Int)) = false := by simp; omega
        clear hka
        go_wp2_with fail
        go_ret
        exact ⟨rfl, hb.out⟩
  · have hSf : S = false := by rw [← hS]; simp only [decide_eq_false_iff_not]; exact fun e => hl (by rw [e])
    subst hSf
    have e0 : ((a.length : Int) == (b.length : Int)) = false := by simp only [beq_eq_false_iff_ne]; omega
    clear hS h h'
    generalize a.length = n at *
    generalize b.length = n' at *
    clear hl
    go_enter Try.func23, Try.ntmps23
    go_wp2_with fail
    go_ret
    exact ⟨rfl, Below.refl _ _⟩

theorem count_take (a : List Nat) (x k : Nat) (h : k < a.length) : (a.take (k + 1)).count x = (a.take k).count x + if a.getD k 0 = x then 1 else 0 := by
  rw [List.take_succ_eq_append_getElem h, List.count_append]
  simp only [List.count_singleton, List.getD, List.getElem?_eq_getElem h, Option.getD_some]
  by_cases e : a[k] = x <;> simp [e]
set_option maxRecDepth 100000 in
set_option maxHeartbeats 2000000 in
theorem many_any (A : Option Addr) (c : Nat) (a : List Nat) (x : Nat) (w : World) (hn : a.length ≤ 1000) (h : Ns w A a) :
    Calls Try.prog 30 #[.slice A a.length c, .int .i64 (x : Int)] w fun e w' => e = .returned (.int .i64 ((a.count x : Nat) : Int)) ∧ Below w.heap.size w w' := by
  have H := Lib.hid h
  have HN : Hid (a.count x = (a.take a.length).count x) := Lib.hid (by rw [List.take_length])
  clear h
  go_enter Try.func30, Try.ntmps30
  go_wp2_with fail
  go_loopw [5, 6] (fun n i wr => ∃ k m : Nat, i = .int .i64 k ∧ n = .int .i64 m ∧ k ≤ a.length ∧ m ≤ k ∧ Hid (m = (a.take k).count x) ∧ Hid (Below w.heap.size w wr)) (fun _ i _ => a.length - (intOf i).toNat)
  case atStart => exact ⟨0, 0, rfl, rfl, Nat.zero_le _, Nat.le_refl _, Lib.hid (by simp), Lib.hid (Below.refl _ _)⟩
  case round =>
    obtain ⟨k, m, rfl, rfl, hk, hm, hc, hb⟩ := hrel
    by_cases hlt : k < a.length
    · obtain ⟨ad, rfl, hlo, a0⟩ := (H.out.on hb.out) k hlt
      have k0 : (0 : Int) ≤ (k : Int) := by omega
      have k1 : (k : Int) < (a.length : Int) := by omega
      have HF := Lib.hid (count_take a x k hlt)
      generalize a.getD k 0 = y at *
      by_cases e1 : y = x
      · subst e1
        have HC : Hid (m + 1 = (a.take (k + 1)).count y) := Lib.hid (by rw [HF.out, ← hc.out, if_pos rfl])
        clear HF hc
        go_wp2_with fail
        go_roundw
        case rel => exact ⟨k + 1, m + 1, by go_num, by go_num, by omega, by omega, HC, hb⟩
        case measure => simp [intOf]; omega
      · have HC : Hid (m = (a.take (k + 1)).count x) := Lib.hid (by rw [HF.out, ← hc.out, if_neg e1]; rfl)
        have ee : ((y : Int) == (x : Int)) = false := by simp only [beq_eq_false_iff_ne]; omega
        have ex : ¬((y : Int) = (x : Int)) := by omega
        clear HF hc e1
        go_wp2_with fail
        go_roundw
        case rel => exact ⟨k + 1, m, by go_num, rfl, by omega, by omega, HC, hb⟩
        case measure => simp [intOf]; omega
    · obtain rfl : k = a.length := by omega
      have HE : Hid (a.count x = m) := Lib.hid (by rw [HN.out, hc.out])
      clear HN hc
      go_wp2_with fail
      go_ret
      exact ⟨ret_int (by rw [HE.out]), hb.out⟩

set_option maxRecDepth 100000 in
set_option maxHeartbeats 2000000 in
theorem one_any (b : Bool) (w : World) : Calls Try.prog 31 #[.bool b] w fun e w' => e = .returned (.int .i64 (if b = true then 1 else 0)) ∧ w = w' := by
  rcases b with _ | _
  · go_enter Try.func31, Try.ntmps31
    go_wp2
    go_ret
    exact ⟨rfl, rfl⟩
  · go_enter Try.func31, Try.ntmps31
    go_wp2
    go_ret
    exact ⟨rfl, rfl⟩

end Go.Proofs.Ytmfpipcedblklaa
