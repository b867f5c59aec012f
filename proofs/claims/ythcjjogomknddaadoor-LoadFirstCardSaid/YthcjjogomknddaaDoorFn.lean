/-
  The walks of Bound (the program's and the document's), Many and Same, and of the law's cut.
-/
import Derived.Test.YthcjjogomknddaaDoorRw
namespace Go.Proofs.YthcjjogomknddaaDoor
open Go.Sort Go.RowKit Go.Proofs.YthcjjogomknddaaDoor.Pure

set_option maxRecDepth 100000 in
set_option maxHeartbeats 2000000 in
theorem bound_yes (t n : Nat) (w : World) (ht : t ≤ 100) (h1 : 1 ≤ n) (h2 : n ≤ 64) :
    Calls Tryd.prog 13 #[.int .i64 (t : Int), .int .i64 (n : Int)] w fun e w' => e = .returned (.tuple #[.int .i64 ((boundN t n : Nat) : Int), .int .i64 0]) ∧ w = w' := by
  obtain ⟨k, hk⟩ : ∃ k, boundN t n = k := ⟨_, rfl⟩
  obtain ⟨b, hb⟩ : ∃ b, b = 4 * n := ⟨_, rfl⟩
  obtain ⟨s, hs⟩ : ∃ s, s = 5 * t := ⟨_, rfl⟩
  obtain ⟨u, hu⟩ : ∃ u, u = s + b := ⟨_, rfl⟩
  obtain ⟨x, hx⟩ : ∃ x, x = u - 1 := ⟨_, rfl⟩
  have hkx : x / b = k := by rw [← hk, hx, hu, hs, hb]; unfold boundN; rw [show 5 * t + 4 * n - 1 = 5 * t + (4 * n - 1) by omega]
  have hkl : k ≤ x := by rw [← hkx]; exact Nat.div_le_self _ _
  have w1 : IntKind.i64.wrap (4 * (n : Int)) = (b : Int) := by rw [IntWalk.i64_in _ (by omega)]; omega
  have w2 : IntKind.i64.wrap (5 * (t : Int)) = (s : Int) := by rw [IntWalk.i64_in _ (by omega)]; omega
  have w3 : IntKind.i64.wrap ((s : Int) + (b : Int)) = (u : Int) := by rw [IntWalk.i64_in _ (by omega)]; omega
  have w4 : IntKind.i64.wrap ((u : Int) - 1) = (x : Int) := by rw [IntWalk.i64_in _ (by omega)]; omega
  have w5 : Int.tdiv (x : Int) (b : Int) = (k : Int) := by rw [← hkx]; rfl
  have w6 : IntKind.i64.wrap (k : Int) = (k : Int) := IntWalk.i64_in _ (by omega)
  have bz : ¬ (b : Int) = 0 := by omega
  have bz' : ¬ b = 0 := by omega
  have c1 : decide ((t : Int) < 0) = false := by simp
  have c2 : decide (100 < (t : Int)) = false := by simp; omega
  have c3 : decide ((n : Int) < 1) = false := by simp; omega
  have c4 : decide (64 < (n : Int)) = false := by simp; omega
  have c2' : decide (100 < t) = false := by simp; omega
  have c3' : decide (n < 1) = false := by simp; omega
  have c4' : decide (64 < n) = false := by simp; omega
  rw [hk]
  clear hk hb hs hu hx hkx hkl
  go_enter Tryd.func13, Tryd.ntmps13
  go_wp2_with fail
  exact bodyPost_ret (v := .tuple #[.int .i64 (k : Int), .int .i64 0]) (by simp [results, Tryd.results13, go_sem]) rfl ⟨rfl, rfl⟩
set_option maxRecDepth 100000 in
set_option maxHeartbeats 2000000 in
theorem bound_no (t n : Int) (w : World) (h : t < 0 ∨ 100 < t ∨ n < 1 ∨ 64 < n) :
    Calls Tryd.prog 13 #[.int .i64 t, .int .i64 n] w fun e w' => e = .returned (.tuple #[.int .i64 0, .int .i64 1]) ∧ w = w' := by
  rcases a1 : decide (t < 0) with _ | _
  · rcases a2 : decide (100 < t) with _ | _
    · rcases a3 : decide (n < 1) with _ | _
      · have a4 : decide (64 < n) = true := by simp at a1 a2 a3 ⊢; omega
        go_enter Tryd.func13, Tryd.ntmps13
        go_wp2_with fail
        exact bodyPost_ret (v := .tuple #[.int .i64 0, .int .i64 1]) (by simp [results, Tryd.results13, go_sem]) rfl ⟨rfl, rfl⟩
      · go_enter Tryd.func13, Tryd.ntmps13
        go_wp2_with fail
        exact bodyPost_ret (v := .tuple #[.int .i64 0, .int .i64 1]) (by simp [results, Tryd.results13, go_sem]) rfl ⟨rfl, rfl⟩
    · go_enter Tryd.func13, Tryd.ntmps13
      go_wp2_with fail
      exact bodyPost_ret (v := .tuple #[.int .i64 0, .int .i64 1]) (by simp [results, Tryd.results13, go_sem]) rfl ⟨rfl, rfl⟩
  · go_enter Tryd.func13, Tryd.ntmps13
    go_wp2_with fail
    exact bodyPost_ret (v := .tuple #[.int .i64 0, .int .i64 1]) (by simp [results, Tryd.results13, go_sem]) rfl ⟨rfl, rfl⟩
set_option maxRecDepth 100000 in
set_option maxHeartbeats 2000000 in
theorem rbound_any (t n : Nat) (w : World) (ht : t ≤ 101) (h1 : 1 ≤ n) (h2 : n ≤ 65) :
    Calls Tryd.prog 14 #[.int .i64 (t : Int), .int .i64 (n : Int)] w fun e w' => e = .returned (.int .i64 ((boundN t n : Nat) : Int)) ∧ w = w' := by
  have hB := bound_le (n := n) (t := t) (by omega)
  have HL : Hid (∀ k, k < boundN t n → 4 * n * k < 5 * t) := Lib.hid fun k hk => bound_lt (by omega) hk
  have HG : Hid (∀ k, boundN t n ≤ k → 5 * t ≤ 4 * n * k) := Lib.hid fun k hk => Nat.le_trans (bound_ge t (by omega)) (Nat.mul_le_mul_left _ hk)
  generalize boundN t n = B at *
  obtain ⟨s, hs⟩ : ∃ s, s = 5 * t := ⟨_, rfl⟩
  obtain ⟨b, hb⟩ : ∃ b, b = 4 * n := ⟨_, rfl⟩
  have w1 : IntKind.i64.wrap (4 * (n : Int)) = (b : Int) := by rw [IntWalk.i64_in _ (by omega)]; omega
  have w2 : IntKind.i64.wrap (5 * (t : Int)) = (s : Int) := by rw [IntWalk.i64_in _ (by omega)]; omega
  rw [← hs, ← hb] at HL HG
  have hbb : b ≤ 260 := by omega
  have hBB : B ≤ 202 := by omega
  clear hs hb hB
  go_enter Tryd.func14, Tryd.ntmps14
  go_wp2_with fail
  go_loop [5] (fun i => ∃ k : Nat, i = .int .i64 (k : Int) ∧ k ≤ B) (fun i => B - (intOf i).toNat)
  case atStart => exact ⟨0, rfl, Nat.zero_le _⟩
  case round =>
    obtain ⟨k, rfl, hk⟩ := hrel
    obtain ⟨p, hp⟩ : ∃ p, p = b * k := ⟨_, rfl⟩
    have hpb : p ≤ 260 * 202 := by rw [hp]; exact Nat.mul_le_mul hbb (by omega)
    have w3 : IntKind.i64.wrap ((b : Int) * (k : Int)) = (p : Int) := by rw [IntWalk.i64_in _ (by rw [← Int.natCast_mul, ← hp]; omega), ← Int.natCast_mul, ← hp]
    have HL' := HL.out k
    have HG' := HG.out k
    rw [← hp] at HL' HG'
    clear hp
    by_cases hlt : k < B
    · have c0 : decide ((p : Int) < (s : Int)) = true := by have := HL' hlt; simp; omega
      have c0' : decide (p < s) = true := by have := HL' hlt; simp; omega
      clear HL' HG'
      go_wp2_with fail
      go_round
      case rel => exact ⟨k + 1, by go_num, by omega⟩
      case measure => simp [intOf]; omega
    · have c0 : decide ((p : Int) < (s : Int)) = false := by have := HG' (by omega); simp; omega
      have c0' : decide (p < s) = false := by have := HG' (by omega); simp; omega
      obtain rfl : k = B := by omega
      clear HL' HG'
      go_wp2_with fail
      go_ret
      exact ⟨rfl, rfl⟩

theorem cnt_next (l : List Pu) (y : Int) (j : Nat) (h : j < l.length) : cnt (l.take (j + 1)) y = cnt (l.take j) y + if (pu l j).n == y then 1 else 0 := by
  have e : l.take (j + 1) = l.take j ++ [pu l j] := by rw [List.take_succ_eq_append_getElem h, pu_lt l h]
  rw [e, cnt_snoc]
  by_cases hy : (pu l j).n = y <;> simp [hy]
set_option maxRecDepth 100000 in
set_option maxHeartbeats 1000000 in
theorem cnt_any (A : Option Addr) (c : Nat) (l : List Pu) (y : Int) (w : World) (hn : l.length ≤ 100000) (h : Us w A l) :
    Calls Tryd.prog 26 #[.slice A l.length c, .int .i64 y] w fun e w' => e = .returned (.int .i64 (cnt l y : Nat)) ∧ w = w' := by
  have H := Lib.hid h
  clear h
  go_enter Tryd.func26, Tryd.ntmps26
  go_wp2_with fail
  go_loop [5, 6] (fun k i => ∃ j : Nat, j ≤ l.length ∧ i = .int .i64 j ∧ k = .int .i64 (cnt (l.take j) y : Nat)) (fun _ i => l.length - (intOf i).toNat)
  case atStart => exact ⟨0, Nat.zero_le _, rfl, rfl⟩
  case round =>
    obtain ⟨j, hj, rfl, rfl⟩ := hrel
    by_cases hlt : j < l.length
    · have j0 : (0 : Int) ≤ (j : Int) := by omega
      have j1 : (j : Int) < (l.length : Int) := by omega
      obtain ⟨ad, rfl, _, hc⟩ := H.out j hlt
      obtain ⟨a0, a1⟩ := hc.flat
      have hM : Hid (cnt (l.take (j + 1)) y = cnt (l.take j) y + if (pu l j).n == y then 1 else 0) := Lib.hid (cnt_next l y j hlt)
      have hb : cnt (l.take j) y ≤ 100000 := Nat.le_trans List.countP_le_length (by rw [List.length_take]; omega)
      generalize (pu l j).n = z at *
      generalize cnt (l.take j) y = q at *
      clear hc a0
      rcases hz : (z == y) with _ | _
      all_goals
        rw [hz] at hM
        go_wp2_with fail
        go_round
        case rel => exact ⟨j + 1, by omega, by go_num, by rw [hM.out]; simp⟩
        case measure => simp [intOf]; omega
    · obtain rfl : j = l.length := by omega
      go_wp2
      go_ret
      exact ⟨ret_int (by simp), rfl⟩

theorem Pu.eq_iff {x y : Pu} : x = y ↔ x.t = y.t ∧ x.n = y.n := by
  obtain ⟨a, b⟩ := x
  obtain ⟨a', b'⟩ := y
  simp
theorem ext_pu {a b : List Pu} (hl : a.length = b.length) (h : ∀ j, j < a.length → pu a j = pu b j) : a = b := List.ext_getElem hl fun j h1 h2 => by
  have := h j h1
  rwa [pu_lt a h1, pu_lt b h2] at this
theorem same_pu {a b : List Pu} (hl : a.length = b.length) : (∀ j, j < a.length → pu a j = pu b j) ↔ a = b := ⟨fun h => ext_pu hl h, fun h => h ▸ fun _ _ => rfl⟩
theorem neq_pu (x y : Pu) (w : World) : (binOp .neq 36 (.agg #[.string x.t, .int .i64 x.n]) (.agg #[.string y.t, .int .i64 y.n])).run Tryd.prog w = .ok (.bool (!decide (x = y))) w := by
  have he : decide (x = y) = ((x.t.toList == y.t.toList) && decide (x.n = y.n)) := by
    rw [eq_is, Bool.eq_iff_iff]
    simp [Pu.eq_iff]
  rw [he]
  go_simp
  by_cases h1 : x.t.toList = y.t.toList <;> by_cases h2 : x.n = y.n <;> simp [h1, h2]

set_option maxRecDepth 10000000 in
set_option maxHeartbeats 2000000 in
theorem same_puts (A A' : Option Addr) (c c' : Nat) (a b : List Pu) (w : World) (hn : a.length ≤ 100000) (h : Us w A a) (h' : Us w A' b) (S : Bool) (hS : decide (a = b) = S) :
    Calls Tryd.prog 22 #[.slice A a.length c, .slice A' b.length c'] w fun e w' => e = .returned (.bool S) ∧ Below w.heap.size w w' := by
  by_cases hl : a.length = b.length
  · have H := Lib.hid h
    have H' := Lib.hid h'
    have HS : Hid ((∀ j, j < a.length → pu a j = pu b j) ↔ S = true) := Lib.hid (by rw [same_pu hl, ← hS, decide_eq_true_iff])
    clear h h' hS
    have hlb : b.length = a.length := hl.symm
    rw [hlb]
    clear hl
    go_enter Tryd.func22, Tryd.ntmps22
    go_wp2_with fail
    go_loopw [5] (fun i wr => ∃ k : Nat, i = .int .i64 k ∧ k ≤ a.length ∧ Hid (∀ j, j < k → pu a j = pu b j) ∧ Hid (Below w.heap.size w wr)) (fun i _ => a.length - (intOf i).toNat)
    case atStart => exact ⟨0, rfl, Nat.zero_le _, Lib.hid (fun j hj => absurd hj (Nat.not_lt_zero j)), Lib.hid (Below.refl _ _)⟩
    case round =>
      obtain ⟨k, rfl, hk, hok, hb⟩ := hrel
      by_cases hlt : k < a.length
      · obtain ⟨ad, rfl, hlo, h1⟩ := (H.out.on hb.out) k hlt
        obtain ⟨ad', rfl, hlo', h2⟩ := (H'.out.on hb.out) k (by omega)
        obtain ⟨a0, a1⟩ := h1.flat
        obtain ⟨b0, b1⟩ := h2.flat
        have hbk : (k : Int) < (b.length : Int) := by omega
        have k0 : (0 : Int) ≤ (k : Int) := by omega
        have k1 : (k : Int) < (a.length : Int) := by omega
        have HF : Hid (pu a k ≠ pu b k → S = false) := Lib.hid (fun hne => by
          rcases S with _ | _
          · rfl
          · exact absurd (HS.out.2 rfl k hlt) hne)
        have HT : Hid (pu a k = pu b k → ∀ j, j < k + 1 → pu a j = pu b j) := Lib.hid (fun he j hj => by
          rcases Nat.lt_or_ge j k with hjk | hjk
          · exact hok.out j hjk
          · obtain rfl : j = k := by omega
            exact he)
        have hz := Lib.hid hb.out.size
        have hq := fun W => neq_pu (pu a k) (pu b k) W
        generalize hx : pu a k = x at *
        generalize hy : pu b k = y at *
        have A0 : ∀ p : Regrown, (grow (redrawn wr p.d) p.os).cell? (ad.add (k * 2)) = some (.string x.t) := fun p => cell_regrown a0 p.d p.os
        have A1 : ∀ p : Regrown, (grow (redrawn wr p.d) p.os).cell? ⟨(ad.add (k * 2)).block, (ad.add (k * 2)).off + 1, none⟩ = some (.int .i64 x.n) := fun p => cell_regrown a1 p.d p.os
        have B0 : ∀ p : Regrown, (grow (redrawn wr p.d) p.os).cell? (ad'.add (k * 2)) = some (.string y.t) := fun p => cell_regrown b0 p.d p.os
        have B1 : ∀ p : Regrown, (grow (redrawn wr p.d) p.os).cell? ⟨(ad'.add (k * 2)).block, (ad'.add (k * 2)).off + 1, none⟩ = some (.int .i64 y.n) := fun p => cell_regrown b1 p.d p.os
        clear a0 a1 b0 b1 h1 h2 hlb hx hy hok
        by_cases e1 : x = y
        · have e2 : decide (x = y) = true := by simpa using e1
          have HT' := Lib.hid (HT.out e1)
          rw [e2] at hq
          clear HT HF e1 e2
          go_upto_region 6 with (fail)
          refine q_enter (by kernel_rfl) (by kernel_rfl) ?_
          iterate 9 (refine q_step ?_; intro K hK; go_simp; refine hK _ ?_; clear hK K)
          refine q_nil ?_
          intro wz hbz
          have HZ : Hid (Below w.heap.size w wz) := Lib.hid (hb.out.trans (hbz.mono hz.out))
          clear hbz A0 A1 B0 B1 hb hz hq
          go_wp2_with fail
          go_roundw
          case rel => exact ⟨k + 1, by go_num, by omega, HT', HZ⟩
          case measure => simp [intOf]; omega
        · have e2 : decide (x = y) = false := by simpa using e1
          obtain rfl := HF.out e1
          rw [e2] at hq
          clear HT HF e1 e2
          go_upto_region 6 with (fail)
          refine q_enter (by kernel_rfl) (by kernel_rfl) ?_
          iterate 9 (refine q_step ?_; intro K hK; go_simp; refine hK _ ?_; clear hK K)
          refine q_nil ?_
          intro wz hbz
          have HZ : Hid (Below w.heap.size w wz) := Lib.hid (hb.out.trans (hbz.mono hz.out))
          clear hbz A0 A1 B0 B1 hb hz hq
          go_wp2_with fail
          go_ret
          exact ⟨rfl, HZ.out⟩
      · have hka : k = a.length := by omega
        have hSt : S = true := HS.out.1 fun i hi => hok.out i (by omega)
        subst hSt
        have e0 : decide ((k : Int) < (a.length : Int)) = false := by simp; omega
        clear hka
        go_wp2_with fail
        go_ret
        exact ⟨rfl, hb.out⟩
  · have hSf : S = false := by rw [← hS]; simp only [decide_eq_false_iff_not]; exact fun e => hl (by rw [e])
    subst hSf
    have e0 : ((a.length : Int) == (b.length : Int)) = false := by simp only [beq_eq_false_iff_ne]; omega
    clear hS h h'
    generalize a.length = n at *
    generalize b.length = n' at *
    clear hl
    go_enter Tryd.func22, Tryd.ntmps22
    go_wp2_with fail
    go_ret
    exact ⟨rfl, Below.refl _ _⟩


end Go.Proofs.YthcjjogomknddaaDoor
