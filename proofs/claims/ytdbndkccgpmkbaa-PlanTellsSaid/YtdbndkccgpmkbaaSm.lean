/-
  The document's Same of moves.
-/
import Derived.Test.YtdbndkccgpmkbaaMr
import Derived.Test.YtdbndkccgpmkbaaFn
namespace Go.Proofs.Ytdbndkccgpmkbaa
open Go.Sort Go.RowKit Go.Proofs.Ytdbndkccgpmkbaa.Pure

theorem Mv.eq_iff {x y : Mv} : x = y ↔ x.t = y.t ∧ x.f = y.f ∧ x.g = y.g := by
  obtain ⟨p0, p1, p2⟩ := x
  obtain ⟨q0, q1, q2⟩ := y
  simp
theorem ext_mv {a b : List Mv} (hl : a.length = b.length) (h : ∀ j, j < a.length → mv a j = mv b j) : a = b := List.ext_getElem hl fun j h1 h2 => by
  have := h j h1
  rwa [mv_lt a h1, mv_lt b h2] at this
theorem same_mv {a b : List Mv} (hl : a.length = b.length) : (∀ j, j < a.length → mv a j = mv b j) ↔ a = b := ⟨fun h => ext_mv hl h, fun h => h ▸ fun _ _ => rfl⟩
theorem neq_mv (x y : Mv) (w : World) : (binOp .neq 39 (.agg #[.string x.t, .int .i64 x.f, .int .i64 x.g]) (.agg #[.string y.t, .int .i64 y.f, .int .i64 y.g])).run Try.prog w = .ok (.bool (!decide (x = y))) w := by
  have he : decide (x = y) = ((x.t.toList == y.t.toList) && (decide (x.f = y.f) && decide (x.g = y.g))) := by
    rw [eq_is, Bool.eq_iff_iff]
    simp [Mv.eq_iff]
  rw [he]
  go_simp
  by_cases h0 : x.t.toList = y.t.toList <;> by_cases h1 : x.f = y.f <;> by_cases h2 : x.g = y.g <;> simp [h0, h1, h2]

set_option maxRecDepth 10000000 in
set_option maxHeartbeats 2000000 in
theorem same_mvs (A A' : Option Addr) (c c' : Nat) (a b : List Mv) (w : World) (hn : a.length ≤ 100000) (h : Vs w A a) (h' : Vs w A' b) (S : Bool) (hS : decide (a = b) = S) :
    Calls Try.prog 18 #[.slice A a.length c, .slice A' b.length c'] w fun e w' => e = .returned (.bool S) ∧ Below w.heap.size w w' := by
  by_cases hl : a.length = b.length
  · have H := Lib.hid h
    have H' := Lib.hid h'
    have HS : Hid ((∀ j, j < a.length → mv a j = mv b j) ↔ S = true) := Lib.hid (by rw [same_mv hl, ← hS, decide_eq_true_iff])
    clear h h' hS
    have hlb : b.length = a.length := hl.symm
    rw [hlb]
    clear hl
    go_enter Try.func18, Try.ntmps18
    go_wp2_with fail
    go_loopw [5] (fun i wr => ∃ k : Nat, i = .int .i64 k ∧ k ≤ a.length ∧ Hid (∀ j, j < k → mv a j = mv b j) ∧ Hid (Below w.heap.size w wr)) (fun i _ => a.length - (intOf i).toNat)
    case atStart => exact ⟨0, rfl, Nat.zero_le _, Lib.hid (fun j hj => absurd hj (Nat.not_lt_zero j)), Lib.hid (Below.refl _ _)⟩
    case round =>
      obtain ⟨k, rfl, hk, hok, hb⟩ := hrel
      by_cases hlt : k < a.length
      · obtain ⟨ad, rfl, hlo, h1⟩ := (H.out.on hb.out) k hlt
        obtain ⟨ad', rfl, hlo', h2⟩ := (H'.out.on hb.out) k (by omega)
        obtain ⟨a0, a1, a2⟩ := h1.flat
        obtain ⟨b0, b1, b2⟩ := h2.flat
        have hbk : (k : Int) < (b.length : Int) := by omega
        have k0 : (0 : Int) ≤ (k : Int) := by omega
        have k1 : (k : Int) < (a.length : Int) := by omega
        have HF : Hid (mv a k ≠ mv b k → S = false) := Lib.hid (fun hne => by
          rcases S with _ | _
          · rfl
          · exact absurd (HS.out.2 rfl k hlt) hne)
        have HT : Hid (mv a k = mv b k → ∀ j, j < k + 1 → mv a j = mv b j) := Lib.hid (fun he j hj => by
          rcases Nat.lt_or_ge j k with hjk | hjk
          · exact hok.out j hjk
          · obtain rfl : j = k := by omega
            exact he)
        have hz := Lib.hid hb.out.size
        have hq := fun W => neq_mv (mv a k) (mv b k) W
        generalize hx : mv a k = x at *
        generalize hy : mv b k = y at *
        have A0 : ∀ p : Regrown, (grow (redrawn wr p.d) p.os).cell? (ad.add (k * 3)) = some (.string x.t) := fun p => cell_regrown a0 p.d p.os
        have A1 : ∀ p : Regrown, (grow (redrawn wr p.d) p.os).cell? ⟨(ad.add (k * 3)).block, (ad.add (k * 3)).off + 1, none⟩ = some (.int .i64 x.f) := fun p => cell_regrown a1 p.d p.os
        have A2 : ∀ p : Regrown, (grow (redrawn wr p.d) p.os).cell? ⟨(ad.add (k * 3)).block, (ad.add (k * 3)).off + 2, none⟩ = some (.int .i64 x.g) := fun p => cell_regrown a2 p.d p.os
        have B0 : ∀ p : Regrown, (grow (redrawn wr p.d) p.os).cell? (ad'.add (k * 3)) = some (.string y.t) := fun p => cell_regrown b0 p.d p.os
        have B1 : ∀ p : Regrown, (grow (redrawn wr p.d) p.os).cell? ⟨(ad'.add (k * 3)).block, (ad'.add (k * 3)).off + 1, none⟩ = some (.int .i64 y.f) := fun p => cell_regrown b1 p.d p.os
        have B2 : ∀ p : Regrown, (grow (redrawn wr p.d) p.os).cell? ⟨(ad'.add (k * 3)).block, (ad'.add (k * 3)).off + 2, none⟩ = some (.int .i64 y.g) := fun p => cell_regrown b2 p.d p.os
        clear a0 a1 a2 b0 b1 b2 h1 h2 hlb hx hy hok
        by_cases e1 : x = y
        · have e2 : decide (x = y) = true := by simpa using e1
          have HT' := Lib.hid (HT.out e1)
          rw [e2] at hq
          clear HT HF e1 e2
          go_upto_region 6 with (fail)
          refine q_enter (by kernel_rfl) (by kernel_rfl) ?_
          iterate 9 (refine q_step ?_; intro K hK; go_simp; refine hK _ ?_; clear hK K)
          refine q_nil ?_
          intro wz hbz
          have HZ : Hid (Below w.heap.size w wz) := Lib.hid (hb.out.trans (hbz.mono hz.out))
          clear hbz A0 A1 A2 B0 B1 B2 hb hz hq
          go_wp2_with fail
          go_roundw
          case rel => exact ⟨k + 1, by go_num, by omega, HT', HZ⟩
          case measure => simp [intOf]; omega
        · have e2 : decide (x = y) = false := by simpa using e1
          obtain rfl := HF.out e1
          rw [e2] at hq
          clear HT HF e1 e2
          go_upto_region 6 with (fail)
          refine q_enter (by kernel_rfl) (by kernel_rfl) ?_
          iterate 9 (refine q_step ?_; intro K hK; go_simp; refine hK _ ?_; clear hK K)
          refine q_nil ?_
          intro wz hbz
          have HZ : Hid (Below w.heap.size w wz) := Lib.hid (hb.out.trans (hbz.mono hz.out))
          clear hbz A0 A1 A2 B0 B1 B2 hb hz hq
          go_wp2_with fail
          go_ret
          exact ⟨rfl, HZ.out⟩
      · have hka : k = a.length := by omega
        have hSt : S = true := HS.out.1 fun i hi => hok.out i (by omega)
        subst hSt
        have e0 : decide ((k : Int) < (a.length : Int)) = false := by simp; omega
        clear hka
        go_wp2_with fail
        go_ret
        exact ⟨rfl, hb.out⟩
  · have hSf : S = false := by rw [← hS]; simp only [decide_eq_false_iff_not]; exact fun e => hl (by rw [e])
    subst hSf
    have e0 : ((a.length : Int) == (b.length : Int)) = false := by simp only [beq_eq_false_iff_ne]; omega
    clear hS h h'
    generalize a.length = n at *
    generalize b.length = n' at *
    clear hl
    go_enter Try.func18, Try.ntmps18
    go_wp2_with fail
    go_ret
    exact ⟨rfl, Below.refl _ _⟩
end Go.Proofs.Ytdbndkccgpmkbaa
