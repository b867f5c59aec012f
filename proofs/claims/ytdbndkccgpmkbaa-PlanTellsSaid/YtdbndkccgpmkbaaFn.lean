/-
  The walks of Bound (the program's and the document's), Many and Same, and of the law's cut.
-/
import Derived.Test.YtdbndkccgpmkbaaRw
namespace Go.Proofs.Ytdbndkccgpmkbaa
open Go.Sort Go.RowKit Go.Proofs.Ytdbndkccgpmkbaa.Pure

theorem Pu.eq_iff {x y : Pu} : x = y ↔ x.t = y.t ∧ x.n = y.n := by
  obtain ⟨a, b⟩ := x
  obtain ⟨a', b'⟩ := y
  simp
theorem ext_pu {a b : List Pu} (hl : a.length = b.length) (h : ∀ j, j < a.length → pu a j = pu b j) : a = b := List.ext_getElem hl fun j h1 h2 => by
  have := h j h1
  rwa [pu_lt a h1, pu_lt b h2] at this
theorem same_pu {a b : List Pu} (hl : a.length = b.length) : (∀ j, j < a.length → pu a j = pu b j) ↔ a = b := ⟨fun h => ext_pu hl h, fun h => h ▸ fun _ _ => rfl⟩
theorem neq_pu (x y : Pu) (w : World) : (binOp .neq 53 (.agg #[.string x.t, .int .i64 x.n]) (.agg #[.string y.t, .int .i64 y.n])).run Try.prog w = .ok (.bool (!decide (x = y))) w := by
  have he : decide (x = y) = ((x.t.toList == y.t.toList) && decide (x.n = y.n)) := by
    rw [eq_is, Bool.eq_iff_iff]
    simp [Pu.eq_iff]
  rw [he]
  go_simp
  by_cases h1 : x.t.toList = y.t.toList <;> by_cases h2 : x.n = y.n <;> simp [h1, h2]

set_option maxRecDepth 10000000 in
set_option maxHeartbeats 2000000 in
theorem same_puts (A A' : Option Addr) (c c' : Nat) (a b : List Pu) (w : World) (hn : a.length ≤ 100000) (h : Us w A a) (h' : Us w A' b) (S : Bool) (hS : decide (a = b) = S) :
    Calls Try.prog 21 #[.slice A a.length c, .slice A' b.length c'] w fun e w' => e = .returned (.bool S) ∧ Below w.heap.size w w' := by
  by_cases hl : a.length = b.length
  · have H := Lib.hid h
    have H' := Lib.hid h'
    have HS : Hid ((∀ j, j < a.length → pu a j = pu b j) ↔ S = true) := Lib.hid (by rw [same_pu hl, ← hS, decide_eq_true_iff])
    clear h h' hS
    have hlb : b.length = a.length := hl.symm
    rw [hlb]
    clear hl
    go_enter Try.func21, Try.ntmps21
    go_wp2_with fail
    go_loopw [5] (fun i wr => ∃ k : Nat, i = .int .i64 k ∧ k ≤ a.length ∧ Hid (∀ j, j < k → pu a j = pu b j) ∧ Hid (Below w.heap.size w wr)) (fun i _ => a.length - (intOf i).toNat)
    case atStart => exact ⟨0, rfl, Nat.zero_le _, Lib.hid (fun j hj => absurd hj (Nat.not_lt_zero j)), Lib.hid (Below.refl _ _)⟩
    case round =>
      obtain ⟨k, rfl, hk, hok, hb⟩ := hrel
      by_cases hlt : k < a.length
      · obtain ⟨ad, rfl, hlo, h1⟩ := (H.out.on hb.out) k hlt
        obtain ⟨ad', rfl, hlo', h2⟩ := (H'.out.on hb.out) k (by omega)
        obtain ⟨a0, a1⟩ := h1.flat
        obtain ⟨b0, b1⟩ := h2.flat
        have hbk : (k : Int) < (b.length : Int) := by omega
        have k0 : (0 : Int) ≤ (k : Int) := by omega
        have k1 : (k : Int) < (a.length : Int) := by omega
        have HF : Hid (pu a k ≠ pu b k → S = false) := Lib.hid (fun hne => by
          rcases S with _ | _
          · rfl
          · exact absurd (HS.out.2 rfl k hlt) hne)
        have HT : Hid (pu a k = pu b k → ∀ j, j < k + 1 → pu a j = pu b j) := Lib.hid (fun he j hj => by
          rcases Nat.lt_or_ge j k with hjk | hjk
          · exact hok.out j hjk
          · obtain rfl : j = k := by omega
            exact he)
        have hz := Lib.hid hb.out.size
        have hq := fun W => neq_pu (pu a k) (pu b k) W
        generalize hx : pu a k = x at *
        generalize hy : pu b k = y at *
        have A0 : ∀ p : Regrown, (grow (redrawn wr p.d) p.os).cell? (ad.add (k * 2)) = some (.string x.t) := fun p => cell_regrown a0 p.d p.os
        have A1 : ∀ p : Regrown, (grow (redrawn wr p.d) p.os).cell? ⟨(ad.add (k * 2)).block, (ad.add (k * 2)).off + 1, none⟩ = some (.int .i64 x.n) := fun p => cell_regrown a1 p.d p.os
        have B0 : ∀ p : Regrown, (grow (redrawn wr p.d) p.os).cell? (ad'.add (k * 2)) = some (.string y.t) := fun p => cell_regrown b0 p.d p.os
        have B1 : ∀ p : Regrown, (grow (redrawn wr p.d) p.os).cell? ⟨(ad'.add (k * 2)).block, (ad'.add (k * 2)).off + 1, none⟩ = some (.int .i64 y.n) := fun p => cell_regrown b1 p.d p.os
        clear a0 a1 b0 b1 h1 h2 hlb hx hy hok
        by_cases e1 : x = y
        · have e2 : decide (x = y) = true := by simpa using e1
          have HT' := Lib.hid (HT.out e1)
          rw [e2] at hq
          clear HT HF e1 e2
          go_upto_region 6 with (fail)
          refine q_enter (by kernel_rfl) (by kernel_rfl) ?_
          iterate 9 (refine q_step ?_; intro K hK; go_simp; refine hK _ ?_; clear hK K)
          refine q_nil ?_
          intro wz hbz
          have HZ : Hid (Below w.heap.size w wz) := Lib.hid (hb.out.trans (hbz.mono hz.out))
          clear hbz A0 A1 B0 B1 hb hz hq
          go_wp2_with fail
          go_roundw
          case rel => exact ⟨k + 1, by go_num, by omega, HT', HZ⟩
          case measure => simp [intOf]; omega
        · have e2 : decide (x = y) = false := by simpa using e1
          obtain rfl := HF.out e1
          rw [e2] at hq
          clear HT HF e1 e2
          go_upto_region 6 with (fail)
          refine q_enter (by kernel_rfl) (by kernel_rfl) ?_
          iterate 9 (refine q_step ?_; intro K hK; go_simp; refine hK _ ?_; clear hK K)
          refine q_nil ?_
          intro wz hbz
          have HZ : Hid (Below w.heap.size w wz) := Lib.hid (hb.out.trans (hbz.mono hz.out))
          clear hbz A0 A1 B0 B1 hb hz hq
          go_wp2_with fail
          go_ret
          exact ⟨rfl, HZ.out⟩
      · have hka : k = a.length := by omega
        have hSt : S = true := HS.out.1 fun i hi => hok.out i (by omega)
        subst hSt
        have e0 : decide ((k : Int) < (a.length : Int)) = false := by simp; omega
        clear hka
        go_wp2_with fail
        go_ret
        exact ⟨rfl, hb.out⟩
  · have hSf : S = false := by rw [← hS]; simp only [decide_eq_false_iff_not]; exact fun e => hl (by rw [e])
    subst hSf
    have e0 : ((a.length : Int) == (b.length : Int)) = false := by simp only [beq_eq_false_iff_ne]; omega
    clear hS h h'
    generalize a.length = n at *
    generalize b.length = n' at *
    clear hl
    go_enter Try.func21, Try.ntmps21
    go_wp2_with fail
    go_ret
    exact ⟨rfl, Below.refl _ _⟩

end Go.Proofs.Ytdbndkccgpmkbaa
