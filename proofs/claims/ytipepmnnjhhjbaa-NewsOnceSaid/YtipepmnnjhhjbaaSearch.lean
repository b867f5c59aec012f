/-
  The walk of the library's BinarySearchFunc over a queue, by whom.
-/
import Derived.Test.YtipepmnnjhhjbaaSort
namespace Go.Proofs.Ytipepmnnjhhjbaa
open Go.Sort Go.RowKit Go.Proofs.Ytipepmnnjhhjbaa.Pure

/-- Does something of w stand at its place? -/
def hitQ (q : List Td) (w : Int) : Bool := decide (posQ q w < q.length) && decide ((td q (posQ q w)).w = w)
theorem cfW_lt (x y : Td) : decide (cfW x y < 0) = decide (x.w < y.w) := by
  have := ltW_iff x y
  unfold ltOf at this
  exact this
theorem cfW_eq (x y : Td) : (cfW x y == 0) = decide (x.w = y.w) := by
  unfold cfW
  rw [Bool.eq_iff_iff, beq_iff_eq, decide_eq_true_iff]
  rcases cmp_cases x.w y.w with c | c | c <;> omega

set_option maxRecDepth 100000 in
set_option maxHeartbeats 2000000 in
theorem search_any (A : Option Addr) (c : Nat) (q : List Td) (x : Td) (w : World) (hn : q.length ≤ 1000) (hr : Rise q) (h : Ts w A q) :
    Calls Try.prog 28 #[.slice A q.length c, .agg #[.int .i64 x.w, .int .u64 x.i, .int .i64 x.s, .int .i64 x.l], .func (.func 29) #[] #[]] w fun e w' => e = .returned (.tuple #[.int .i64 ((posQ q x.w : Nat) : Int), .bool (hitQ q x.w)]) ∧ Below w.heap.size w w' := by
  have H := Lib.hid h
  have HN := Lib.hid hn
  have HP : Hid (posQ q x.w ≤ q.length ∧ (∀ j, j < posQ q x.w → (td q j).w < x.w) ∧ ∀ j, posQ q x.w ≤ j → j < q.length → x.w ≤ (td q j).w) := Lib.hid ⟨posQ_le _ _, posQ_lt _ _, posQ_ge hr _⟩
  have HT : Hid (hitQ q x.w = (decide (posQ q x.w < q.length) && decide ((td q (posQ q x.w)).w = x.w))) := Lib.hid rfl
  generalize hitQ q x.w = T at *
  generalize posQ q x.w = p at *
  clear h hr
  have BX : Hid (Bt (w.alloc (.cells #[.int .i64 x.w, .int .u64 x.i, .int .i64 x.s, .int .i64 x.l] 59)) w.heap.size x) := Lib.hid (Bt.new w x _)
  have HB : Hid (Below w.heap.size w (w.alloc (.cells #[.int .i64 x.w, .int .u64 x.i, .int .i64 x.s, .int .i64 x.l] 59))) := Lib.hid ((Below.refl _ w).alloc (Nat.le_refl _) _)
  go_enter Try.func28, Try.ntmps28
  go_upto_region 1 with (fail)
  generalize w.alloc (.cells #[.int .i64 x.w, .int .u64 x.i, .int .i64 x.s, .int .i64 x.l] 59) = w1 at *
  go_wp2_with fail
  go_loopw [9, 10] (fun i j wr => ∃ a b : Nat, i = .int .i64 a ∧ j = .int .i64 b ∧ Hid (a ≤ p ∧ p ≤ b ∧ b ≤ q.length) ∧ Hid (Bt wr w.heap.size x) ∧ Hid (Below w.heap.size w wr)) (fun i j _ => (intOf j).toNat - (intOf i).toNat)
  case atStart => exact ⟨0, q.length, rfl, rfl, Lib.hid ⟨Nat.zero_le _, HP.out.1, Nat.le_refl _⟩, BX, HB⟩
  case round =>
    obtain ⟨a, b, rfl, rfl, hab, BXr, HBr⟩ := hrel
    obtain ⟨b0, b1, b2, b3⟩ := BXr.out
    have hab' := hab.out
    have hn' := HN.out
    have HWp := Lib.hid (fun (y : Td) (p : Regrown) => (who_grew y x (grow (redrawn wr p.d) p.os)).mono fun _ _ ⟨he, hg⟩ => (⟨he, hg.below⟩ : _ ∧ Below _ _ _))
    have B0 : ∀ p : Regrown, (grow (redrawn wr p.d) p.os).cell? ⟨w.heap.size, 0, none⟩ = some (.int .i64 x.w) := fun p => cell_regrown b0 p.d p.os
    have B1 : ∀ p : Regrown, (grow (redrawn wr p.d) p.os).cell? ⟨w.heap.size, 1, none⟩ = some (.int .u64 x.i) := fun p => cell_regrown b1 p.d p.os
    have B2 : ∀ p : Regrown, (grow (redrawn wr p.d) p.os).cell? ⟨w.heap.size, 2, none⟩ = some (.int .i64 x.s) := fun p => cell_regrown b2 p.d p.os
    have B3 : ∀ p : Regrown, (grow (redrawn wr p.d) p.os).cell? ⟨w.heap.size, 3, none⟩ = some (.int .i64 x.l) := fun p => cell_regrown b3 p.d p.os
    clear b0 b1 b2 b3
    by_cases hlt : a < b
    · have e0 : decide ((a : Int) < (b : Int)) = true := by simpa using hlt
      have e0' : decide (a < b) = true := by simpa using hlt
      obtain ⟨m, hm⟩ : ∃ m : Nat, m = (a + b) / 2 := ⟨_, rfl⟩
      have hm1 : a ≤ m ∧ m < b := by omega
      have hm2 : ((a : Int) + (b : Int)) / 2 = (m : Int) := by omega
      have r1 : IntKind.i64.wrap ((a : Int) + (b : Int)) = (a : Int) + (b : Int) := by rw [IntWalk.i64_in _ (by omega)]
      obtain ⟨ad, rfl, hlo, h1⟩ := (H.out.on HBr.out) m (by omega)
      obtain ⟨a0, a1, a2, a3⟩ := h1.flat
      have HC := Lib.hid (HWp.out (td q m))
      have HL := Lib.hid (cfW_lt (td q m) x)
      have HS1 : Hid ((td q m).w < x.w → m + 1 ≤ p) := Lib.hid (fun hlt => by
        rcases Nat.lt_or_ge m p with h | h
        · omega
        · have := HP.out.2.2 m h (by omega); omega)
      have HS2 : Hid (¬(td q m).w < x.w → p ≤ m) := Lib.hid (fun hlt => by
        rcases Nat.lt_or_ge m p with h | h
        · exact absurd (HP.out.2.1 m h) hlt
        · exact h)
      generalize td q m = y at *
      generalize cfW y x = cf at *
      have m0 : (0 : Int) ≤ (m : Int) := by omega
      have m1 : (m : Int) < (q.length : Int) := by omega
      have hmq : m < q.length := by omega
      have HM := Lib.hid hm1
      have HM2 : Hid (wrap64 (IntKind.u64.wrap ((a : Int) + (b : Int)) / 2) = (m : Int)) := Lib.hid (by
        have r2 : IntKind.u64.wrap ((a : Int) + (b : Int)) = (a : Int) + (b : Int) := by simp [IntKind.wrap, IntKind.bits, IntKind.signed]; omega
        rw [r2, hm2]
        unfold wrap64
        omega)
      clear h1 hm hm1 hab' hn' hlt HWp
      have C0 : ∀ p : Regrown, (grow (redrawn wr p.d) p.os).cell? (ad.add (m * 4)) = some (.int .i64 y.w) := fun p => cell_regrown a0 p.d p.os
      have C1 : ∀ p : Regrown, (grow (redrawn wr p.d) p.os).cell? ⟨(ad.add (m * 4)).block, (ad.add (m * 4)).off + 1, none⟩ = some (.int .u64 y.i) := fun p => cell_regrown a1 p.d p.os
      have C2 : ∀ p : Regrown, (grow (redrawn wr p.d) p.os).cell? ⟨(ad.add (m * 4)).block, (ad.add (m * 4)).off + 2, none⟩ = some (.int .i64 y.s) := fun p => cell_regrown a2 p.d p.os
      have C3 : ∀ p : Regrown, (grow (redrawn wr p.d) p.os).cell? ⟨(ad.add (m * 4)).block, (ad.add (m * 4)).off + 3, none⟩ = some (.int .i64 y.l) := fun p => cell_regrown a3 p.d p.os
      clear a0 a1 a2 a3
      clear hm2
      go_upto_region 5 with (fail)
      rw [HM2.out]
      have hb0 : Hid (Bt wr w.heap.size x) := BXr
      refine q_enter (by kernel_rfl) (by kernel_rfl) ?_
      iterate 8 (refine q_step ?_; intro K hK; go_simp; first | (refine hK _ ?_; clear hK K) | (refine ⟨_, fun p => Calls.regrown_of (by with_reducible exact HC.out p), hK _ ?_⟩; clear hK K))
      refine q_nil ?_
      intro w3 hb3
      have HB3 : Hid (Below w.heap.size w w3) := Lib.hid (HBr.out.trans (hb3.mono HBr.out.size))
      have BX3 := Lib.hid (BXr.out.on hb3)
      clear hb3
      by_cases hc : y.w < x.w
      · have e1 : decide (cf < 0) = true := by rw [HL.out]; simpa using hc
        have e1' : cf < 0 := by simpa using e1
        have HG : Hid (m + 1 ≤ p ∧ p ≤ b ∧ b ≤ q.length) := Lib.hid ⟨HS1.out hc, hab.out.2.1, hab.out.2.2⟩
        clear hc HL HS1 HS2
        go_wp2_with fail
        go_roundw
        case rel => exact ⟨m + 1, b, by go_num, rfl, HG, BX3, HB3⟩
        case measure => have := HM.out; simp [intOf]; omega
      · have e1 : decide (cf < 0) = false := by rw [HL.out]; simpa using hc
        have e1' : ¬cf < 0 := by simpa using e1
        have HG : Hid (a ≤ p ∧ p ≤ m ∧ m ≤ q.length) := Lib.hid ⟨hab.out.1, HS2.out hc, by omega⟩
        clear hc HL HS1 HS2
        go_wp2_with fail
        go_roundw
        case rel => exact ⟨a, m, rfl, rfl, HG, BX3, HB3⟩
        case measure => have := HM.out; simp [intOf]; omega
    · obtain rfl : a = p := by omega
      have e0 : decide ((a : Int) < (b : Int)) = false := by simp; omega
      have e0' : decide (a < b) = false := by simp; omega
      clear hab' hn' hlt hab
      by_cases hp : a < q.length
      · have e2 : decide ((a : Int) < (q.length : Int)) = true := by simpa using hp
        have e2' : decide (a < q.length) = true := by simpa using hp
        have m0 : (0 : Int) ≤ (a : Int) := by omega
        have m1 : (a : Int) < (q.length : Int) := by omega
        obtain ⟨ad, rfl, hlo, h1⟩ := (H.out.on HBr.out) a hp
        obtain ⟨a0, a1, a2, a3⟩ := h1.flat
        have HC := Lib.hid (HWp.out (td q a))
        have HL := Lib.hid (cfW_eq (td q a) x)
        have HTT : Hid (T = (cfW (td q a) x == 0)) := Lib.hid (by rw [HT.out, HL.out, e2']; rfl)
        generalize td q a = y at *
        generalize cfW y x = cf at *
        clear h1 HT HL HWp HP
        have C0 : ∀ p : Regrown, (grow (redrawn wr p.d) p.os).cell? (ad.add (a * 4)) = some (.int .i64 y.w) := fun p => cell_regrown a0 p.d p.os
        have C1 : ∀ p : Regrown, (grow (redrawn wr p.d) p.os).cell? ⟨(ad.add (a * 4)).block, (ad.add (a * 4)).off + 1, none⟩ = some (.int .u64 y.i) := fun p => cell_regrown a1 p.d p.os
        have C2 : ∀ p : Regrown, (grow (redrawn wr p.d) p.os).cell? ⟨(ad.add (a * 4)).block, (ad.add (a * 4)).off + 2, none⟩ = some (.int .i64 y.s) := fun p => cell_regrown a2 p.d p.os
        have C3 : ∀ p : Regrown, (grow (redrawn wr p.d) p.os).cell? ⟨(ad.add (a * 4)).block, (ad.add (a * 4)).off + 3, none⟩ = some (.int .i64 y.l) := fun p => cell_regrown a3 p.d p.os
        clear a0 a1 a2 a3
        go_upto_region 8 with (fail)
        refine q_enter (by kernel_rfl) (by kernel_rfl) ?_
        iterate 16 (refine q_step ?_; intro K hK; go_simp; first | (refine hK _ ?_; clear hK K) | (refine ⟨_, fun p => Calls.regrown_of (by with_reducible exact HC.out p), hK _ ?_⟩; clear hK K))
        refine q_nil ?_
        intro w3 hb3
        have HB3 : Hid (Below w.heap.size w w3) := Lib.hid (HBr.out.trans (hb3.mono HBr.out.size))
        clear hb3
        go_wp2_with fail
        refine bodyPost_ret (v := .tuple #[.int .i64 ((a : Nat) : Int), .bool (cf == 0)]) (by simp [results, Try.results28, go_sem]) rfl ⟨?_, HB3.out⟩
        rw [HTT.out]
      · have e2 : decide ((a : Int) < (q.length : Int)) = false := by simp; omega
        have e2' : decide (a < q.length) = false := by simp; omega
        have en : ¬a < q.length := hp
        have HTT : Hid (T = false) := Lib.hid (by rw [HT.out, e2']; rfl)
        clear HT HWp HP hp
        go_upto_region 8 with (fail)
        refine q_enter (by kernel_rfl) (by kernel_rfl) ?_
        iterate 16 (refine q_step ?_; intro K hK; go_simp; refine hK _ ?_; clear hK K)
        refine q_nil ?_
        intro w3 hb3
        have HB3 : Hid (Below w.heap.size w w3) := Lib.hid (HBr.out.trans (hb3.mono HBr.out.size))
        clear hb3
        go_wp2_with fail
        refine bodyPost_ret (v := .tuple #[.int .i64 ((a : Nat) : Int), .bool false]) (by simp [results, Try.results28, go_sem]) rfl ⟨?_, HB3.out⟩
        rw [HTT.out]
end Go.Proofs.Ytipepmnnjhhjbaa
