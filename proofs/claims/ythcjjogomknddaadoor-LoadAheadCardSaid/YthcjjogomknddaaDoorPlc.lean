/-
  The walks of the library's BinarySearchFunc over points, of Place, and of Owner.
-/
import Derived.Test.YthcjjogomknddaaDoorChkP
namespace Go.Proofs.YthcjjogomknddaaDoor
open Go.Sort Go.RowKit Go.Proofs.YthcjjogomknddaaDoor.Pure

set_option maxRecDepth 100000 in
set_option maxHeartbeats 2000000 in
theorem search_any (A : Option Addr) (c : Nat) (l : List Pt) (h : Int) (w : World) (hn : l.length ≤ 3000) (hr : RiseP l) (hl : Ps w A l) :
    Calls Tryd.prog 75 #[.slice A l.length c, .int .u64 h, .func (.func 76) #[] #[]] w fun e w' => ∃ b : Bool, e = .returned (.tuple #[.int .i64 ((posP l h : Nat) : Int), .bool b]) ∧ Below w.heap.size w w' := by
  have H := Lib.hid hl
  have HN := Lib.hid hn
  have HP : Hid (posP l h ≤ l.length ∧ (∀ j, j < posP l h → (pt l j).h < h) ∧ ∀ j, posP l h ≤ j → j < l.length → h ≤ (pt l j).h) := Lib.hid ⟨posP_le _ _, fun j => posP_lt _ _, fun j => posP_ge hr _⟩
  generalize posP l h = p at *
  clear hl hr
  go_enter Tryd.func75, Tryd.ntmps75
  go_wp2_with fail
  go_loopw [9, 10] (fun i j wr => ∃ a b : Nat, i = .int .i64 a ∧ j = .int .i64 b ∧ Hid (a ≤ p ∧ p ≤ b ∧ b ≤ l.length) ∧ Hid (Below w.heap.size w wr)) (fun i j _ => (intOf j).toNat - (intOf i).toNat)
  case atStart => exact ⟨0, l.length, rfl, rfl, Lib.hid ⟨Nat.zero_le _, HP.out.1, Nat.le_refl _⟩, Lib.hid (Below.refl _ _)⟩
  case round =>
    obtain ⟨a, b, rfl, rfl, hab, HBr⟩ := hrel
    have hab' := hab.out
    have hn' := HN.out
    by_cases hlt : a < b
    · have e0 : decide ((a : Int) < (b : Int)) = true := by simpa using hlt
      have e0' : decide (a < b) = true := by simpa using hlt
      obtain ⟨m, hm⟩ : ∃ m : Nat, m = (a + b) / 2 := ⟨_, rfl⟩
      have hm1 : a ≤ m ∧ m < b := by omega
      have hm2 : ((a : Int) + (b : Int)) / 2 = (m : Int) := by omega
      have r1 : IntKind.i64.wrap ((a : Int) + (b : Int)) = (a : Int) + (b : Int) := by rw [IntWalk.i64_in _ (by omega)]
      obtain ⟨ad, rfl, hlo, h1⟩ := (H.out.on HBr.out) m (by omega)
      obtain ⟨a0, a1, a2⟩ := h1.flat
      have HC := Lib.hid (fun W => near_grew (pt l m) h W)
      have HL := Lib.hid (cmp_cases (pt l m).h h)
      have HS1 : Hid ((pt l m).h < h → m + 1 ≤ p) := Lib.hid (fun hlt => by
        rcases Nat.lt_or_ge m p with h | h
        · omega
        · have := HP.out.2.2 m h (by omega); omega)
      have HS2 : Hid (¬(pt l m).h < h → p ≤ m) := Lib.hid (fun hlt => by
        rcases Nat.lt_or_ge m p with h | h
        · exact absurd (HP.out.2.1 m h) hlt
        · exact h)
      generalize pt l m = y at *
      generalize cmpI y.h h = cf at *
      have m0 : (0 : Int) ≤ (m : Int) := by omega
      have m1 : (m : Int) < (l.length : Int) := by omega
      have hmq : m < l.length := by omega
      have HM := Lib.hid hm1
      have HM2 : Hid (wrap64 (IntKind.u64.wrap ((a : Int) + (b : Int)) / 2) = (m : Int)) := Lib.hid (by
        have r2 : IntKind.u64.wrap ((a : Int) + (b : Int)) = (a : Int) + (b : Int) := by simp [IntKind.wrap, IntKind.bits, IntKind.signed]; omega
        rw [r2, hm2]
        unfold wrap64
        omega)
      clear h1 hm hm1 hab' hn' hlt hm2
      go_upto_region 5 with (fail)
      rw [HM2.out]
      go_wp2_with fail
      refine (HC.out _).mono ?_
      rintro e w3 ⟨rfl, hg3⟩
      have HB3 : Hid (Below w.heap.size w w3) := Lib.hid (HBr.out.trans (hg3.below.mono HBr.out.size))
      clear hg3
      by_cases hc : y.h < h
      · have e1' : cf < 0 := by have := HL.out; omega
        have e1 : decide (cf < 0) = true := by simpa using e1'
        have HG : Hid (m + 1 ≤ p ∧ p ≤ b ∧ b ≤ l.length) := Lib.hid ⟨HS1.out (by omega), hab.out.2.1, hab.out.2.2⟩
        clear hc HL HS1 HS2 e1'
        go_wp2_with fail
        go_roundw
        case rel => exact ⟨m + 1, b, by go_num, rfl, HG, HB3⟩
        case measure => have := HM.out; simp [intOf]; omega
      · have e1' : ¬cf < 0 := by have := HL.out; omega
        have e1 : decide (cf < 0) = false := by simpa using e1'
        have HG : Hid (a ≤ p ∧ p ≤ m ∧ m ≤ l.length) := Lib.hid ⟨hab.out.1, HS2.out (by omega), by omega⟩
        clear hc HL HS1 HS2 e1'
        go_wp2_with fail
        go_roundw
        case rel => exact ⟨a, m, rfl, rfl, HG, HB3⟩
        case measure => have := HM.out; simp [intOf]; omega
    · obtain rfl : a = p := by omega
      have e0 : decide ((a : Int) < (b : Int)) = false := by simp; omega
      have e0' : decide (a < b) = false := by simp; omega
      clear hab' hn' hlt hab
      by_cases hp : a < l.length
      · have e2 : decide ((a : Int) < (l.length : Int)) = true := by simpa using hp
        have e2' : decide (a < l.length) = true := by simpa using hp
        have m0 : (0 : Int) ≤ (a : Int) := by omega
        have m1 : (a : Int) < (l.length : Int) := by omega
        obtain ⟨ad, rfl, hlo, h1⟩ := (H.out.on HBr.out) a hp
        obtain ⟨a0, a1, a2⟩ := h1.flat
        have HC := Lib.hid (fun W => near_grew (pt l a) h W)
        generalize pt l a = y at *
        generalize cmpI y.h h = cf at *
        clear h1 HP
        go_wp2_with fail
        refine (HC.out _).mono ?_
        rintro e w3 ⟨rfl, hg3⟩
        have HB3 : Hid (Below w.heap.size w w3) := Lib.hid (HBr.out.trans (hg3.below.mono HBr.out.size))
        clear hg3
        go_wp2_with fail
        exact bodyPost_ret (v := .tuple #[.int .i64 ((a : Nat) : Int), .bool (cf == 0)]) (by simp [results, Tryd.results75, go_sem]) rfl ⟨_, rfl, HB3.out⟩
      · have e2 : decide ((a : Int) < (l.length : Int)) = false := by simp; omega
        have e2' : decide (a < l.length) = false := by simp; omega
        clear HP hp
        go_wp2_with fail
        exact bodyPost_ret (v := .tuple #[.int .i64 ((a : Nat) : Int), .bool false]) (by simp [results, Tryd.results75, go_sem]) rfl ⟨_, rfl, HBr.out⟩

/-- A key's sum. -/
def sumK (s : ByteArray) : Int := ((F.Pure.on F.Pure.first s.data.toList).toNat : Int)
/-- What is answered of points. -/
def errP (l : List Pt) : Int := if mayB l then (if l.length = 0 then 6 else 0) else 1
set_option maxRecDepth 100000 in
set_option maxHeartbeats 2000000 in
theorem place_any (A : Option Addr) (c : Nat) (l : List Pt) (s : ByteArray) (w : World) (hn : l.length ≤ 100000) (hl : Ps w A l) (hs : s.size ≤ maxLen) (i e : Int) (he : errP l = e) (hi : (if e = 0 then ((placeP l (sumK s) : Nat) : Int) else 0) = i) :
    Calls Tryd.prog 58 #[.slice A l.length c, .string s] w fun r w' => r = .returned (.tuple #[.int .i64 i, .int .i64 e]) ∧ Below w.heap.size w w' := by
  have H := Lib.hid hl
  obtain ⟨L, hL⟩ : ∃ L, mayB l = L := ⟨_, rfl⟩
  rcases L with _ | _
  · have HC : Hid (∀ (W : World), Ps W A l → Calls Tryd.prog 74 #[.slice A l.length c] W fun e w' => e = .returned (.int .i64 1) ∧ Below W.heap.size W w') := Lib.hid (fun W h => check_any A c l W hn h false hL)
    obtain rfl : e = 1 := by rw [← he]; simp [errP, hL]
    obtain rfl : i = 0 := by rw [← hi]; rfl
    clear hl he hL hi
    go_enter Tryd.func58, Tryd.ntmps58
    go_wp2_with fail
    refine (HC.out _ H.out).mono ?_
    rintro e w1 ⟨rfl, hb1⟩
    go_wp2_with fail
    exact bodyPost_ret (v := .tuple #[.int .i64 0, .int .i64 1]) (by simp [results, Tryd.results58, go_sem]) rfl ⟨rfl, hb1⟩
  · have HC : Hid (∀ (W : World), Ps W A l → Calls Tryd.prog 74 #[.slice A l.length c] W fun e w' => e = .returned (.int .i64 0) ∧ Below W.heap.size W w') := Lib.hid (fun W h => check_any A c l W hn h true hL)
    by_cases hz : l.length = 0
    · obtain rfl : e = 6 := by rw [← he]; simp [errP, hL, hz]
      obtain rfl : i = 0 := by rw [← hi]; rfl
      have e0 : ((l.length : Int) == 0) = true := by simpa using hz
      have e0' : (l.length == 0) = true := by simpa using hz
      have HZ := Lib.hid hz
      clear hl he hL hi hn
      rw [hz] at HC ⊢
      clear hz
      go_enter Tryd.func58, Tryd.ntmps58
      go_wp2_with fail
      refine (HC.out _ H.out).mono ?_
      rintro e w1 ⟨rfl, hb1⟩
      go_wp2_with fail
      exact bodyPost_ret (v := .tuple #[.int .i64 0, .int .i64 6]) (by simp [results, Tryd.results58, go_sem]) rfl ⟨rfl, hb1⟩
    · obtain rfl : e = 0 := by rw [← he]; simp [errP, hL, hz]
      rw [if_pos rfl] at hi
      have hmay := (mayB_iff l).1 hL
      have HSE := Lib.hid (fun (W : World) (h : Ps W A l) => search_any A c l (sumK s) W (by omega) (may_rise hL) h)
      have HSM : Hid (∀ (g : Nat) (W : World), W.cell? ⟨g, 0, none⟩ = some (.string s) → Calls Tryd.prog 51 #[.slice (some ⟨g, 0, none⟩) 1 1] W fun e w' => e = .returned (.int .u64 (sumK s)) ∧ W = w') := Lib.hid (fun g W h => F.sum_one g s W h hs)
      have HPL : Hid (placeP l (sumK s) = posP l (sumK s) % l.length) := Lib.hid rfl
      generalize placeP l (sumK s) = q at *
      subst hi
      generalize posP l (sumK s) = p at *
      generalize sumK s = h at *
      have e0 : ((l.length : Int) == 0) = false := by simpa using hz
      have e0' : (l.length == 0) = false := by simpa using hz
      have ez : ¬ l.length = 0 := hz
      have HT : Hid (Int.tmod (p : Int) (l.length : Int) = (q : Int)) := Lib.hid (by rw [HPL.out, Int.tmod_eq_emod_of_nonneg (by omega)]; rfl)
      have hq : q < l.length := by rw [HPL.out]; exact Nat.mod_lt _ (by omega)
      clear hl he hL hz hmay HPL
      go_enter Tryd.func58, Tryd.ntmps58
      go_wp2_with fail
      refine (HC.out _ H.out).mono ?_
      rintro e w1 ⟨rfl, hb1⟩
      have HB1 := Lib.hid hb1
      have H1 := Lib.hid (H.out.on hb1)
      clear hb1
      go_wp2_with fail
      refine (HSM.out _ _ (by go_simp)).mono ?_
      rintro e w2 ⟨rfl, rfl⟩
      go_wp2_with fail
      refine (HSE.out _ (H1.out.alloc _)).mono ?_
      rintro e w3 ⟨b, rfl, hb3⟩
      have HB3 : Hid (Below w.heap.size w w3) := Lib.hid ((HB1.out.alloc HB1.out.size _).trans (hb3.mono (by have := HB1.out.size; simp; omega)))
      clear hb3
      go_upto_region 7 with (fail)
      have hT := HT.out
      have hw : IntKind.i64.wrap (q : Int) = (q : Int) := IntWalk.i64_in _ (by omega)
      go_wp2_with fail
      exact bodyPost_ret (v := .tuple #[.int .i64 (q : Int), .int .i64 0]) (by simp [results, Tryd.results58, go_sem]) rfl ⟨rfl, HB3.out⟩

theorem errP_zero {l : List Pt} (h : errP l = 0) : mayB l = true ∧ 0 < l.length := by
  unfold errP at h
  rcases hm : mayB l with _ | _
  · rw [hm] at h; simp at h
  · rw [hm] at h
    refine ⟨rfl, ?_⟩
    rcases Nat.eq_zero_or_pos l.length with hz | hz
    · rw [hz] at h; simp at h
    · exact hz
end Go.Proofs.YthcjjogomknddaaDoor
