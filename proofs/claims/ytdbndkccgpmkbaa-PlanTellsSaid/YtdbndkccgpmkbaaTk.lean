/-
  The walks of Tasks, of the document's Tasks, and of the law's cut of texts.
-/
import Derived.Test.YtdbndkccgpmkbaaFn
namespace Go.Proofs.Ytdbndkccgpmkbaa
open Go.Sort Go.RowKit Go.Proofs.Ytdbndkccgpmkbaa.Pure

/-- Texts no longer than a slice may be. -/
def Shrt (l : List ByteArray) : Prop := ∀ j, j < l.length → (ba l j).size ≤ maxLen
theorem Shrt.take {l : List ByteArray} (h : Shrt l) (k : Nat) : Shrt (l.take k) := fun j hj => by
  rw [List.length_take] at hj
  rw [ba_take l k j (by omega)]
  exact h j (by omega)
/-- Tasks that may be, and what follows. -/
abbrev tskB (l : List ByteArray) : Bool := tasksB nameB l
theorem next_zero (l : List ByteArray) : nextB nameB l 0 = nameB (ba l 0) := by simp [nextB]
theorem next_succ (l : List ByteArray) (k : Nat) : nextB nameB l (k + 1) = (nameB (ba l (k + 1)) && ltS (ba l k) (ba l (k + 1))) := by simp [nextB]
/-- Which it is. -/
theorem tsk_is (l : List ByteArray) (L : Bool) (hL : tskB l = L) : (100 < l.length → L = false) ∧ (∀ k, k < l.length → nextB nameB l k = false → L = false) ∧ (l.length ≤ 100 → (∀ k, k < l.length → nextB nameB l k = true) → L = true) := by
  subst hL
  exact ⟨tasksB_many, fun k hk h => tasksB_bad hk h, tasksB_good⟩

set_option maxRecDepth 100000 in
set_option maxHeartbeats 4000000 in
theorem tasks_any (A : Option Addr) (c : Nat) (l : List ByteArray) (w : World) (hn : l.length ≤ 9223372036854775807) (h : Ss w A l) (hs : Shrt l) (L : Bool) (hL : tskB l = L) :
    Calls Try.prog 32 #[.slice A l.length c] w fun e w' => e = .returned (.int .i64 (okE L)) ∧ Below w.heap.size w w' := by
  have HT := Lib.hid (tsk_is l L hL)
  have H := Lib.hid h
  have HS := Lib.hid hs
  have HN := Lib.hid (fun (s : ByteArray) (W : World) (h : s.size ≤ maxLen) => name_any s W (by unfold maxLen at h; omega))
  clear h hs hL
  by_cases hm : 100 < l.length
  · obtain rfl := HT.out.1 hm
    have e0 : decide (100 < (l.length : Int)) = true := by simp; omega
    have e0' : decide (100 < l.length) = true := by simpa using hm
    clear HT H HS HN hm
    generalize l.length = n at *
    go_enter Try.func32, Try.ntmps32
    go_wp2_with fail
    go_ret
    exact ⟨rfl, Below.refl _ _⟩
  have e0 : decide (100 < (l.length : Int)) = false := by simp; omega
  have e0' : decide (100 < l.length) = false := by simp; omega
  have HTG := Lib.hid (HT.out.2.2 (by omega))
  have HTB := Lib.hid HT.out.2.1
  clear HT
  go_enter Try.func32, Try.ntmps32
  go_wp2_with fail
  go_loopw [10] (fun i wr => ∃ k : Nat, i = .int .i64 k ∧ k ≤ l.length ∧ Hid (∀ j, j < k → nextB nameB l j = true) ∧ Hid (Below w.heap.size w wr)) (fun i _ => l.length - (intOf i).toNat)
  case atStart => exact ⟨0, rfl, Nat.zero_le _, Lib.hid (fun j hj => absurd hj (Nat.not_lt_zero j)), Lib.hid (Below.refl _ _)⟩
  case round =>
    obtain ⟨k, rfl, hk, hok, hb⟩ := hrel
    by_cases hlt : k < l.length
    · have k0 : (0 : Int) ≤ (k : Int) := by omega
      have k1 : (k : Int) < (l.length : Int) := by omega
      obtain ⟨ad, rfl, hlo, h1⟩ := (H.out.on hb.out) k hlt
      have HC := Lib.hid (fun W => HN.out (ba l k) W (HS.out k hlt))
      have HF : Hid (nextB nameB l k = false → L = false) := Lib.hid (HTB.out k hlt)
      have HO : Hid (nextB nameB l k = true → ∀ j, j < k + 1 → nextB nameB l j = true) := Lib.hid (fun he j hj => by
        rcases Nat.lt_or_ge j k with hjk | hjk
        · exact hok.out j hjk
        · obtain rfl : j = k := by omega
          exact he)
      clear hok HTB HTG
      rcases Nat.eq_zero_or_pos k with hz | hz
      · subst hz
        have g1 : wr.cell? ad = some (.string (ba l 0)) := h1
        have HO' : Hid (nameB (ba l 0) = true → ∀ j, j < 0 + 1 → nextB nameB l j = true) := Lib.hid (fun hN => HO.out (by rw [next_zero, hN]))
        have HF' : Hid (nameB (ba l 0) = false → L = false) := Lib.hid (fun hN => HF.out (by rw [next_zero, hN]))
        generalize ba l 0 = x at *
        clear HF HO h1
        rcases hN : nameB x with _ | _
        all_goals
          rw [hN] at HC
          go_wp2_with fail
          refine (HC.out _).mono ?_
          rintro e w2 ⟨rfl, hb2⟩
          have HB2 := Lib.hid (hb.out.trans (hb2.mono hb.out.size))
          clear hb2 hb g1
          go_wp2_with fail
        · obtain rfl := HF'.out hN
          go_ret
          exact ⟨rfl, HB2.out⟩
        · go_roundw
          case rel => exact ⟨1, by go_num, by omega, Lib.hid (HO'.out hN), HB2⟩
          case measure => simp [intOf]; omega
      · obtain ⟨m, hkm⟩ : ∃ m, k = m + 1 := ⟨k - 1, by omega⟩
        obtain ⟨ad', e', hlo', h2⟩ := (H.out.on hb.out) m (by omega)
        obtain rfl := Option.some.inj e'
        have kz : decide ((0 : Int) < (k : Int)) = true := decide_eq_true (by omega)
        have kz' : decide (0 < k) = true := decide_eq_true hz
        have wm : IntKind.i64.wrap ((k : Int) - 1) = (m : Int) := by rw [IntWalk.i64_in _ (by omega)]; omega
        have m0 : (0 : Int) ≤ (m : Int) := by omega
        have m1 : (m : Int) < (l.length : Int) := by omega
        have hge := less_is (ba l m) (ba l k)
        have hNX : Hid (nextB nameB l k = (nameB (ba l k) && ltS (ba l m) (ba l k))) := Lib.hid (by rw [hkm]; exact next_succ l m)
        rw [hNX.out] at HF HO
        clear hNX hkm e'
        generalize ba l m = y at *
        generalize ba l k = x at *
        rcases hN : nameB x with _ | _
        · rw [hN] at HC HF
          obtain rfl := HF.out rfl
          clear HF HO
          go_wp2_with fail
          refine (HC.out _).mono ?_
          rintro e w2 ⟨rfl, hb2⟩
          go_wp2_with fail
          go_ret
          exact ⟨rfl, hb.out.trans (hb2.mono hb.out.size)⟩
        · rcases hS : ltS y x with _ | _
          all_goals
            rw [hN] at HC HF HO
            rw [hS] at hge HF HO
            go_wp2_with fail
            refine (HC.out _).mono ?_
            rintro e w2 ⟨rfl, hb2⟩
            have g1 := (hb2.cell (p := ad.add m) (by rw [block_add]; exact hlo')).trans h2
            have HB2 := Lib.hid (hb.out.trans (hb2.mono hb.out.size))
            clear hb2 hb h1 h2
            go_wp2_with fail
          · obtain rfl := HF.out rfl
            go_ret
            exact ⟨rfl, HB2.out⟩
          · go_roundw
            case rel => exact ⟨k + 1, by go_num, by omega, Lib.hid (HO.out rfl), HB2⟩
            case measure => simp [intOf]; omega
    · obtain rfl : k = l.length := by omega
      obtain rfl := HTG.out hok.out
      go_wp2_with fail
      go_ret
      exact ⟨rfl, hb.out⟩

set_option maxRecDepth 100000 in
set_option maxHeartbeats 4000000 in
theorem rtasks_any (A : Option Addr) (c : Nat) (l : List ByteArray) (w : World) (hn : l.length ≤ 9223372036854775807) (h : Ss w A l) (hs : Shrt l) (L : Bool) (hL : tskB l = L) :
    Calls Try.prog 33 #[.slice A l.length c] w fun e w' => e = .returned (.bool L) ∧ Below w.heap.size w w' := by
  have HT := Lib.hid (tsk_is l L hL)
  have H := Lib.hid h
  have HS := Lib.hid hs
  have HN := Lib.hid (fun (s : ByteArray) (W : World) (h : s.size ≤ maxLen) => (rname_any s W (by unfold maxLen at h; omega)).mono fun e w' (hh : e = .returned (.bool (nameB s)) ∧ W = w') => (⟨hh.1, hh.2 ▸ Below.refl _ _⟩ : e = .returned (.bool (nameB s)) ∧ Below W.heap.size W w'))
  have HTB := Lib.hid HT.out.2.1
  clear h hs hL
  go_enter Try.func33, Try.ntmps33
  go_wp2_with fail
  go_loopw [3] (fun i wr => ∃ k : Nat, i = .int .i64 k ∧ k ≤ l.length ∧ Hid (∀ j, j < k → nextB nameB l j = true) ∧ Hid (Below w.heap.size w wr)) (fun i _ => l.length - (intOf i).toNat)
  case atStart => exact ⟨0, rfl, Nat.zero_le _, Lib.hid (fun j hj => absurd hj (Nat.not_lt_zero j)), Lib.hid (Below.refl _ _)⟩
  case round =>
    obtain ⟨k, rfl, hk, hok, hb⟩ := hrel
    by_cases hlt : k < l.length
    · have k0 : (0 : Int) ≤ (k : Int) := by omega
      have k1 : (k : Int) < (l.length : Int) := by omega
      obtain ⟨ad, rfl, hlo, h1⟩ := (H.out.on hb.out) k hlt
      have HC := Lib.hid (fun W => HN.out (ba l k) W (HS.out k hlt))
      have HF : Hid (nextB nameB l k = false → L = false) := Lib.hid (HTB.out k hlt)
      have HO : Hid (nextB nameB l k = true → ∀ j, j < k + 1 → nextB nameB l j = true) := Lib.hid (fun he j hj => by
        rcases Nat.lt_or_ge j k with hjk | hjk
        · exact hok.out j hjk
        · obtain rfl : j = k := by omega
          exact he)
      clear hok HTB HT
      have hz := Lib.hid hb.out.size
      rcases Nat.eq_zero_or_pos k with hkz | hkz
      · subst hkz
        have g1 : wr.cell? ad = some (.string (ba l 0)) := h1
        have A0 := fun dd os => cell_regrown g1 dd os
        have HO' : Hid (nameB (ba l 0) = true → ∀ j, j < 0 + 1 → nextB nameB l j = true) := Lib.hid (fun hN => HO.out (by rw [next_zero, hN]))
        have HF' : Hid (nameB (ba l 0) = false → L = false) := Lib.hid (fun hN => HF.out (by rw [next_zero, hN]))
        generalize ba l 0 = x at *
        clear HF HO h1 g1
        rcases hN : nameB x with _ | _
        all_goals
          rw [hN] at HC
          have HC2 := Lib.hid (fun p : Regrown => HC.out (grow (redrawn wr p.d) p.os))
          clear HC
          go_upto_region 4 with (fail)
          refine q_enter (by kernel_rfl) (by kernel_rfl) ?_
          iterate 22 (refine q_step ?_; intro K hK; go_simp; first | (refine hK _ ?_; clear hK K) | (refine ⟨_, fun p => Calls.regrown_of (by with_reducible exact HC2.out p), hK _ ?_⟩; clear hK K))
          refine q_nil ?_
          intro wz hbz
          have HZ : Hid (Below w.heap.size w wz) := Lib.hid (hb.out.trans (hbz.mono hz.out))
          clear hbz hb hz A0
          go_wp2_with fail
        · obtain rfl := HF'.out hN
          go_ret
          exact ⟨rfl, HZ.out⟩
        · go_roundw
          case rel => exact ⟨1, by go_num, by omega, Lib.hid (HO'.out hN), HZ⟩
          case measure => simp [intOf]; omega
      · obtain ⟨m, hkm⟩ : ∃ m, k = m + 1 := ⟨k - 1, by omega⟩
        obtain ⟨ad', e', hlo', h2⟩ := (H.out.on hb.out) m (by omega)
        obtain rfl := Option.some.inj e'
        have kz : decide ((0 : Int) < (k : Int)) = true := decide_eq_true (by omega)
        have kz' : decide (0 < k) = true := decide_eq_true hkz
        have wm : IntKind.i64.wrap ((k : Int) - 1) = (m : Int) := by rw [IntWalk.i64_in _ (by omega)]; omega
        have m0 : (0 : Int) ≤ (m : Int) := by omega
        have m1 : (m : Int) < (l.length : Int) := by omega
        have hge := less_is (ba l m) (ba l k)
        have hNX : Hid (nextB nameB l k = (nameB (ba l k) && ltS (ba l m) (ba l k))) := Lib.hid (by rw [hkm]; exact next_succ l m)
        rw [hNX.out] at HF HO
        have A0 := fun dd os => cell_regrown h1 dd os
        have A1 := fun dd os => cell_regrown h2 dd os
        clear hNX hkm e' h1 h2
        generalize ba l m = y at *
        generalize ba l k = x at *
        rcases hN : nameB x with _ | _
        · rw [hN] at HC HF
          obtain rfl := HF.out rfl
          have HC2 := Lib.hid (fun p : Regrown => HC.out (grow (redrawn wr p.d) p.os))
          clear HF HO HC
          go_upto_region 4 with (fail)
          refine q_enter (by kernel_rfl) (by kernel_rfl) ?_
          iterate 22 (refine q_step ?_; intro K hK; go_simp; first | (refine hK _ ?_; clear hK K) | (refine ⟨_, fun p => Calls.regrown_of (by with_reducible exact HC2.out p), hK _ ?_⟩; clear hK K))
          refine q_nil ?_
          intro wz hbz
          have HZ : Hid (Below w.heap.size w wz) := Lib.hid (hb.out.trans (hbz.mono hz.out))
          clear hbz hb hz A0 A1
          go_wp2_with fail
          go_ret
          exact ⟨rfl, HZ.out⟩
        · have hLQ := leq_is x y
          rw [hN] at HC HF HO
          have HC2 := Lib.hid (fun p : Regrown => HC.out (grow (redrawn wr p.d) p.os))
          clear HC
          rcases hb1 : Op.bytesLess x.toList y.toList with _ | _
          · rcases hb2 : (x.toList == y.toList) with _ | _
            · have hS : ltS y x = true := by rw [hb1, hb2] at hLQ; simpa using hLQ.symm
              rw [hS] at HO
              clear hLQ hS HF hge
              go_upto_region 4 with (fail)
              refine q_enter (by kernel_rfl) (by kernel_rfl) ?_
              iterate 22 (refine q_step ?_; intro K hK; go_simp; first | (refine hK _ ?_; clear hK K) | (refine ⟨_, fun p => Calls.regrown_of (by with_reducible exact HC2.out p), hK _ ?_⟩; clear hK K))
              refine q_nil ?_
              intro wz hbz
              have HZ : Hid (Below w.heap.size w wz) := Lib.hid (hb.out.trans (hbz.mono hz.out))
              clear hbz hb hz A0 A1
              go_wp2_with fail
              go_roundw
              case rel => exact ⟨k + 1, by go_num, by omega, Lib.hid (HO.out rfl), HZ⟩
              case measure => simp [intOf]; omega
            · have hS : ltS y x = false := by rw [hb1, hb2] at hLQ; simpa using hLQ.symm
              rw [hS] at HF
              obtain rfl := HF.out rfl
              clear hLQ hS HF HO hge
              go_upto_region 4 with (fail)
              refine q_enter (by kernel_rfl) (by kernel_rfl) ?_
              iterate 22 (refine q_step ?_; intro K hK; go_simp; first | (refine hK _ ?_; clear hK K) | (refine ⟨_, fun p => Calls.regrown_of (by with_reducible exact HC2.out p), hK _ ?_⟩; clear hK K))
              refine q_nil ?_
              intro wz hbz
              have HZ : Hid (Below w.heap.size w wz) := Lib.hid (hb.out.trans (hbz.mono hz.out))
              clear hbz hb hz A0 A1
              go_wp2_with fail
              go_ret
              exact ⟨rfl, HZ.out⟩
          · have hS : ltS y x = false := by rw [hb1] at hLQ; simpa using hLQ.symm
            rw [hS] at HF
            obtain rfl := HF.out rfl
            clear hLQ hS HF HO hge
            go_upto_region 4 with (fail)
            refine q_enter (by kernel_rfl) (by kernel_rfl) ?_
            iterate 22 (refine q_step ?_; intro K hK; go_simp; first | (refine hK _ ?_; clear hK K) | (refine ⟨_, fun p => Calls.regrown_of (by with_reducible exact HC2.out p), hK _ ?_⟩; clear hK K))
            refine q_nil ?_
            intro wz hbz
            have HZ : Hid (Below w.heap.size w wz) := Lib.hid (hb.out.trans (hbz.mono hz.out))
            clear hbz hb hz A0 A1
            go_wp2_with fail
            go_ret
            exact ⟨rfl, HZ.out⟩
    · obtain rfl : k = l.length := by omega
      by_cases hm : l.length ≤ 100
      · obtain rfl := HT.out.2.2 hm hok.out
        have e0 : decide ((l.length : Int) ≤ 100) = true := by simp; omega
        have e0' : decide (l.length ≤ 100) = true := by simpa using hm
        go_wp2_with fail
        go_ret
        exact ⟨rfl, hb.out⟩
      · obtain rfl := HT.out.1 (by omega)
        have e0 : decide ((l.length : Int) ≤ 100) = false := by simp; omega
        have e0' : decide (l.length ≤ 100) = false := by simp; omega
        go_wp2_with fail
        go_ret
        exact ⟨rfl, hb.out⟩

end Go.Proofs.Ytdbndkccgpmkbaa
