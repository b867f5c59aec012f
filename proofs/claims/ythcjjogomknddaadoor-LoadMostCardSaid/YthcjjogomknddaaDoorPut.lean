/-
  A map of the call's own from ints to ints; the walk of put.
-/
import Derived.Test.YthcjjogomknddaaDoorCk
import Derived.Maps.OwnSet
import Derived.Deep.LoopGhost
namespace Go.Proofs.YthcjjogomknddaaDoor
open Go.Sort Go.RowKit Go.Proofs.YthcjjogomknddaaDoor.Pure
open Go.Maps (Keyed int_keyed keyOf_int_mk IsMap)

theorem zeroI (w : World) : (zeroValue 3).run Tryd.prog w = .ok (.int .i64 0) w := by kernel_rfl
theorem intKeyed : Keyed Tryd.prog 3 := int_keyed Tryd.underlying3
theorem wf_of {k : Int} (h : -9223372036854775808 ≤ k ∧ k ≤ 9223372036854775807) : (Lit.int .i64 k).wf = true := by
  simp [Lit.wf, IntKind.min, IntKind.max, IntKind.signed, IntKind.bits]
  omega
/-- Block g is a map that holds f k at each key k. -/
def Mc (w : World) (g n : Nat) (f : Int → Int) : Prop :=
  ∃ D : DataW Unit, w.ownsMap Tryd.prog 3 (plainElem Tryd.prog 3) g n D ∧ ∀ k : Int, D.atKey (.int .i64 k) (.lit (.int .i64 0)) = .lit (.int .i64 (f k))
section
variable {w w' : World} {g n : Nat} {f : Int → Int}
theorem Mc.made (w : World) : Mc (w.alloc (.map #[] 0)) w.heap.size 0 (fun _ => 0) := ⟨.map [], World.ownsMap_made _ _ _ _, fun k => by simp [DataW.atKey]⟩
theorem Mc.kept {row : Option Nat} (h : Mc w g n f) (hg : w.grownBy w' row) (hne : some g ≠ row) : Mc w' g n f := by
  obtain ⟨D, h1, h2⟩ := h
  exact ⟨D, h1.kept hg hne, h2⟩
theorem Mc.on (h : Mc w g n f) (hb : Below w.heap.size w w') : Mc w' g n f :=
  h.kept (row := none) ⟨hb.os, hb.tape, hb.output, hb.size, fun b hb' _ => hb.block b hb'⟩ (by simp)
theorem Mc.lt (h : Mc w g n f) : g < w.heap.size := by
  obtain ⟨D, h1, _⟩ := h
  exact h1.lt
set_option maxRecDepth 100000 in
/-- m[k]. -/
theorem Mc.look (h : Mc w g n f) (k : Int) (hk : -9223372036854775808 ≤ k ∧ k ≤ 9223372036854775807) (c : Int) (hc : f k = c) : (Instr.lookup 78 (.map (some g)) (.int .i64 k) false).run Tryd.prog w = .ok (.int .i64 c) w := by
  obtain ⟨D, h1, h2⟩ := h
  obtain ⟨c', hrun, hat, _⟩ := h1.lookup_int intKeyed Tryd.underlying78 Tryd.underlying3 (zeroI w) (keyOf_int_mk Tryd.underlying3 (wf_of hk))
  rw [h2 k, hc] at hat
  injection hat with hat
  injection hat with _ hat
  rw [hrun, hat]
set_option maxRecDepth 100000 in
/-- m[k] = c. -/
theorem Mc.put (h : Mc w g n f) (hn : n < 1000) (k c : Int) (hk : -9223372036854775808 ≤ k ∧ k ≤ 9223372036854775807) (hc : -9223372036854775808 ≤ c ∧ c ≤ 9223372036854775807) (f' : Int → Int) (hf : ∀ x, f' x = if x = k then c else f x) :
    ∃ w', (Instr.mapUpdate 78 (.map (some g)) (.int .i64 k) (.int .i64 c)).run Tryd.prog w = .ok () w' ∧ Mc w' g (n + 1) f' ∧ w.grownBy w' (some g) := by
  obtain ⟨D, h1, h2⟩ := h
  have hm : IsMap D := h1.isMap
  obtain ⟨w', hrun, h1', hg⟩ := h1.update intKeyed Tryd.underlying78 (by unfold maxLen; omega) (keyOf_int_mk Tryd.underlying3 (wf_of hk)) (plainElem_int Tryd.underlying3 (wf_of hc))
  refine ⟨w', hrun, ⟨_, h1', fun x => ?_⟩, hg⟩
  by_cases e : x = k
  · subst e
    rw [Maps.atKey_put_same hm (by simp [WideAt.IsKeyLit]), hf, if_pos rfl]
  · rw [Maps.atKey_put_other (by intro h; injection h with _ h; exact e h), h2 x, hf, if_neg e]
end

/-- One step of putting: what it finds. -/
theorem put_step {P : List Pt} {m : Nat} {l : List ByteArray} {xs : List Int} (hR : Room (fun t => walkP P (sumK t)) xs m l) (hx : ∀ x ∈ xs, 0 ≤ x ∧ x < 64) {k : Nat} (hk : k < l.length) :
    ∃ (q x : Nat), q < (walkP P (sumK (ba l k))).length ∧ (walkP P (sumK (ba l k))).getD q 0 = (x : Int) ∧ x < 64 ∧ cnt (asg (fun t => walkP P (sumK t)) m (l.take k)) (x : Int) < m ∧
      (∀ j, j < q → ∃ y : Nat, (walkP P (sumK (ba l k))).getD j 0 = (y : Int) ∧ y < 64 ∧ m ≤ cnt (asg (fun t => walkP P (sumK t)) m (l.take k)) (y : Int)) ∧
      asg (fun t => walkP P (sumK t)) m (l.take (k + 1)) = asg (fun t => walkP P (sumK t)) m (l.take k) ++ [⟨ba l k, (x : Int)⟩] := by
  obtain ⟨h1, h2, h3⟩ := asg_found hR hk
  have hW : ∀ x ∈ walkP P (sumK (ba l k)), 0 ≤ x ∧ x < 64 := fun x h => hx x ((hR.walk (ba l k) (by rw [ba_lt l hk]; exact List.getElem_mem hk) x).1 h)
  have e : l.take (k + 1) = l.take k ++ [ba l k] := by rw [List.take_succ_eq_append_getElem hk, ba_lt l hk]
  have hb : l.getD k ⟨#[]⟩ = ba l k := rfl
  rw [hb] at h1 h2 h3
  have hin : ∀ j, j < (walkP P (sumK (ba l k))).length → 0 ≤ (walkP P (sumK (ba l k))).getD j 0 ∧ (walkP P (sumK (ba l k))).getD j 0 < 64 := fun j hj => hW _ (by rw [List.getD, List.getElem?_eq_getElem hj]; exact List.getElem_mem hj)
  have hq := hin _ h1
  refine ⟨_, ((walkP P (sumK (ba l k))).getD (atF (walkP P (sumK (ba l k))) (asg (fun t => walkP P (sumK t)) m (l.take k)) m) 0).toNat, h1, by omega, by omega, ?_, fun j hj => ?_, ?_⟩
  · rw [Int.toNat_of_nonneg hq.1]; exact h2
  · have := hin j (by omega)
    exact ⟨((walkP P (sumK (ba l k))).getD j 0).toNat, by omega, by omega, by rw [Int.toNat_of_nonneg this.1]; exact h3 j hj⟩
  · rw [e, asg_snoc, Int.toNat_of_nonneg hq.1]; rfl

theorem walk_ok (A : Option Addr) (c : Nat) (l : List Pt) (s : ByteArray) (w : World) (hn : l.length ≤ 100000) (hl : Ps w A l) (hs : s.size ≤ maxLen) (he : errP l = 0) :
    Calls Tryd.prog 48 #[.slice A l.length c, .string s] w fun r w' => ∃ v, r = .returned (.tuple #[v, .int .i64 0]) ∧ Own w' w.heap.size v (walkP l (sumK s)) ∧ Below w.heap.size w w' := by
  have := walk_any A c l s w hn hl hs 0 he
  rwa [if_pos rfl] at this

set_option maxRecDepth 100000 in
set_option maxHeartbeats 4000000 in
theorem put_any (A A' : Option Addr) (c c' : Nat) (P : List Pt) (m : Nat) (l : List ByteArray) (w : World) (hn : P.length ≤ 100000) (hP : Ps w A P) (he : errP P = 0) (hl : l.length ≤ 100) (hL : Ss w A' l) (hs : Shrt l)
    (xs : List Int) (hR : Room (fun t => walkP P (sumK t)) xs m l) (hx : ∀ x ∈ xs, 0 ≤ x ∧ x < 64) :
    Calls Tryd.prog 37 #[.slice A P.length c, .int .i64 (m : Int), .slice A' l.length c'] w fun r w' => ∃ v, r = .returned v ∧ OwnU w' w.heap.size v (asg (fun t => walkP P (sumK t)) m l) ∧ Below w.heap.size w w' := by
  have HP := Lib.hid hP
  have HL := Lib.hid hL
  have HW := Lib.hid (fun (s : ByteArray) (W : World) (h : Ps W A P) (hz : s.size ≤ maxLen) => walk_ok A c P s W hn h hz he)
  have HS := Lib.hid hs
  have HST := Lib.hid (fun (k : Nat) (hk : k < l.length) => put_step hR hx hk)
  obtain ⟨S, hS⟩ : ∃ S : Nat → List Pu, S = fun k => asg (fun t => walkP P (sumK t)) m (l.take k) := ⟨_, rfl⟩
  have HSE : Hid (S l.length = asg (fun t => walkP P (sumK t)) m l) := Lib.hid (by rw [hS]; simp)
  have HS0 : Hid (S 0 = []) := Lib.hid (by rw [hS]; rfl)
  have HSL : Hid (∀ k, (S k).length ≤ k) := Lib.hid (fun k => by rw [hS]; simp only [asg_len, List.length_take]; omega)
  have HSX : Hid (∀ k, S k = asg (fun t => walkP P (sumK t)) m (l.take k)) := Lib.hid (fun k => by rw [hS])
  simp only [← HSX.out] at HST
  generalize asg (fun t => walkP P (sumK t)) m l = R at *
  clear hP hL hs hR hx hS HSX he
  go_enter Tryd.func37, Tryd.ntmps37
  have hmk := @run_makeMap Tryd.prog
  go_wp2_with fail
  go_step3
  go_wp2_with fail
  go_step3
  go_wp2_with fail
  obtain ⟨g, hg⟩ : ∃ g, g = w.heap.size := ⟨_, rfl⟩
  have HM0 : Hid (Mc (w.alloc (.map #[] 0)) g 0 (fun _ => 0)) := Lib.hid (hg ▸ Mc.made w)
  have HB0 : Hid (Below g w (w.alloc (.map #[] 0))) := Lib.hid (hg ▸ (Below.refl _ w).alloc (Nat.le_refl _) _)
  have hg0 : (w.alloc (.map #[] 0)).heap.size = g + 1 := by rw [hg]; simp
  generalize w.alloc (.map #[] 0) = wa at *
  rw [← hg]
  have HG := Lib.hid hg
  clear hg hmk
  have HZ0 : Hid (g + 1 ≤ wa.heap.size) := Lib.hid (by omega)
  clear hg0
  go_loopg [7, 18] l.length (fun z v i wr => ∃ k : Nat, k + z = l.length ∧ i = .int .i64 k ∧ Hid (OwnU wr (g + 1) v (S k)) ∧ Hid (Mc wr g k (fun x => (cnt (S k) x : Int))) ∧ Hid (Below g w wr) ∧ Hid (g + 1 ≤ wr.heap.size))
  case atStart => exact ⟨0, by omega, rfl, Lib.hid (by rw [HS0.out]; exact OwnU.nil _ _), Lib.hid (by rw [HS0.out]; exact HM0.out), HB0, HZ0⟩
  case round =>
    clear HM0 HB0 HZ0
    obtain ⟨w0, e0⟩ : ∃ w0, w0 = wr := ⟨_, rfl⟩
    subst e0
    obtain ⟨k, hkz, rfl, HO, HM, HB, HZ⟩ := hrel
    cases gk with
    | succ z =>
      have k0 : (0 : Int) ≤ (k : Int) := by omega
      have k1 : (k : Int) < (l.length : Int) := by omega
      have hlt : k < l.length := by omega
      obtain ⟨q, x, hq, hx, hx64, hcx, hlow, hnext⟩ := HST.out k hlt
      obtain ⟨ad, rfl, hlo, h1⟩ := (HL.out.on (HG.out ▸ HB.out)) k hlt
      have HW1 := Lib.hid (HW.out (ba l k) w0 (HP.out.on (HG.out ▸ HB.out)) (HS.out k hlt))
      have HNX := Lib.hid hnext
      have HLOW := Lib.hid hlow
      have HQX := Lib.hid hx
      have HCX := Lib.hid hcx
      have HSLk := Lib.hid (HSL.out k)
      have HC0 := Lib.hid (fun y : Int => (cnt_le (S k) y))
      have HK1 : Hid (k + 1 + z = l.length) := Lib.hid (by omega)
      have HKL : Hid (k < 100) := Lib.hid (by omega)
      have HWL : Hid ((walkP P (sumK (ba l k))).length ≤ 100000) := Lib.hid (by have := nub_le (rotN P (sumK (ba l k))); rw [rotN_len] at this; unfold walkP; omega)
      generalize S k = X at *
      generalize ba l k = t at *
      generalize walkP P (sumK t) = WK at *
      clear hlow hx hnext HST hcx
      go_wp2_with fail
      refine HW1.out.mono ?_
      rintro e w1 ⟨v, rfl, ho, hb1⟩
      have HB1 := Lib.hid (HB.out.trans (hb1.mono (by have := HZ.out; omega)))
      have HO1 := Lib.hid (HO.out.on hb1)
      have HM1 := Lib.hid (HM.out.on hb1)
      have HZ1 : Hid (g + 1 ≤ w1.heap.size) := Lib.hid (by have := HZ.out; have := hb1.size; omega)
      obtain ⟨AX, cX, rfl, hcX, hX⟩ := ho.has
      have HX := Lib.hid hX
      clear hX ho hb1 HB HO HM HZ HW1 h1 hlo
      go_wp2_with fail
      generalize u7 = vv at *
      go_loopg [7, 30] q (fun y v i wr => ∃ j : Nat, j + y = q ∧ v = vv ∧ i = .int .i64 j ∧ w1 = wr)
      case atStart => exact ⟨0, by omega, rfl, rfl, rfl⟩
      case round =>
        obtain ⟨j, hjy, rfl, rfl, rfl⟩ := hrel
        have j0 : (0 : Int) ≤ (j : Int) := by omega
        have j1 : (j : Int) < (WK.length : Int) := by omega
        have hwl := HWL.out
        obtain ⟨ad', rfl, _, _, h2⟩ := HX.out j (by omega)
        cases gk with
        | succ y =>
          obtain ⟨u, hu, hu64, hcu⟩ := HLOW.out j (by omega)
          rw [hu] at h2
          have hlk := HM1.out.look (u : Int) (by omega) _ rfl
          have HCU := Lib.hid hcu
          have d1 : decide ((cnt X (u : Int) : Int) < (m : Int)) = false := decide_eq_false (by omega)
          have d1' : decide (cnt X (u : Int) < m) = false := decide_eq_false (by omega)
          generalize cnt X (u : Int) = cu at *
          clear hu hcu
          go_wp2_with fail
          go_roundg y
          case measure => omega
          case rel => exact ⟨j + 1, by omega, rfl, by go_num, rfl⟩
        | zero =>
          obtain rfl : j = q := by omega
          rw [HQX.out] at h2
          have hlk := HM1.out.look (x : Int) (by omega) _ rfl
          have d1 : decide ((cnt X (x : Int) : Int) < (m : Int)) = true := decide_eq_true (by have := HCX.out; omega)
          have d1' : decide (cnt X (x : Int) < m) = true := decide_eq_true HCX.out
          have hcb : cnt X (x : Int) ≤ 100 := by have := HC0.out (x : Int); have := HSLk.out; have := HKL.out; omega
          have HF : Hid (∀ y : Int, ((cnt (X ++ [⟨t, (x : Int)⟩]) y : Nat) : Int) = if y = (x : Int) then ((cnt X (x : Int) + 1 : Nat) : Int) else (cnt X y : Int)) := Lib.hid (fun y => by
            rw [cnt_snoc]
            by_cases e : y = (x : Int)
            · subst e; simp
            · rw [if_neg e, if_neg (fun h => e h.symm)]; simp)
          have hput := HM1.out.put (by have := HKL.out; omega) (x : Int) ((cnt X (x : Int) + 1 : Nat) : Int) (by omega) (by omega) _ HF.out
          obtain ⟨w2, hrun, hM2, hg2⟩ := hput
          have hwc : IntKind.i64.wrap ((cnt X (x : Int) : Int) + 1) = ((cnt X (x : Int) + 1 : Nat) : Int) := by rw [IntWalk.i64_in _ (by omega)]; omega
          have HM2 := Lib.hid hM2
          have HO2 := Lib.hid (HO1.out.grown hg2 (fun k hk e => by injection e with e; have := (HO1.out.ge k hk).1; omega))
          have HB2 := Lib.hid (HB1.out.grown hg2 (by have := HZ1.out; omega) (fun k hk => by injection hk with hk; omega))
          have HZ2 : Hid (g + 1 ≤ w2.heap.size) := Lib.hid (by have := HZ1.out; have := hg2.size; omega)
          generalize ((cnt X (x : Int) + 1 : Nat) : Int) = cn at *
          generalize cnt X (x : Int) = cx at *
          clear hM2 hg2 HF hjy HO1 HM1 HB1 HZ1
          go_upto_region 12 with (fail)
          clear hrun hlk
          go_wp2_with (at_builtin; refine wpList_appendPu rfl _ _ rfl (g + 1) _ X rfl (HO2.out.alloc _) (some ⟨w2.heap.size, 0, none⟩) 1 [⟨t, (x : Int)⟩] rfl (Us.one w2 ⟨t, (x : Int)⟩ _) (by have := HSLk.out; have := HKL.out; simp; omega) (by have := HZ2.out; simp; omega) ?_; intro v' w5 ho5 hg5)
          go_roundg z
          case measure => omega
          case rel => exact ⟨k + 1, HK1.out, by go_num, Lib.hid (by rw [HNX.out]; exact ho5), Lib.hid (by rw [HNX.out]; exact (HM2.out.on ((Below.refl _ _).alloc (Nat.le_refl _) _)).kept hg5 (fun e => by have := (HO2.out.ge g e.symm).1; omega)), Lib.hid (below_grownU (HB2.out.alloc (by have := HZ2.out; omega) _) (HO2.out.alloc _) hg5 (by have := HZ2.out; simp; omega) (by omega)), Lib.hid (by have := HZ2.out; have := hg5.size; simp at this; omega)⟩
    | zero =>
      obtain rfl : k = l.length := by omega
      rw [HSE.out] at HO
      have e0 : decide ((l.length : Int) < (l.length : Int)) = false := by simp
      go_wp2_with fail
      try rw [Exit.noGoto_ret]
      go_ret
      exact ⟨_, rfl, HO.out.mono (by have := HG.out; omega), HG.out ▸ HB.out⟩
end Go.Proofs.YthcjjogomknddaaDoor
