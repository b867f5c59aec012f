/-
  The walks of the library's product and Repeat, and of New.
-/
import Derived.Test.YtmfpipcedblklaaMerge
import Derived.Laws.Bits64b
import Derived.Laws.CopyRow
namespace Go.Proofs.Ytmfpipcedblklaa
open Go.Sort Go.RowKit Go.Proofs.Ytmfpipcedblklaa.Pure

theorem low_bits (n : Nat) (h : n ≤ 64) : bits .and .u64 (n : Int) 4294967295 = (n : Int) := by
  have h1 := bits_and_u64_nat n 4294967295 (by omega) (by omega)
  have e : n &&& 4294967295 = n := by
    rw [show (4294967295 : Nat) = 2 ^ 32 - 1 by decide, Nat.and_two_pow_sub_one_eq_mod]
    omega
  rw [e] at h1
  exact h1

set_option maxRecDepth 100000 in
set_option maxHeartbeats 1000000 in
theorem mul64_one (n : Nat) (hn : n ≤ 64) (w : World) : Calls Try.prog 52 #[.int .u64 1, .int .u64 (n : Int)] w fun e w' => e = .returned (.tuple #[.int .u64 0, .int .u64 (n : Int)]) ∧ w = w' := by
  have h1 := low_bits n hn
  have h2 : bits .and .u64 1 4294967295 = 1 := by have := low_bits 1 (by decide); simpa using this
  have h3 : (n : Int) / 4294967296 = 0 := by omega
  have h4 : IntKind.u64.wrap (n : Int) = n := by rw [IntKind.wrap_u64]; omega
  have h5 : bits .and .u64 0 4294967295 = 0 := by have := low_bits 0 (by decide); simpa using this
  go_enter Try.func52, Try.ntmps52
  go_wp2
  go_ret2
  exact ⟨rfl, rfl⟩

set_option maxRecDepth 100000 in
set_option maxHeartbeats 1000000 in
theorem mul_one (n : Nat) (hn : n ≤ 64) (w : World) : Calls Try.prog 47 #[.int .u64 1, .int .u64 (n : Int)] w fun e w' => e = .returned (.tuple #[.int .u64 0, .int .u64 (n : Int)]) ∧ w = w' := by
  have HC := Lib.hid (mul64_one n hn w)
  go_enter Try.func47, Try.ntmps47
  go_wp2_with fail
  refine HC.out.mono ?_
  rintro e w1 ⟨rfl, rfl⟩
  go_wp2_with fail
  go_ret2
  exact ⟨rfl, rfl⟩

/-- The cells of n that are alive of 0. -/
def zs (n : Nat) : List Value := kns (List.replicate n z0)
theorem zs_len (n : Nat) : (zs n).length = n * 2 := by unfold zs; rw [kns_len, List.length_replicate]
theorem zs_get (n j : Nat) (h : j < n * 2) : (zs n)[j]? = some (if j % 2 = 0 then .int .u64 0 else .int .i64 0) := by
  have e2 : j / 2 * 2 + j % 2 = j := by omega
  have := kns_at (List.replicate n z0) (j / 2) (j % 2) (by rw [List.length_replicate]; omega) (by omega)
  rw [e2] at this
  unfold zs
  rw [this]
  have hk : kn (List.replicate n z0) (j / 2) = z0 := by simp [kn, show j / 2 < n by omega]
  rw [hk]
  have : j % 2 = 0 ∨ j % 2 = 1 := by omega
  rcases this with h | h <;> rw [h] <;> rfl
/-- What 'make' lays. -/
theorem made (n : Nat) (hn : n ≤ 64) : ∀ W : World, (Instr.makeSlice 22 (.int .i64 n) (.int .i64 n)).run Try.prog W = .ok (.slice (some ⟨W.heap.size, 0, none⟩) n n) (W.alloc (.cells (zs n).toArray 25)) := by
  intro W
  obtain ⟨i0, hi, hz0, hz1, hz2⟩ := info_parts Try.infoKn
  have h := run_make (P := Try.prog) W 22 25 i0 (.agg #[.int .u64 0, .int .i64 0]) Try.underlying22 hi hz0 .i64 .i64 n n (by omega) (by omega) (by rw [hz2]; omega) (by omega)
  rw [hz1] at h
  have e : madeCells (Value.agg #[.int .u64 0, .int .i64 0]).cells (n * 2) = (zs n).toArray := by
    apply Array.ext_getElem?
    intro j
    by_cases hj : j < n * 2
    · rw [show (zs n).toArray[j]? = (zs n)[j]? by simp, zs_get n j hj]
      unfold madeCells
      simp [hj]
      show (#[Value.int .u64 0, Value.int .i64 0] : Array Value)[j % 2]! = _
      have : j % 2 = 0 ∨ j % 2 = 1 := by omega
      rcases this with h | h <;> rw [h] <;> rfl
    · rw [Array.getElem?_eq_none (by unfold madeCells; simp; omega), Array.getElem?_eq_none (by simp [zs_len]; omega)]
  simp only [Int.toNat_natCast] at h
  rw [e] at h
  exact h

/-- copy of what is alive of 0, onto such: nothing turns. -/
theorem run_copy_zs (w : World) (ty : TypeId) (g n o m dc sc : Nat) (a : Addr) (hg : w.heap[g]? = some (.cells (zs n).toArray 25 (0, 0))) (ho : o ≤ n) (hsrc : ∀ j, j < Nat.min m (n - o) * 2 → w.cell? (a.add j) = some (if j % 2 = 0 then .int .u64 0 else .int .i64 0)) :
    (Builtin.copy_ #[22, 22] ty #[.slice (some ⟨g, o * 2, none⟩) (n - o) dc, .slice (some a) m sc]).run Try.prog w = .ok (goInt (Nat.min m (n - o))) w := by
  obtain ⟨i0, hi, hz0, hz1, hz2⟩ := info_parts Try.infoKn
  obtain ⟨k, hkk⟩ : ∃ k, k = Nat.min m (n - o) := ⟨_, rfl⟩
  have hk : k ≤ n - o := by rw [hkk]; exact Nat.min_le_right _ _
  rw [← hkk] at hsrc ⊢
  have hcs : ((zs n).drop (o * 2)).take (k * 2) = zs k := by
    apply List.ext_getElem?
    intro j
    by_cases hj : j < k * 2
    · rw [List.getElem?_take_of_lt hj, List.getElem?_drop, zs_get n _ (by omega), zs_get k j hj]
      have : (o * 2 + j) % 2 = j % 2 := by omega
      rw [this]
    · rw [List.getElem?_eq_none (by simp; omega), List.getElem?_eq_none (by rw [zs_len]; omega)]
  have hl := run_loadCells_list (P := Try.prog) (w := w) a (zs k) fun j v hv => by
    have hj := (List.getElem?_eq_some_iff.1 hv).1
    rw [zs_len] at hj
    rw [zs_get k j hj] at hv
    rw [hsrc j hj]
    exact hv
  have hst := run_storeCells_at Try.prog g (o * 2) 25 (zs k) 0 (zs n).toArray w hg (by simp [zs_len]; omega) (kns_one _)
  have he : (zs n).toArray.toList.take (o * 2 + 0) ++ zs k ++ (zs n).toArray.toList.drop (o * 2 + 0 + (zs k).length) = zs n := by
    rw [← hcs, Nat.add_zero]
    simp only [List.length_take, List.length_drop, zs_len]
    have : o * 2 + min (k * 2) (n * 2 - o * 2) = o * 2 + k * 2 := by omega
    rw [this, List.append_assoc]
    have h2 : List.drop (o * 2 + k * 2) (zs n) = List.drop (k * 2) (List.drop (o * 2) (zs n)) := by rw [List.drop_drop]
    rw [h2, List.take_append_drop, List.take_append_drop]
  rw [he, setRow_self w g _ _ _ hg] at hst
  rw [zs_len] at hl
  simp [Builtin.copy_, run_underlying Try.underlying22, Builtin.lenOf, Builtin.firstCells, sizeOf, typeInfo, hi, hz1, ← hkk, hl, hst]


/-- The same in a region of which all that stands ahead only reads. -/
theorem quiet_copy_kn {C : World → Prop} {o : Oper} {a : Act} {K : Act → Prop} (d s : Operand)
    (ho : o.op = .call { callee := .builtin .copy, args := #[d, s], argTypes := #[22, 22] }) (v u : Value) (hd : a.eval d = v) (hs : a.eval s = u) (v' : Value)
    (hr : ∀ w, C w → (Builtin.copy_ #[22, 22] o.type #[v, u]).run Try.prog w = .ok v' w) (h : K (a.put o.dst v')) : Oper.quiet Try.prog o a C K := by
  refine ⟨v', fun w hw => ?_, h⟩
  unfold Oper.quietAt execOp
  simp only [ho, resolve, invoke, builtin, Sem.run_bind, Sem.run_pure, Result.andThen_ok, List.map_toArray, List.map_cons, List.map_nil, hd, hs, hr w hw]
  exact ⟨rfl, rfl⟩
theorem wpList_copy_kn (w : World) {ops : Array Oper} {rest : List Oper} {o : Oper} {a : Act} {Q : Exit → Act → World → Prop} (hgd : o.guard = none) (d s : Operand)
    (ho : o.op = .call { callee := .builtin .copy, args := #[d, s], argTypes := #[22, 22] }) (v u : Value) (hd : a.eval d = v) (hs : a.eval s = u) {v' : Value} {w' : World}
    (hr : (Builtin.copy_ #[22, 22] o.type #[v, u]).run Try.prog w = .ok v' w') (h : wpList Try.prog ops Q rest (a.put o.dst v') w') : wpList Try.prog ops Q (o :: rest) a w := by
  refine wpList_plain hgd fun K hK => ?_
  unfold Oper.wp execOp
  simp only [ho, resolve, invoke, builtin, Sem.run_bind, Sem.run_pure, Result.andThen_ok, List.map_toArray, List.map_cons, List.map_nil, hd, hs, hr]
  exact hK _ _ h
theorem cells_zs {w : World} {g n : Nat} (hg : w.heap[g]? = some (.cells (zs n).toArray 25 (0, 0))) (j : Nat) (h : j < n * 2) : w.cell? ((⟨g, 0, none⟩ : Addr).add j) = some (if j % 2 = 0 then .int .u64 0 else .int .i64 0) := by
  have e : (⟨g, 0, none⟩ : Addr).add j = ⟨g, j, none⟩ := by unfold Addr.add; split <;> simp_all
  rw [e, ← zs_get n j h]
  simp [World.cell?, hg]
theorem own_zs {w : World} {B g n : Nat} (hn : n ≤ 64) (hB : B ≤ g) (hg : w.heap[g]? = some (.cells (zs n).toArray 25 (0, 0))) : Own w B (.slice (some ⟨g, 0, none⟩) n n) (List.replicate n z0) := by
  unfold Own
  rw [List.length_replicate]
  refine ⟨by rw [kns_len, List.length_replicate], .inr ⟨g, n, (zs n).toArray, rfl, hB, hg, Nat.le_refl _, by unfold maxLen; omega, by simp [zs_len], ?_⟩⟩
  simp only
  exact List.take_of_length_le (by rw [zs_len]; exact Nat.le_refl _)
theorem one_cells {w : World} {g : Nat} (h : Lst w (some ⟨g, 0, none⟩) [z0]) (j : Nat) (hj : j < 2) : w.cell? ((⟨g, 0, none⟩ : Addr).add j) = some (if j % 2 = 0 then .int .u64 0 else .int .i64 0) := by
  obtain ⟨ad, e, _, h0, h1⟩ := h 0 (by simp)
  cases e
  match j, hj with
  | 0, _ => exact h0
  | 1, _ => exact h1

set_option maxRecDepth 100000 in
set_option maxHeartbeats 2000000 in
theorem rep_any (g : Nat) (n : Nat) (hn : 1 ≤ n ∧ n ≤ 64) (w : World) (h : Lst w (some ⟨g, 0, none⟩) [z0]) :
    Calls Try.prog 33 #[.slice (some ⟨g, 0, none⟩) 1 1, .int .i64 (n : Int)] w fun e w' => ∃ v, e = .returned v ∧ Own w' w.heap.size v (List.replicate n z0) ∧ Below w.heap.size w w' := by
  have HC := Lib.hid (mul_one n hn.2 w)
  have h4 : IntKind.u64.wrap (n : Int) = n := by rw [IntKind.wrap_u64]; omega
  have h5 : IntKind.i64.wrap (n : Int) = n := IntWalk.i64_in _ (by omega)
  have h6 : decide ((n : Int) < 0) = false := by simp
  have h7 : decide ((9223372036854775807 : Int) < (n : Int)) = false := by simp; omega
  have hm := made n hn.2
  have HB := Lib.hid ((Below.refl w.heap.size w).alloc (Nat.le_refl _) (.cells (zs n).toArray 25))
  have HG : Hid ((w.alloc (.cells (zs n).toArray 25)).heap[w.heap.size]? = some (.cells (zs n).toArray 25 (0, 0))) := Lib.hid (by show (w.heap.push _)[w.heap.size]? = _; simp)
  have HH := Lib.hid (h.alloc (.cells (zs n).toArray 25))
  have HN := Lib.hid hn
  clear h hn
  go_enter Try.func33, Try.ntmps33
  go_wp2_with fail
  refine HC.out.mono ?_
  rintro e w1 ⟨rfl, rfl⟩
  go_upto_region 7 with (fail)
  generalize w.alloc (.cells (zs n).toArray 25) = w2 at *
  obtain ⟨b, hb⟩ : ∃ b, b = w.heap.size := ⟨_, rfl⟩
  rw [← hb] at HG
  have hrun : ∀ ty, (Builtin.copy_ #[22, 22] ty #[.slice (some ⟨w.heap.size, 0, none⟩) n n, .slice (some ⟨g, 0, none⟩) 1 1]).run Try.prog w2 = .ok (goInt 1) w2 := fun ty => by
    have := run_copy_zs w2 ty w.heap.size n 0 1 n 1 ⟨g, 0, none⟩ (by rw [← hb]; exact HG.out) (Nat.zero_le _) (fun j hj => one_cells HH.out j (by have : Nat.min 1 (n - 0) ≤ 1 := Nat.min_le_left _ _; omega))
    have e1 : Nat.min 1 (n - 0) = 1 := Nat.min_eq_left (by have := HN.out; omega)
    rw [e1] at this
    simpa using this
  rw [hb] at HG
  clear hb HC
  go_wp2_with (at_builtin; refine wpList_copy_kn _ rfl _ _ rfl _ _ rfl rfl (hrun _) ?_)
  go_wp2_with fail
  go_loopw [8] (fun i wr => ∃ o : Nat, i = .int .i64 o ∧ 1 ≤ o ∧ o ≤ n ∧ Hid (wr.heap[w.heap.size]? = some (.cells (zs n).toArray 25 (0, 0))) ∧ Hid (Below w.heap.size w wr)) (fun i _ => n - (intOf i).toNat)
  case atStart => exact ⟨1, rfl, Nat.le_refl _, HN.out.1, HG, HB⟩
  case round =>
    clear HG HB HH hrun
    obtain ⟨o, rfl, ho1, hon, HG, HB⟩ := hrel
    by_cases hlt : o < n
    · have hn64 := HN.out.2
      have k0 : (0 : Int) ≤ (o : Int) := by omega
      have k1 : (o : Int) ≤ (n : Int) := by omega
      have k2 : (o : Int) < (n : Int) := by omega
      have hne : ¬o = n := by omega
      have hne' : ¬n = o := by omega
      obtain ⟨m, hm2⟩ : ∃ m, m = Nat.min o (n - o) := ⟨_, rfl⟩
      have hm3 : 1 ≤ m ∧ m ≤ n - o := by rw [hm2]; exact ⟨Nat.le_min.2 ⟨ho1, by omega⟩, Nat.min_le_right _ _⟩
      have hrun2 : Hid (∀ (ty : TypeId) (d : Nat) (os : Array Obj) (dc sc : Nat), (Builtin.copy_ #[22, 22] ty #[.slice (some ⟨w.heap.size, o * 2, none⟩) (n - o) dc, .slice (some ⟨w.heap.size, 0, none⟩) o sc]).run Try.prog (grow (redrawn wr d) os) = .ok (goInt m) (grow (redrawn wr d) os)) := Lib.hid fun ty d os dc sc => by
        have hlt2 : w.heap.size < wr.heap.size := (Array.getElem?_eq_some_iff.1 HG.out).1
        have hg2 := ((below_regrown wr d os).block _ hlt2).trans HG.out
        have := run_copy_zs _ ty w.heap.size n o o dc sc ⟨w.heap.size, 0, none⟩ hg2 hon (fun j hj => cells_zs hg2 j (by have : Nat.min o (n - o) ≤ o := Nat.min_le_left _ _; omega))
        rwa [← hm2] at this
      clear hm2
      have hwr : IntKind.i64.wrap ((o : Int) + (m : Int)) = (o : Int) + (m : Int) := IntWalk.i64_in _ (by omega)
      go_upto_region 9 with (fail)
      refine q_enter (by kernel_rfl) (by kernel_rfl) ?_
      iterate 7 (refine q_step ?_; intro K hK; go_simp; refine hK _ ?_; clear hK K)
      refine q_step ?_
      intro K hK
      rw [if_pos (by rfl)]
      refine quiet_copy_kn (.tmp 41) (.tmp 44) rfl _ _ rfl rfl (goInt m) (fun w' ⟨p, e⟩ => by rw [e]; exact hrun2.out _ _ _ _ _) (hK _ ?_)
      clear hK K
      iterate 2 (refine q_step ?_; intro K hK; go_simp; refine hK _ ?_; clear hK K)
      refine q_nil ?_
      intro wz hbz
      have HGz : Hid (wz.heap[w.heap.size]? = some (.cells (zs n).toArray 25 (0, 0))) := Lib.hid ((hbz.block _ (Array.getElem?_eq_some_iff.1 HG.out).1).trans HG.out)
      have HBz : Hid (Below w.heap.size w wz) := Lib.hid (HB.out.trans (hbz.mono HB.out.size))
      clear hbz hrun2 HG HB
      go_wp2_with fail
      go_roundw
      case rel => exact ⟨o + m, by go_num, by omega, by omega, HGz, HBz⟩
      case measure => simp [intOf]; omega
    · obtain rfl : o = n := by omega
      have HO := Lib.hid (own_zs HN.out.2 (Nat.le_refl w.heap.size) HG.out)
      go_wp2_with fail
      go_ret
      exact ⟨_, rfl, HO.out, HB.out⟩

/-- A new table. -/
def newL (n : Nat) : List Kn := List.replicate n z0
set_option maxRecDepth 100000 in
set_option maxHeartbeats 2000000 in
theorem new_yes (n : Nat) (hn : 1 ≤ n ∧ n ≤ 64) (w : World) : Calls Try.prog 10 #[.int .i64 (n : Int)] w (Gives w (newL n) 0) := by
  have HC := Lib.hid (count_any (n : Int) w)
  have e : decide ((1 : Int) ≤ (n : Int) ∧ (n : Int) ≤ 64) = true := by simp; omega
  rw [e] at HC
  have ho : okE true = 0 := rfl
  rw [ho] at HC
  have HR := Lib.hid (fun W g (h : Lst W (some ⟨g, 0, none⟩) [z0]) => rep_any g n hn W h)
  have H1 := Lib.hid (fun W => Lst.one W z0 25)
  clear e ho hn
  go_enter Try.func10, Try.ntmps10
  go_wp2_with fail
  refine HC.out.mono ?_
  rintro e w1 ⟨rfl, rfl⟩
  go_wp2_with fail
  refine (HR.out _ _ (H1.out _)).mono ?_
  rintro e w2 ⟨v, rfl, ho2, hb2⟩
  have HB2 : Hid (Below w.heap.size w w2) := Lib.hid (((Below.refl _ _).alloc (Nat.le_refl _) _).trans (hb2.mono (by simp)))
  obtain ⟨A2, c2, rfl, _, hl2⟩ := ho2.lst
  have HL := Lib.hid hl2
  clear ho2 hb2 hl2
  go_wp2_with fail
  go_ret2
  exact ⟨A2, c2, by rw [show (newL n).length = n from List.length_replicate]; rfl, HL.out, HB2.out⟩

set_option maxRecDepth 100000 in
set_option maxHeartbeats 2000000 in
theorem new_no (n : Int) (hn : ¬(1 ≤ n ∧ n ≤ 64)) (w : World) : Calls Try.prog 10 #[.int .i64 n] w (Gives w [] 1) := by
  have HC := Lib.hid (count_any n w)
  have e : decide (1 ≤ n ∧ n ≤ 64) = false := by simpa using hn
  rw [e] at HC
  have ho : okE false = 1 := rfl
  rw [ho] at HC
  clear e ho hn
  go_enter Try.func10, Try.ntmps10
  go_wp2_with fail
  refine HC.out.mono ?_
  rintro e w1 ⟨rfl, rfl⟩
  go_wp2_with fail
  go_ret2
  exact ⟨none, 0, rfl, Lst.nil _ _, Below.refl _ _⟩
end Go.Proofs.Ytmfpipcedblklaa
