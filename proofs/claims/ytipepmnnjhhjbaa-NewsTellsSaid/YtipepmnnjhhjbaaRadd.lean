/-
  The walk of the document's Add.
-/
import Derived.Test.YtipepmnnjhhjbaaSame
namespace Go.Proofs.Ytipepmnnjhhjbaa
open Go.Sort Go.RowKit Go.Proofs.Ytipepmnnjhhjbaa.Pure

/-- append onto a slice of the call's own. -/
theorem run_appendTd (w : World) (ty : TypeId) (B : Nat) (v : Value) (xs : List Td) (hown : OwnT w B v xs) (A : Option Addr) (c : Nat) (ys : List Td) (hh : Ts w A ys) (hlen : xs.length + ys.length ≤ 100000) (hB : B ≤ w.heap.size) :
    ∃ v' w', (Builtin.append_ #[22, 22] ty #[v, .slice A ys.length c]).run Try.prog w = .ok v' w' ∧ OwnT w' B v' (xs ++ ys) ∧ w.grownBy w' v.ownBlock := by
  obtain ⟨i0, hi0, hz0, hz1, hz2⟩ := info_parts Try.infoTd
  rcases A with _ | ad
  · obtain rfl := hh.none_nil
    exact ⟨v, w, run_append_nothingTd w ty B v xs hown c i0 hi0, by simpa using hown, World.grownBy.refl _ _⟩
  · obtain ⟨v', w', h1, h2, h3, _⟩ := run_append_own (P := Try.prog) w B 22 ty 59 i0 (.agg #[.int .i64 0, .int .u64 0, .int .i64 0, .int .i64 0]) 4 32 Try.underlying22 hi0 hz0 hz1 hz2 rfl (by decide) v _ _ hown ad ys.length c (tds ys) (tds_len ys) hh.cells (tds_one ys) (by unfold maxLen; omega) (by omega) hB
    exact ⟨v', w', h1, by simpa [OwnT, tds_append] using h2, h3⟩
theorem wp_appendTd {w : World} {o : Oper} {a : Act} {K : Act → World → Prop} {Q : Exit → Act → World → Prop} (s x : Operand)
    (ho : o.op = .call { callee := .builtin .append, args := #[s, x], argTypes := #[22, 22] })
    (B : Nat) (v : Value) (xs : List Td) (hs : a.eval s = v) (hown : OwnT w B v xs) (A : Option Addr) (c : Nat) (ys : List Td) (hx : a.eval x = .slice A ys.length c) (hh : Ts w A ys)
    (hlen : xs.length + ys.length ≤ 100000) (hB : B ≤ w.heap.size)
    (h : ∀ v' w', OwnT w' B v' (xs ++ ys) → w.grownBy w' v.ownBlock → K (a.put o.dst v') w') : o.wp Try.prog a w K Q := by
  obtain ⟨v', w', hr, h2, h3⟩ := run_appendTd w o.type B v xs hown A c ys hh hlen hB
  unfold Oper.wp execOp
  simp only [ho, resolve, invoke, builtin, Sem.run_bind, Sem.run_pure, Result.andThen_ok, List.map_toArray, List.map_cons, List.map_nil, hs, hx, hr]
  exact h v' w' h2 h3

theorem addQ_cons (y : Td) (r : List Td) (x : Td) : addQ (y :: r) x = if y.w < x.w then y :: addQ r x else if y.w = x.w then (if beatsB x.k y.k = true then x :: r else y :: r) else x :: y :: r := rfl
theorem addQ_front {q : List Td} {x : Td} : ∀ k, k ≤ q.length → (∀ j, j < k → (td q j).w < x.w) → addQ q x = q.take k ++ addQ (q.drop k) x := by
  intro k
  induction k with
  | zero => intro _ _; simp
  | succ k ih =>
    intro hk h
    have hw := h k (by omega)
    rw [td_lt q (by omega)] at hw
    rw [ih (by omega) (fun j hj => h j (by omega)), List.drop_eq_getElem_cons (by omega), addQ_cons, if_pos hw, List.take_succ_eq_append_getElem (by omega), List.append_assoc]
    rfl
/-- What the loop of the document's Add holds: behind x's place all that is left belongs to it. -/
def AddAt (q : List Td) (x : Td) (k : Nat) (done : Bool) (out : List Td) : Prop :=
  k ≤ q.length ∧ (done = false → out = q.take k ∧ ∀ j, j < k → (td q j).w < x.w) ∧ (done = true → out ++ q.drop k = addQ q x) ∧ out.length ≤ k + 1
theorem AddAt.start (q : List Td) (x : Td) : AddAt q x 0 false [] := ⟨Nat.zero_le _, fun _ => ⟨by simp, fun j hj => absurd hj (Nat.not_lt_zero j)⟩, fun h => by (cases h), by simp⟩
theorem drop_td (q : List Td) (k : Nat) (h : k < q.length) : q.drop k = td q k :: q.drop (k + 1) := by rw [List.drop_eq_getElem_cons h, td_lt q h]
section
variable {q out : List Td} {x : Td} {k : Nat}
theorem AddAt.ahead (h : AddAt q x k false out) (hk : k < q.length) (hw : (td q k).w < x.w) : AddAt q x (k + 1) false (out ++ [td q k]) := by
  obtain ⟨h1, h2, h3, h4⟩ := h
  obtain ⟨e, h5⟩ := h2 rfl
  refine ⟨by omega, fun _ => ⟨?_, fun j hj => ?_⟩, fun h => by (cases h), by simp; omega⟩
  · rw [e, List.take_succ_eq_append_getElem hk, td_lt q hk]
  · rcases Nat.lt_or_ge j k with h | h
    · exact h5 j h
    · obtain rfl : j = k := by omega
      exact hw
theorem AddAt.behind (h : AddAt q x k true out) (hk : k < q.length) : AddAt q x (k + 1) true (out ++ [td q k]) := by
  obtain ⟨h1, h2, h3, h4⟩ := h
  have := h3 rfl
  rw [drop_td q k hk] at this
  exact ⟨by omega, fun h => by (cases h), fun _ => by rw [List.append_assoc]; exact this, by simp; omega⟩
theorem AddAt.here (h : AddAt q x k false out) (hk : k < q.length) : addQ q x = out ++ addQ (td q k :: q.drop (k + 1)) x := by
  obtain ⟨h1, h2, h3, h4⟩ := h
  obtain ⟨e, h5⟩ := h2 rfl
  rw [addQ_front k (by omega) h5, ← e, drop_td q k hk]
theorem AddAt.gtr (h : AddAt q x k false out) (hk : k < q.length) (hw : x.w < (td q k).w) : AddAt q x (k + 1) true (out ++ [x, td q k]) := by
  have e := h.here hk
  obtain ⟨h1, h2, h3, h4⟩ := h
  rw [addQ_cons, if_neg (by omega), if_neg (by omega)] at e
  have e5 : out.length = k := by rw [(h2 rfl).1, List.length_take]; omega
  exact ⟨by omega, fun h => by (cases h), fun _ => by rw [e]; simp, by simp; omega⟩
theorem AddAt.beat (h : AddAt q x k false out) (hk : k < q.length) (hw : (td q k).w = x.w) (hb : beatsB x.k (td q k).k = true) : AddAt q x (k + 1) true (out ++ [x]) := by
  have e := h.here hk
  obtain ⟨h1, h2, h3, h4⟩ := h
  rw [addQ_cons, if_neg (by omega), if_pos hw, if_pos hb] at e
  exact ⟨by omega, fun h => by (cases h), fun _ => by rw [e]; simp, by simp; omega⟩
theorem AddAt.stay (h : AddAt q x k false out) (hk : k < q.length) (hw : (td q k).w = x.w) (hb : beatsB x.k (td q k).k = false) : AddAt q x (k + 1) true (out ++ [td q k]) := by
  have e := h.here hk
  obtain ⟨h1, h2, h3, h4⟩ := h
  rw [addQ_cons, if_neg (by omega), if_pos hw, if_neg (by rw [hb]; simp)] at e
  exact ⟨by omega, fun h => by (cases h), fun _ => by rw [e]; simp, by simp; omega⟩
theorem AddAt.end_ (h : AddAt q x q.length false out) : out ++ [x] = addQ q x := by
  obtain ⟨h1, h2, h3, h4⟩ := h
  obtain ⟨e, h5⟩ := h2 rfl
  rw [addQ_front q.length (Nat.le_refl _) h5, ← e, List.drop_length]
  rfl
theorem AddAt.done (h : AddAt q x q.length true out) : out = addQ q x := by
  have := h.2.2.1 rfl
  rwa [List.drop_length, List.append_nil] at this
end

theorem bn_grown {w w' : World} {b : Nat} {x : Nw} {row : Option Nat} (h : Bn w b x) (hg : w.grownBy w' row) (hne : row ≠ some b) : Bn w' b x := by
  have hk := hg.block b h.lt (fun e => hne e.symm)
  exact ⟨(World.cell?_of_block (a := ⟨b, 0, none⟩) hk).trans h.1, (World.cell?_of_block (a := ⟨b, 1, none⟩) hk).trans h.2.1, (World.cell?_of_block (a := ⟨b, 2, none⟩) hk).trans h.2.2⟩
/-- A call answers the queue ys. -/
def Lists (w : World) (ys : List Td) (e : Ending) (w' : World) : Prop := ∃ v, e = .returned v ∧ OwnT w' w.heap.size v ys ∧ Below w.heap.size w w'

theorem tat_grown {w w' : World} {a : Addr} {x : Td} {row : Option Nat} (h : TAt w a x) (hg : w.grownBy w' row) (ha : a.block < w.heap.size) (hne : row ≠ some a.block) : TAt w' a x :=
  h.keep fun p hp => World.cell?_of_block (by rw [hp]; exact hg.block a.block ha (fun e => hne e.symm))

set_option maxRecDepth 100000 in
set_option maxHeartbeats 8000000 in
theorem radd_any (A : Option Addr) (c : Nat) (q : List Td) (n : Nw) (often : Int) (w : World) (hn : q.length ≤ 1000) (h : Ts w A q) :
    Calls Try.prog 19 #[.slice A q.length c, .agg #[.int .i64 n.w, .int .u64 n.i, .int .i64 n.s], .int .i64 often] w (Lists w (addQ q (n.td often))) := by
  obtain ⟨x, hx⟩ : ∃ x, x = n.td often := ⟨_, rfl⟩
  have hxw : n.w = x.w := by rw [hx]; rfl
  have hxi : n.i = x.i := by rw [hx]; rfl
  have hxs : n.s = x.s := by rw [hx]; rfl
  have hxl : often = x.l := by rw [hx]; rfl
  rw [← hx]
  have H := Lib.hid h
  have HQN := Lib.hid hn
  have HLI : Hid (∀ v w', OwnT w' (w.heap.size + 1) v (addQ q x) → Below w.heap.size w w' → Lists w (addQ q x) (.returned v) w') := Lib.hid (fun v w' h1 h2 => ⟨v, rfl, h1.mono (by omega), h2⟩)
  rw [hxw, hxi, hxs, hxl]
  obtain ⟨n', hn'⟩ : ∃ n' : Nw, n' = ⟨x.w, x.i, x.s⟩ := ⟨_, rfl⟩
  have BN0 : Hid (Bn (w.alloc (.cells #[.int .i64 x.w, .int .u64 x.i, .int .i64 x.s] 27)) w.heap.size n') := Lib.hid (by rw [hn']; exact Bn.new w ⟨x.w, x.i, x.s⟩ _)
  have HB0 : Hid (Below w.heap.size w (w.alloc (.cells #[.int .i64 x.w, .int .u64 x.i, .int .i64 x.s] 27))) := Lib.hid ((Below.refl _ w).alloc (Nat.le_refl _) _)
  have HNW : Hid (n'.w = x.w ∧ n'.i = x.i ∧ n'.s = x.s) := Lib.hid (by rw [hn']; exact ⟨rfl, rfl, rfl⟩)
  have HZ0 : Hid (w.heap.size + 1 ≤ (w.alloc (.cells #[.int .i64 x.w, .int .u64 x.i, .int .i64 x.s] 27)).heap.size) := Lib.hid (by simp)
  clear hn' hxw hxi hxs hxl hx h hn
  go_enter Try.func19, Try.ntmps19
  go_upto_region 1 with (fail)
  generalize w.alloc (.cells #[.int .i64 x.w, .int .u64 x.i, .int .i64 x.s] 27) = w1 at *
  go_wp2_with fail
  go_loopw [7, 8, 9] (fun v dn i wr => ∃ k : Nat, ∃ done : Bool, ∃ out : List Td, i = .int .i64 k ∧ dn = .bool done ∧ Hid (AddAt q x k done out) ∧ Hid (OwnT wr (w.heap.size + 1) v out) ∧ Hid (Bn wr w.heap.size n') ∧ Hid (Below w.heap.size w wr)) (fun _ _ i _ => q.length - (intOf i).toNat)
  case atStart => exact ⟨0, false, [], rfl, rfl, Lib.hid (AddAt.start q x), Lib.hid (OwnT.nil _ _), BN0, HB0⟩
  case round =>
    clear BN0 HB0
    obtain ⟨wq, ewq⟩ : ∃ wq, wq = wr := ⟨_, rfl⟩
    subst ewq
    obtain ⟨k, done, out, rfl, rfl, HA, HO1, BN1, HB1⟩ := hrel
    have hkn := HA.out.1
    have HLN : Hid (out.length ≤ 1100) := Lib.hid (by have := HA.out.2.2.2; have := HQN.out; omega)
    by_cases hlt : k < q.length
    · obtain ⟨ad, rfl, hlo, h1⟩ := (H.out.on HB1.out) k hlt
      obtain ⟨a0, a1, a2, a3⟩ := h1.flat
      have k0 : (0 : Int) ≤ (k : Int) := by omega
      have k1 : (k : Int) < (q.length : Int) := by omega
      have e0 : decide ((k : Int) < (q.length : Int)) = true := by simpa using k1
      have e0' : decide (k < q.length) = true := by simpa using hlt
      have HLT := Lib.hid hlt
      have HADW : Hid (ad.block < w.heap.size) := Lib.hid (by obtain ⟨_, e, h2, _⟩ := H.out k hlt; injection e with e; subst e; exact h2)
      have hw1 : IntKind.i64.wrap ((k : Int) + 1) = (k : Int) + 1 := by have := HQN.out; rw [IntWalk.i64_in _ (by omega)]
      have HBE := Lib.hid (fun (p : Regrown) (w0 : World) => rbeats_any x.k (td q k).k (grow (redrawn w0 p.d) p.os))
      obtain ⟨y, HY⟩ : ∃ y, Hid (td q k = y) := ⟨_, Lib.hid rfl⟩
      rw [HY.out] at a0 a1 a2 a3 HBE
      have HAA : Hid (done = false → y.w < x.w → AddAt q x (k + 1) false (out ++ [y])) := Lib.hid (fun e h => by subst e; have := HA.out.ahead hlt; rw [HY.out] at this; exact this h)
      have HAB : Hid (done = true → AddAt q x (k + 1) true (out ++ [y])) := Lib.hid (fun e => by subst e; have := HA.out.behind hlt; rw [HY.out] at this; exact this)
      have HAG : Hid (done = false → x.w < y.w → AddAt q x (k + 1) true (out ++ [x, y])) := Lib.hid (fun e h => by subst e; have := HA.out.gtr hlt; rw [HY.out] at this; exact this h)
      have HAT : Hid (done = false → y.w = x.w → beatsB x.k y.k = true → AddAt q x (k + 1) true (out ++ [x])) := Lib.hid (fun e h h' => by subst e; have := HA.out.beat hlt; rw [HY.out] at this; exact this h h')
      have HAS : Hid (done = false → y.w = x.w → beatsB x.k y.k = false → AddAt q x (k + 1) true (out ++ [y])) := Lib.hid (fun e h h' => by subst e; have := HA.out.stay hlt; rw [HY.out] at this; exact this h h')
      have HBEp : Hid (∀ (p : Regrown) (w0 : World), Calls Try.prog 23 #[.agg #[.int .u64 x.i, .int .i64 x.s], .agg #[.int .u64 y.i, .int .i64 y.s]] (grow (redrawn w0 p.d) p.os) fun e w' => e = .returned (.bool (beatsB x.k y.k)) ∧ Below (grow (redrawn w0 p.d) p.os).heap.size (grow (redrawn w0 p.d) p.os) w') := HBE
      clear HBE h1
      generalize hbe : beatsB x.k y.k = be at *
      clear hbe HA hkn
      obtain ⟨n0, n1, n2⟩ := BN1.out
      rw [HNW.out.1] at n0
      rw [HNW.out.2.1] at n1
      rw [HNW.out.2.2] at n2
      have A0 : ∀ p : Regrown, (grow (redrawn wq p.d) p.os).cell? (ad.add (k * 4)) = some (.int .i64 y.w) := fun p => cell_regrown a0 p.d p.os
      have N0 : ∀ p : Regrown, (grow (redrawn wq p.d) p.os).cell? ⟨w.heap.size, 0, none⟩ = some (.int .i64 x.w) := fun p => cell_regrown n0 p.d p.os
      clear a0 a1 a2 a3 n0 n1 n2
      rcases done with _ | _
      · by_cases hw : y.w < x.w
        · have c0 : decide (x.w ≤ y.w) = false := by simp; omega
          have c0' : ¬x.w ≤ y.w := by omega
          have HAR := Lib.hid (HAA.out rfl hw)
          clear hw HAA HAB HAG HAT HAS HBEp
          go_upto_region 6 with (fail)
          refine q_enter (by kernel_rfl) (by kernel_rfl) ?_
          iterate 13 (refine q_step ?_; intro K hK; go_simp; refine hK _ ?_; clear hK K)
          refine q_nil ?_
          intro w2 hbz
          have HB2 : Hid (Below w.heap.size w w2) := Lib.hid (HB1.out.trans (hbz.mono HB1.out.size))
          have BN2 := Lib.hid (BN1.out.on hbz)
          have HO2 := Lib.hid (HO1.out.on hbz)
          clear HB1 BN1 HO1 hbz
          clear A0 N0 c0 c0'
          obtain ⟨_, e, _, h1⟩ := (H.out.on HB2.out) k hlt
          obtain rfl := Option.some.inj e
          obtain ⟨a0, a1, a2, a3⟩ := h1.flat
          rw [HY.out] at a0 a1 a2 a3
          clear h1
          obtain ⟨n0, n1, n2⟩ := BN2.out
          rw [HNW.out.1] at n0
          rw [HNW.out.2.1] at n1
          rw [HNW.out.2.2] at n2
          go_upto_region 12 with (fail)
          have hbx : Below w2.heap.size w2 (w2.alloc (.cells #[.int .i64 y.w, .int .u64 y.i, .int .i64 y.s, .int .i64 y.l] 59)) := (Below.refl _ _).alloc (Nat.le_refl _) _
          have HBX : Hid (Below w.heap.size w (w2.alloc (.cells #[.int .i64 y.w, .int .u64 y.i, .int .i64 y.s, .int .i64 y.l] 59))) := Lib.hid (HB2.out.trans (hbx.mono HB2.out.size))
          have BNX := Lib.hid (BN2.out.on hbx)
          have HOX := Lib.hid (HO2.out.on hbx)
          clear HB2 BN2 HO2 hbx
          have HTX := Lib.hid (Ts.one w2 y 59)
          go_wp2_with (at_builtin; refine wpList_appendTd rfl _ _ rfl (w.heap.size + 1) _ out rfl ?c1 (some ⟨w2.heap.size, 0, none⟩) 1 [y] rfl ?c2 ?c3 ?c4 ?_)
          case c1 => exact HOX.out
          case c2 => exact HTX.out
          case c3 => have := HLN.out; simp; omega
          case c4 => have := BNX.out.lt; simp at this ⊢; omega
          intro v' wz hown hgrow
          have HOZ := Lib.hid hown
          have HBZ : Hid (Below w.heap.size w wz) := Lib.hid (HBX.out.grown hgrow HBX.out.size (fun b hb => by have := (HOX.out.ge b hb).1; omega))
          have BNZ : Hid (Bn wz w.heap.size n') := Lib.hid (bn_grown BNX.out hgrow (fun e => by have := (HOX.out.ge _ e).1; omega))
          clear hown hgrow HTX HOX HBX BNX a0 a1 a2 a3 n0 n1 n2
          go_wp2_with fail
          go_roundw
          case rel => exact ⟨k + 1, false, out ++ [y], by go_num, rfl, Lib.hid (HAR.out), HOZ, BNZ, HBZ⟩
          case measure => have := HLT.out; simp [intOf]; omega
        · have c0 : decide (x.w ≤ y.w) = true := by simp; omega
          have c0' : x.w ≤ y.w := by omega
          go_upto_region 6 with (fail)
          refine q_enter (by kernel_rfl) (by kernel_rfl) ?_
          iterate 13 (refine q_step ?_; intro K hK; go_simp; refine hK _ ?_; clear hK K)
          refine q_nil ?_
          intro w2 hbz
          have HB2 : Hid (Below w.heap.size w w2) := Lib.hid (HB1.out.trans (hbz.mono HB1.out.size))
          have BN2 := Lib.hid (BN1.out.on hbz)
          have HO2 := Lib.hid (HO1.out.on hbz)
          clear HB1 BN1 HO1 hbz
          clear A0 N0 c0 c0'
          obtain ⟨_, e, _, h1⟩ := (H.out.on HB2.out) k hlt
          obtain rfl := Option.some.inj e
          obtain ⟨a0, a1, a2, a3⟩ := h1.flat
          rw [HY.out] at a0 a1 a2 a3
          clear h1
          obtain ⟨n0, n1, n2⟩ := BN2.out
          rw [HNW.out.1] at n0
          rw [HNW.out.2.1] at n1
          rw [HNW.out.2.2] at n2
          have A0 : ∀ p : Regrown, (grow (redrawn w2 p.d) p.os).cell? (ad.add (k * 4)) = some (.int .i64 y.w) := fun p => cell_regrown a0 p.d p.os
          have A1 : ∀ p : Regrown, (grow (redrawn w2 p.d) p.os).cell? ⟨(ad.add (k * 4)).block, (ad.add (k * 4)).off + 1, none⟩ = some (.int .u64 y.i) := fun p => cell_regrown a1 p.d p.os
          have A2 : ∀ p : Regrown, (grow (redrawn w2 p.d) p.os).cell? ⟨(ad.add (k * 4)).block, (ad.add (k * 4)).off + 2, none⟩ = some (.int .i64 y.s) := fun p => cell_regrown a2 p.d p.os
          have N0 : ∀ p : Regrown, (grow (redrawn w2 p.d) p.os).cell? ⟨w.heap.size, 0, none⟩ = some (.int .i64 x.w) := fun p => cell_regrown n0 p.d p.os
          have N1 : ∀ p : Regrown, (grow (redrawn w2 p.d) p.os).cell? ⟨w.heap.size, 1, none⟩ = some (.int .u64 x.i) := fun p => cell_regrown n1 p.d p.os
          have N2 : ∀ p : Regrown, (grow (redrawn w2 p.d) p.os).cell? ⟨w.heap.size, 2, none⟩ = some (.int .i64 x.s) := fun p => cell_regrown n2 p.d p.os
          clear a0 a1 a2 a3 n0 n1 n2
          by_cases hg : x.w < y.w
          · have c1 : decide (x.w < y.w) = true := by simpa using hg
            have c1' : x.w < y.w := hg
            have HAR := Lib.hid (HAG.out rfl hg)
            clear HAA HAB HAG HAT HAS HBEp hw
            go_upto_region 8 with (fail)
            refine q_enter (by kernel_rfl) (by kernel_rfl) ?_
            iterate 9 (refine q_step ?_; intro K hK; go_simp; refine hK _ ?_; clear hK K)
            refine q_nil ?_
            intro w3 hbz
            have HB3 : Hid (Below w.heap.size w w3) := Lib.hid (HB2.out.trans (hbz.mono HB2.out.size))
            have BN3 := Lib.hid (BN2.out.on hbz)
            have HO3 := Lib.hid (HO2.out.on hbz)
            clear HB2 BN2 HO2 hbz
            clear A0 A1 A2 N0 N1 N2
            obtain ⟨_, e, _, h1⟩ := (H.out.on HB3.out) k hlt
            obtain rfl := Option.some.inj e
            obtain ⟨a0, a1, a2, a3⟩ := h1.flat
            rw [HY.out] at a0 a1 a2 a3
            clear h1
            obtain ⟨n0, n1, n2⟩ := BN3.out
            rw [HNW.out.1] at n0
            rw [HNW.out.2.1] at n1
            rw [HNW.out.2.2] at n2
            go_upto_region 9 with (fail)
            have HT3 : Hid (TAt w3 (ad.add (k * 4)) y) := Lib.hid ⟨a0, a1, a2, a3⟩
            have HAD : Hid (ad.block < w3.heap.size) := Lib.hid (by have := World.block_lt_of_cell? w3 _ a0; rwa [block_add] at this)
            clear a0 a1 a2 a3 n0 n1 n2
            refine z_enter [(0, true), (1, true), (2, true), (3, true), (4, true), (5, true), (6, true), (7, true), (8, false), (9, false), (10, true)] (fun w' => TAt w' (ad.add (k * 4)) y ∧ Bn w' w.heap.size n') (by kernel_rfl) (by kernel_rfl) (by kernel_rfl) (fun _ _ d _ _ h => by cases d <;> exact h) ⟨HT3.out, BN3.out⟩ ?_
            simp only [pickL, List.drop_succ_cons, List.drop_zero]
            have HT4 : Hid (TAt w3.drew (ad.add (k * 4)) y) := HT3
            have BN4 : Hid (Bn w3.drew w.heap.size n') := BN3
            have HO4 : Hid (OwnT w3.drew (w.heap.size + 1) u7 out) := HO3
            have HB4 : Hid (Below w.heap.size w w3.drew) := Lib.hid HB3.out.drew
            have HAD4 : Hid (ad.block < w3.drew.heap.size) := HAD
            clear HT3 BN3 HO3 HB3 HAD
            generalize w3.drew = w4 at *
            iterate 8 (refine' z_yes ?_ (by rfl) ?_ ?_; rotate_left; (intro w' hS; obtain ⟨hS1, t0, t1, t2⟩ := hS; obtain ⟨s0, s1, s2, s3⟩ := hS1.flat; rw [HNW.out.1] at t0; rw [HNW.out.2.1] at t1; rw [HNW.out.2.2] at t2; go_simp; try (with_reducible rfl)); simp only [Act.put, List.setIfInBounds_toArray, List.set_cons_zero, List.set_cons_succ])
            refine z_mem ?_
            intro K hK
            go_simp
            have hbx : Below w4.heap.size w4 (w4.alloc (.cells #[.int .i64 x.w, .int .u64 x.i, .int .i64 x.s, .int .i64 x.l, .int .i64 y.w, .int .u64 y.i, .int .i64 y.s, .int .i64 y.l] 59)) := (Below.refl _ _).alloc (Nat.le_refl _) _
            have HT5 : Hid (TAt (w4.alloc (.cells #[.int .i64 x.w, .int .u64 x.i, .int .i64 x.s, .int .i64 x.l, .int .i64 y.w, .int .u64 y.i, .int .i64 y.s, .int .i64 y.l] 59)) (ad.add (k * 4)) y) := Lib.hid (HT4.out.keep fun p hp => hbx.cell (by rw [hp, block_add]; exact HAD4.out))
            have HTX := Lib.hid (Ts.two w4 x y 59)
            have HB5 : Hid (Below w.heap.size w (w4.alloc (.cells #[.int .i64 x.w, .int .u64 x.i, .int .i64 x.s, .int .i64 x.l, .int .i64 y.w, .int .u64 y.i, .int .i64 y.s, .int .i64 y.l] 59))) := Lib.hid (HB4.out.trans (hbx.mono HB4.out.size))
            have BN5 := Lib.hid (BN4.out.on hbx)
            have HO5 := Lib.hid (HO4.out.on hbx)
            clear HB4 BN4 HO4 hbx
            clear HT4 HAD4
            generalize w4.alloc (.cells #[.int .i64 x.w, .int .u64 x.i, .int .i64 x.s, .int .i64 x.l, .int .i64 y.w, .int .u64 y.i, .int .i64 y.s, .int .i64 y.l] 59) = w5 at *
            generalize w4.heap.size = g5 at *
            refine hK.out _ _ ⟨HT5.out, BN5.out⟩ ?_
            clear hK
            refine z_mem ?_
            intro K hK
            rw [if_pos (by rfl)]
            refine wp_appendTd _ _ rfl (w.heap.size + 1) _ out rfl HO5.out (some ⟨g5, 0, none⟩) 2 [x, y] rfl HTX.out (by have := HLN.out; simp; omega) BN5.out.lt ?_
            intro v' wz hown hgrow
            have HOZ := Lib.hid hown
            have HBZ : Hid (Below w.heap.size w wz) := Lib.hid (HB5.out.grown hgrow HB5.out.size (fun b hb => by have := (HO5.out.ge b hb).1; omega))
            have BNZ : Hid (Bn wz w.heap.size n') := Lib.hid (bn_grown BN5.out hgrow (fun e => by have := (HO5.out.ge _ e).1; omega))
            have HTZ : Hid (TAt wz (ad.add (k * 4)) y) := Lib.hid (tat_grown HT5.out hgrow (by have := World.block_lt_of_cell? w5 _ HT5.out.1; exact this) (fun e => by have := (HO5.out.ge _ e).1; rw [block_add] at this; have := HADW.out; omega))
            refine hK.out _ _ ⟨HTZ.out, BNZ.out⟩ ?_
            clear hK hown hgrow HT5 HB5 HO5 BN5 HTX
            iterate 1 (first | (refine' z_yes ?_ (by rfl) ?_ ?_; rotate_left; (intro w' hS; (try dsimp only at hS); go_simp; try (with_reducible rfl)); simp only [Act.put, List.setIfInBounds_toArray, List.set_cons_zero, List.set_cons_succ]) | (refine z_no (by rfl) ?_; simp only [Act.put, List.setIfInBounds_toArray, List.set_cons_zero, List.set_cons_succ]))
            refine z_nil ?_
            go_wp2_with fail
            go_roundw
            case rel => exact ⟨k + 1, true, out ++ [x, y], by go_num, rfl, Lib.hid (HAR.out), HOZ, BNZ, HBZ⟩
            case measure => have := HLT.out; simp [intOf]; omega
          · have c1 : decide (x.w < y.w) = false := by simpa using hg
            have hwe : y.w = x.w := by omega
            have HT' := Lib.hid (HAT.out rfl hwe)
            have HS' := Lib.hid (HAS.out rfl hwe)
            clear HAA HAB HAG HAT HAS hw hwe
            go_upto_region 8 with (fail)
            refine q_enter (by kernel_rfl) (by kernel_rfl) ?_
            iterate 9 (refine q_step ?_; intro K hK; go_simp; refine hK _ ?_; clear hK K)
            refine q_nil ?_
            intro w3 hbz
            have HB3 : Hid (Below w.heap.size w w3) := Lib.hid (HB2.out.trans (hbz.mono HB2.out.size))
            have BN3 := Lib.hid (BN2.out.on hbz)
            have HO3 := Lib.hid (HO2.out.on hbz)
            clear HB2 BN2 HO2 hbz
            clear A0 A1 A2 N0 N1 N2
            obtain ⟨_, e, _, h1⟩ := (H.out.on HB3.out) k hlt
            obtain rfl := Option.some.inj e
            obtain ⟨a0, a1, a2, a3⟩ := h1.flat
            rw [HY.out] at a0 a1 a2 a3
            clear h1
            obtain ⟨n0, n1, n2⟩ := BN3.out
            rw [HNW.out.1] at n0
            rw [HNW.out.2.1] at n1
            rw [HNW.out.2.2] at n2
            have A0 : ∀ p : Regrown, (grow (redrawn w3 p.d) p.os).cell? (ad.add (k * 4)) = some (.int .i64 y.w) := fun p => cell_regrown a0 p.d p.os
            have A1 : ∀ p : Regrown, (grow (redrawn w3 p.d) p.os).cell? ⟨(ad.add (k * 4)).block, (ad.add (k * 4)).off + 1, none⟩ = some (.int .u64 y.i) := fun p => cell_regrown a1 p.d p.os
            have A2 : ∀ p : Regrown, (grow (redrawn w3 p.d) p.os).cell? ⟨(ad.add (k * 4)).block, (ad.add (k * 4)).off + 2, none⟩ = some (.int .i64 y.s) := fun p => cell_regrown a2 p.d p.os
            have N0 : ∀ p : Regrown, (grow (redrawn w3 p.d) p.os).cell? ⟨w.heap.size, 0, none⟩ = some (.int .i64 x.w) := fun p => cell_regrown n0 p.d p.os
            have N1 : ∀ p : Regrown, (grow (redrawn w3 p.d) p.os).cell? ⟨w.heap.size, 1, none⟩ = some (.int .u64 x.i) := fun p => cell_regrown n1 p.d p.os
            have N2 : ∀ p : Regrown, (grow (redrawn w3 p.d) p.os).cell? ⟨w.heap.size, 2, none⟩ = some (.int .i64 x.s) := fun p => cell_regrown n2 p.d p.os
            clear a0 a1 a2 a3 n0 n1 n2
            have HBE3 := Lib.hid (fun p : Regrown => HBEp.out p w3)
            clear HBEp
            go_upto_region 10 with (fail)
            refine q_enter (by kernel_rfl) (by kernel_rfl) ?_
            iterate 9 (refine q_step ?_; intro K hK; go_simp; first | (refine hK _ ?_; clear hK K) | (refine ⟨_, fun p => Calls.regrown_of (by with_reducible exact HBE3.out p), hK _ ?_⟩; clear hK K))
            refine q_nil ?_
            intro w4 hbz
            have HB4 : Hid (Below w.heap.size w w4) := Lib.hid (HB3.out.trans (hbz.mono HB3.out.size))
            have BN4 := Lib.hid (BN3.out.on hbz)
            have HO4 := Lib.hid (HO3.out.on hbz)
            clear HB3 BN3 HO3 hbz
            clear A0 A1 A2 N0 N1 N2 HBE3
            obtain ⟨_, e, _, h1⟩ := (H.out.on HB4.out) k hlt
            obtain rfl := Option.some.inj e
            obtain ⟨a0, a1, a2, a3⟩ := h1.flat
            rw [HY.out] at a0 a1 a2 a3
            clear h1
            obtain ⟨n0, n1, n2⟩ := BN4.out
            rw [HNW.out.1] at n0
            rw [HNW.out.2.1] at n1
            rw [HNW.out.2.2] at n2
            rcases be with _ | _
            · have HAR := Lib.hid (HS'.out rfl)
              clear HS' HT' hg c1
              go_upto_region 12 with (fail)
              have hbx : Below w4.heap.size w4 (w4.alloc (.cells #[.int .i64 y.w, .int .u64 y.i, .int .i64 y.s, .int .i64 y.l] 59)) := (Below.refl _ _).alloc (Nat.le_refl _) _
              have HBX : Hid (Below w.heap.size w (w4.alloc (.cells #[.int .i64 y.w, .int .u64 y.i, .int .i64 y.s, .int .i64 y.l] 59))) := Lib.hid (HB4.out.trans (hbx.mono HB4.out.size))
              have BNX := Lib.hid (BN4.out.on hbx)
              have HOX := Lib.hid (HO4.out.on hbx)
              clear HB4 BN4 HO4 hbx
              have HTX := Lib.hid (Ts.one w4 y 59)
              go_wp2_with (at_builtin; refine wpList_appendTd rfl _ _ rfl (w.heap.size + 1) _ out rfl ?c1 (some ⟨w4.heap.size, 0, none⟩) 1 [y] rfl ?c2 ?c3 ?c4 ?_)
              case c1 => exact HOX.out
              case c2 => exact HTX.out
              case c3 => have := HLN.out; simp; omega
              case c4 => have := BNX.out.lt; simp at this ⊢; omega
              intro v' wz hown hgrow
              have HOZ := Lib.hid hown
              have HBZ : Hid (Below w.heap.size w wz) := Lib.hid (HBX.out.grown hgrow HBX.out.size (fun b hb => by have := (HOX.out.ge b hb).1; omega))
              have BNZ : Hid (Bn wz w.heap.size n') := Lib.hid (bn_grown BNX.out hgrow (fun e => by have := (HOX.out.ge _ e).1; omega))
              clear hown hgrow HTX HOX HBX BNX a0 a1 a2 a3 n0 n1 n2
              go_wp2_with fail
              go_roundw
              case rel => exact ⟨k + 1, true, out ++ [y], by go_num, rfl, Lib.hid (HAR.out), HOZ, BNZ, HBZ⟩
              case measure => have := HLT.out; simp [intOf]; omega
            · have HAR := Lib.hid (HT'.out rfl)
              clear HS' HT' hg c1
              go_upto_region 11 with (fail)
              have hbx : Below w4.heap.size w4 (w4.alloc (.cells #[.int .i64 x.w, .int .u64 x.i, .int .i64 x.s, .int .i64 x.l] 59)) := (Below.refl _ _).alloc (Nat.le_refl _) _
              have HBX : Hid (Below w.heap.size w (w4.alloc (.cells #[.int .i64 x.w, .int .u64 x.i, .int .i64 x.s, .int .i64 x.l] 59))) := Lib.hid (HB4.out.trans (hbx.mono HB4.out.size))
              have BNX := Lib.hid (BN4.out.on hbx)
              have HOX := Lib.hid (HO4.out.on hbx)
              clear HB4 BN4 HO4 hbx
              have HTX := Lib.hid (Ts.one w4 x 59)
              go_wp2_with (at_builtin; refine wpList_appendTd rfl _ _ rfl (w.heap.size + 1) _ out rfl ?c1 (some ⟨w4.heap.size, 0, none⟩) 1 [x] rfl ?c2 ?c3 ?c4 ?_)
              case c1 => exact HOX.out
              case c2 => exact HTX.out
              case c3 => have := HLN.out; simp; omega
              case c4 => have := BNX.out.lt; simp at this ⊢; omega
              intro v' wz hown hgrow
              have HOZ := Lib.hid hown
              have HBZ : Hid (Below w.heap.size w wz) := Lib.hid (HBX.out.grown hgrow HBX.out.size (fun b hb => by have := (HOX.out.ge b hb).1; omega))
              have BNZ : Hid (Bn wz w.heap.size n') := Lib.hid (bn_grown BNX.out hgrow (fun e => by have := (HOX.out.ge _ e).1; omega))
              clear hown hgrow HTX HOX HBX BNX a0 a1 a2 a3 n0 n1 n2
              go_wp2_with fail
              go_roundw
              case rel => exact ⟨k + 1, true, out ++ [x], by go_num, rfl, Lib.hid (HAR.out), HOZ, BNZ, HBZ⟩
              case measure => have := HLT.out; simp [intOf]; omega
      · have HAR := Lib.hid (HAB.out rfl)
        clear HAA HAB HAG HAT HAS HBEp
        by_cases hw : y.w < x.w
        · have c0 : decide (x.w ≤ y.w) = false := by simp; omega
          have c0' : ¬x.w ≤ y.w := by omega
          clear hw
          go_upto_region 6 with (fail)
          refine q_enter (by kernel_rfl) (by kernel_rfl) ?_
          iterate 13 (refine q_step ?_; intro K hK; go_simp; refine hK _ ?_; clear hK K)
          refine q_nil ?_
          intro w2 hbz
          have HB2 : Hid (Below w.heap.size w w2) := Lib.hid (HB1.out.trans (hbz.mono HB1.out.size))
          have BN2 := Lib.hid (BN1.out.on hbz)
          have HO2 := Lib.hid (HO1.out.on hbz)
          clear HB1 BN1 HO1 hbz
          clear A0 N0 c0 c0'
          obtain ⟨_, e, _, h1⟩ := (H.out.on HB2.out) k hlt
          obtain rfl := Option.some.inj e
          obtain ⟨a0, a1, a2, a3⟩ := h1.flat
          rw [HY.out] at a0 a1 a2 a3
          clear h1
          obtain ⟨n0, n1, n2⟩ := BN2.out
          rw [HNW.out.1] at n0
          rw [HNW.out.2.1] at n1
          rw [HNW.out.2.2] at n2
          go_upto_region 12 with (fail)
          have hbx : Below w2.heap.size w2 (w2.alloc (.cells #[.int .i64 y.w, .int .u64 y.i, .int .i64 y.s, .int .i64 y.l] 59)) := (Below.refl _ _).alloc (Nat.le_refl _) _
          have HBX : Hid (Below w.heap.size w (w2.alloc (.cells #[.int .i64 y.w, .int .u64 y.i, .int .i64 y.s, .int .i64 y.l] 59))) := Lib.hid (HB2.out.trans (hbx.mono HB2.out.size))
          have BNX := Lib.hid (BN2.out.on hbx)
          have HOX := Lib.hid (HO2.out.on hbx)
          clear HB2 BN2 HO2 hbx
          have HTX := Lib.hid (Ts.one w2 y 59)
          go_wp2_with (at_builtin; refine wpList_appendTd rfl _ _ rfl (w.heap.size + 1) _ out rfl ?c1 (some ⟨w2.heap.size, 0, none⟩) 1 [y] rfl ?c2 ?c3 ?c4 ?_)
          case c1 => exact HOX.out
          case c2 => exact HTX.out
          case c3 => have := HLN.out; simp; omega
          case c4 => have := BNX.out.lt; simp at this ⊢; omega
          intro v' wz hown hgrow
          have HOZ := Lib.hid hown
          have HBZ : Hid (Below w.heap.size w wz) := Lib.hid (HBX.out.grown hgrow HBX.out.size (fun b hb => by have := (HOX.out.ge b hb).1; omega))
          have BNZ : Hid (Bn wz w.heap.size n') := Lib.hid (bn_grown BNX.out hgrow (fun e => by have := (HOX.out.ge _ e).1; omega))
          clear hown hgrow HTX HOX HBX BNX a0 a1 a2 a3 n0 n1 n2
          go_wp2_with fail
          go_roundw
          case rel => exact ⟨k + 1, true, out ++ [y], by go_num, rfl, Lib.hid (HAR.out), HOZ, BNZ, HBZ⟩
          case measure => have := HLT.out; simp [intOf]; omega
        · have c0 : decide (x.w ≤ y.w) = true := by simp; omega
          have c0' : x.w ≤ y.w := by omega
          clear hw
          go_upto_region 6 with (fail)
          refine q_enter (by kernel_rfl) (by kernel_rfl) ?_
          iterate 13 (refine q_step ?_; intro K hK; go_simp; refine hK _ ?_; clear hK K)
          refine q_nil ?_
          intro w2 hbz
          have HB2 : Hid (Below w.heap.size w w2) := Lib.hid (HB1.out.trans (hbz.mono HB1.out.size))
          have BN2 := Lib.hid (BN1.out.on hbz)
          have HO2 := Lib.hid (HO1.out.on hbz)
          clear HB1 BN1 HO1 hbz
          clear A0 N0 c0 c0'
          obtain ⟨_, e, _, h1⟩ := (H.out.on HB2.out) k hlt
          obtain rfl := Option.some.inj e
          obtain ⟨a0, a1, a2, a3⟩ := h1.flat
          rw [HY.out] at a0 a1 a2 a3
          clear h1
          obtain ⟨n0, n1, n2⟩ := BN2.out
          rw [HNW.out.1] at n0
          rw [HNW.out.2.1] at n1
          rw [HNW.out.2.2] at n2
          go_upto_region 12 with (fail)
          have hbx : Below w2.heap.size w2 (w2.alloc (.cells #[.int .i64 y.w, .int .u64 y.i, .int .i64 y.s, .int .i64 y.l] 59)) := (Below.refl _ _).alloc (Nat.le_refl _) _
          have HBX : Hid (Below w.heap.size w (w2.alloc (.cells #[.int .i64 y.w, .int .u64 y.i, .int .i64 y.s, .int .i64 y.l] 59))) := Lib.hid (HB2.out.trans (hbx.mono HB2.out.size))
          have BNX := Lib.hid (BN2.out.on hbx)
          have HOX := Lib.hid (HO2.out.on hbx)
          clear HB2 BN2 HO2 hbx
          have HTX := Lib.hid (Ts.one w2 y 59)
          go_wp2_with (at_builtin; refine wpList_appendTd rfl _ _ rfl (w.heap.size + 1) _ out rfl ?c1 (some ⟨w2.heap.size, 0, none⟩) 1 [y] rfl ?c2 ?c3 ?c4 ?_)
          case c1 => exact HOX.out
          case c2 => exact HTX.out
          case c3 => have := HLN.out; simp; omega
          case c4 => have := BNX.out.lt; simp at this ⊢; omega
          intro v' wz hown hgrow
          have HOZ := Lib.hid hown
          have HBZ : Hid (Below w.heap.size w wz) := Lib.hid (HBX.out.grown hgrow HBX.out.size (fun b hb => by have := (HOX.out.ge b hb).1; omega))
          have BNZ : Hid (Bn wz w.heap.size n') := Lib.hid (bn_grown BNX.out hgrow (fun e => by have := (HOX.out.ge _ e).1; omega))
          clear hown hgrow HTX HOX HBX BNX a0 a1 a2 a3 n0 n1 n2
          go_wp2_with fail
          go_roundw
          case rel => exact ⟨k + 1, true, out ++ [y], by go_num, rfl, Lib.hid (HAR.out), HOZ, BNZ, HBZ⟩
          case measure => have := HLT.out; simp [intOf]; omega
    · obtain rfl : k = q.length := by omega
      have e0 : decide ((q.length : Int) < (q.length : Int)) = false := by simp
      rcases done with _ | _
      · have HE := Lib.hid HA.out.end_
        obtain ⟨n0, n1, n2⟩ := BN1.out
        rw [HNW.out.1] at n0
        rw [HNW.out.2.1] at n1
        rw [HNW.out.2.2] at n2
        clear HA hkn hlt
        go_upto_region 14 with (fail)
        have hbx : Below wq.heap.size wq (wq.alloc (.cells #[.int .i64 x.w, .int .u64 x.i, .int .i64 x.s, .int .i64 x.l] 59)) := (Below.refl _ _).alloc (Nat.le_refl _) _
        have HBX : Hid (Below w.heap.size w (wq.alloc (.cells #[.int .i64 x.w, .int .u64 x.i, .int .i64 x.s, .int .i64 x.l] 59))) := Lib.hid (HB1.out.trans (hbx.mono HB1.out.size))
        have BNX := Lib.hid (BN1.out.on hbx)
        have HOX := Lib.hid (HO1.out.on hbx)
        clear HB1 BN1 HO1 hbx
        have HTX := Lib.hid (Ts.one wq x 59)
        go_wp2_with (at_builtin; refine wpList_appendTd rfl _ _ rfl (w.heap.size + 1) _ out rfl ?c1 (some ⟨wq.heap.size, 0, none⟩) 1 [x] rfl ?c2 ?c3 ?c4 ?_)
        case c1 => exact HOX.out
        case c2 => exact HTX.out
        case c3 => have := HLN.out; simp; omega
        case c4 => have := BNX.out.lt; simp at this ⊢; omega
        intro v' wz hown hgrow
        have HBZ : Hid (Below w.heap.size w wz) := Lib.hid (HBX.out.grown hgrow HBX.out.size (fun b hb => by have := (HOX.out.ge b hb).1; omega))
        have HR := Lib.hid (HLI.out v' wz (by rw [← HE.out]; exact hown) HBZ.out)
        clear hown hgrow HTX HOX HBX BNX n0 n1 n2
        go_wp2_with fail
        go_ret
        exact HR.out
      · have HE := Lib.hid HA.out.done
        have HR := Lib.hid (HLI.out u7 wq (by rw [← HE.out]; exact HO1.out) HB1.out)
        clear HA hkn hlt
        go_wp2_with fail
        go_ret
        exact HR.out
end Go.Proofs.Ytipepmnnjhhjbaa
