/-
  The walks of the library's IndexFunc and DeleteFunc, of doubts that are cleared; of Clear.
-/
import Derived.Test.YtknpbbplolncpaaRaise
namespace Go.Proofs.Ytknpbbplolncpaa
open Go.Sort Go.RowKit Go.Proofs.Ytknpbbplolncpaa.Pure

/-- What stays. -/
def yet (gn : Db → Bool) (q : List Db) : List Db := q.filter fun x => !gn x
/-- Where the first one stands that does not. -/
def posZ (gn : Db → Bool) : List Db → Nat
  | [] => 0
  | x :: r => if gn x = true then 0 else posZ gn r + 1
section
variable (gn : Db → Bool)
theorem posZ_le (q : List Db) : posZ gn q ≤ q.length := by
  induction q with
  | nil => simp [posZ]
  | cons x r ih => unfold posZ; split <;> simp <;> omega
theorem posZ_lt (q : List Db) : ∀ j, j < posZ gn q → gn (db q j) = false := by
  induction q with
  | nil => intro j hj; simp [posZ] at hj
  | cons x r ih =>
    intro j hj
    unfold posZ at hj
    split at hj
    · omega
    · rename_i h
      rcases j with _ | j
      · simpa [db] using h
      · have := ih j (by omega)
        simpa [db] using this
theorem posZ_at (q : List Db) (h : posZ gn q < q.length) : gn (db q (posZ gn q)) = true := by
  induction q with
  | nil => simp at h
  | cons x r ih =>
    unfold posZ at h ⊢
    split
    · rename_i hx
      simpa [db] using hx
    · rename_i hx
      rw [if_neg hx] at h
      have := ih (by simpa using h)
      simpa [db] using this
theorem yet_take_succ (q : List Db) (j : Nat) (h : j < q.length) : yet gn (q.take (j + 1)) = if gn (db q j) = true then yet gn (q.take j) else yet gn (q.take j) ++ [db q j] := by
  unfold yet
  rw [List.take_succ_eq_append_getElem h, List.filter_append, ← db_lt q h]
  by_cases e : gn (db q j) = true
  · rw [if_pos e]; simp [e]
  · rw [if_neg e]; simp [e]
theorem yet_take_posZ (q : List Db) (j : Nat) (h : j ≤ posZ gn q) : yet gn (q.take j) = q.take j := by
  unfold yet
  refine List.filter_eq_self.2 fun x hx => ?_
  obtain ⟨k, hk, rfl⟩ := List.getElem_of_mem hx
  rw [List.length_take] at hk
  have h1 := posZ_lt gn q k (by omega)
  have h2 := posZ_le gn q
  rw [db_lt q (by omega)] at h1
  simpa using h1
theorem yet_len (q : List Db) : (yet gn q).length ≤ q.length := List.length_filter_le _ _
end

set_option maxRecDepth 100000 in
set_option maxHeartbeats 1000000 in
theorem gone_any (x : Db) (who inc : Int) (bw bi : Nat) (w : World) (h1 : w.cell? ⟨bw, 0, none⟩ = some (.int .i64 who)) (h2 : w.cell? ⟨bi, 0, none⟩ = some (.int .u64 inc)) : Calls Try.prog 39 #[.agg #[.int .i64 x.w, .int .u64 x.i, .int .i64 x.t, .slice x.A x.b.length x.c], .pointer (some ⟨bw, 0, none⟩), .pointer (some ⟨bi, 0, none⟩)] w fun e w' => e = .returned (.bool (goneB who inc x.ct)) ∧ Below w.heap.size w w' := by
  have hb := (Below.refl _ w).alloc (Nat.le_refl _) (.cells #[.int .i64 x.w, .int .u64 x.i, .int .i64 x.t, .slice x.A x.b.length x.c] 55)
  have HB := Lib.hid hb
  have c1 := cell_on h1 hb
  have c2 := cell_on h2 hb
  have HG : Hid (goneB who inc x.ct = (decide (x.w = who) && decide (x.i ≤ inc))) := Lib.hid rfl
  generalize goneB who inc x.ct = T at *
  clear h1 h2 hb
  have l1 := World.block_lt_of_cell? _ _ c1
  have l2 := World.block_lt_of_cell? _ _ c2
  go_enter Try.func39, Try.ntmps39
  by_cases e1 : x.w = who
  · have d1 : (x.w == who) = true := by simpa using e1
    by_cases e2 : x.i ≤ inc
    · have d2 : decide (x.i ≤ inc) = true := by simpa using e2
      obtain rfl : T = true := by rw [HG.out, d2]; simp [e1]
      clear e1 e2
      go_wp2_with fail
      go_ret
      exact ⟨rfl, HB.out⟩
    · have d2 : decide (x.i ≤ inc) = false := by simpa using e2
      obtain rfl : T = false := by rw [HG.out, d2]; simp
      clear e1 e2
      go_wp2_with fail
      go_ret
      exact ⟨rfl, HB.out⟩
  · have d1 : (x.w == who) = false := by simpa using e1
    obtain rfl : T = false := by rw [HG.out]; simp [e1]
    clear e1
    go_wp2_with fail
    go_ret
    exact ⟨rfl, HB.out⟩

set_option maxRecDepth 100000 in
set_option maxHeartbeats 1000000 in
theorem index_any (A : Option Addr) (c hi : Nat) (q : List Db) (who inc : Int) (bw bi : Nat) (w : World) (hn : q.length ≤ 1000) (h : Ds w hi A q) (hh : hi ≤ w.heap.size) (h1 : w.cell? ⟨bw, 0, none⟩ = some (.int .i64 who)) (h2 : w.cell? ⟨bi, 0, none⟩ = some (.int .u64 inc)) :
    Calls Try.prog 52 #[.slice A q.length c, .func (.func 39) #[] #[.pointer (some ⟨bw, 0, none⟩), .pointer (some ⟨bi, 0, none⟩)]] w fun e w' => e = .returned (.int .i64 (if posZ (fun x => goneB who inc x.ct) q < q.length then ((posZ (fun x => goneB who inc x.ct) q : Nat) : Int) else -1)) ∧ Below w.heap.size w w' := by
  have H := Lib.hid h
  have HH := Lib.hid hh
  have HL := Lib.hid (posZ_lt (fun x => goneB who inc x.ct) q)
  have HLE := Lib.hid (posZ_le (fun x => goneB who inc x.ct) q)
  have HAT := Lib.hid (posZ_at (fun x => goneB who inc x.ct) q)
  obtain ⟨R, hR⟩ : ∃ R : Int, R = if posZ (fun x => goneB who inc x.ct) q < q.length then ((posZ (fun x => goneB who inc x.ct) q : Nat) : Int) else -1 := ⟨_, rfl⟩
  have HR1 : Hid (posZ (fun x => goneB who inc x.ct) q < q.length → R = ((posZ (fun x => goneB who inc x.ct) q : Nat) : Int)) := Lib.hid (fun h => by rw [hR, if_pos h])
  have HR2 : Hid (¬posZ (fun x => goneB who inc x.ct) q < q.length → R = -1) := Lib.hid (fun h => by rw [hR, if_neg h])
  have H1 := Lib.hid h1
  have H2 := Lib.hid h2
  rw [← hR]
  clear hR h hh h1 h2
  generalize posZ (fun x => goneB who inc x.ct) q = p at *
  go_enter Try.func52, Try.ntmps52
  go_wp2_with fail
  go_loopw [8] (fun i wr => ∃ k : Nat, i = .int .i64 k ∧ k ≤ p ∧ Hid (Below w.heap.size w wr)) (fun i _ => q.length - (intOf i).toNat)
  case atStart => exact ⟨0, rfl, Nat.zero_le _, Lib.hid (Below.refl _ _)⟩
  case round =>
    obtain ⟨wq, ewq⟩ : ∃ wq, wq = wr := ⟨_, rfl⟩
    subst ewq
    obtain ⟨k, rfl, hk, hb⟩ := hrel
    by_cases hlt : k < q.length
    · obtain ⟨ad, rfl, hlo, h1, _⟩ := (H.out.on hb.out HH.out) k hlt
      obtain ⟨a0, a1, a2, a3⟩ := h1.flat
      have k0 : (0 : Int) ≤ (k : Int) := by omega
      have k1 : (k : Int) < (q.length : Int) := by omega
      have e0 : decide ((k : Int) < (q.length : Int)) = true := by simpa using k1
      have HC := Lib.hid (gone_any (db q k) who inc bw bi wq (cell_on H1.out hb.out) (cell_on H2.out hb.out))
      have HLk := HL.out k
      have HAk := HAT.out
      rcases hz : goneB who inc (db q k).ct with _ | _
      · have hkp : k + 1 ≤ p := by
          rcases Nat.lt_or_ge k p with h | h
          · exact h
          · obtain rfl : k = p := by omega
            have := HAk hlt
            rw [hz] at this; cases this
        rw [hz] at HC
        generalize db q k = x at *
        clear h1 hz hk HLk HAk
        go_wp2_with fail
        refine HC.out.mono ?_
        rintro e w2 ⟨rfl, hb2⟩
        have HB2 : Hid (Below w.heap.size w w2) := Lib.hid (hb.out.trans (hb2.mono hb.out.size))
        clear hb2 a0 a1 a2 a3 hb HC
        go_wp2_with fail
        go_roundw
        case rel => exact ⟨k + 1, by go_num, hkp, HB2⟩
        case measure => simp [intOf]; omega
      · obtain rfl : k = p := by
          rcases Nat.lt_or_ge k p with h | h
          · have := HLk h
            rw [hz] at this; cases this
          · omega
        obtain rfl := HR1.out hlt
        rw [hz] at HC
        generalize db q k = x at *
        clear h1 hz HLk HAk
        go_wp2_with fail
        refine HC.out.mono ?_
        rintro e w2 ⟨rfl, hb2⟩
        have HB2 : Hid (Below w.heap.size w w2) := Lib.hid (hb.out.trans (hb2.mono hb.out.size))
        clear hb2 a0 a1 a2 a3 hb HC
        go_wp2_with fail
        go_ret
        exact ⟨rfl, HB2.out⟩
    · have hp := HLE.out
      obtain rfl : k = p := by omega
      obtain rfl := HR2.out hlt
      have e0 : decide ((k : Int) < (q.length : Int)) = false := by simp; omega
      clear hp
      go_wp2_with fail
      go_ret
      exact ⟨rfl, hb.out⟩

theorem run_clear_db (w : World) (ty : TypeId) (g o n c : Nat) (cur : Array Value) (T : TypeId) (hg : w.heap[g]? = some (.cells cur T (0, 0))) (hn : 0 < n) (hfit : o + n * 4 ≤ cur.size) :
    ∃ cur', (Builtin.clear_ #[22] ty #[.slice (some ⟨g, o, none⟩) n c]).run Try.prog w = .ok (.tuple #[]) (w.setRow g cur') ∧ cur'.size = cur.size ∧ cur'.toList.take o = cur.toList.take o := by
  obtain ⟨i0, hi, hz0, hz1, hz2⟩ := info_parts Try.infoDb
  have hl : (Builtin.zeroCells (Value.agg #[.int .i64 0, .int .u64 0, .int .i64 0, .slice none 0 0]).cells n).toList.length = n * 4 := by
    rw [Array.length_toList, size_zeroCells]; rfl
  have h1 : ∀ u ∈ (Builtin.zeroCells (Value.agg #[.int .i64 0, .int .u64 0, .int .i64 0, .slice none 0 0]).cells n).toList, u.oneCell' = true := by
    intro u hu
    obtain ⟨k, _, hk⟩ : ∃ k, k < n * 4 ∧ [Value.int .i64 0, .int .u64 0, .int .i64 0, .slice none 0 0][k % 4]?.getD default = u := by
      have hu' : u ∈ Builtin.zeroCells (Value.agg #[.int .i64 0, .int .u64 0, .int .i64 0, .slice none 0 0]).cells n := by simpa using hu
      simp only [Builtin.zeroCells] at hu'
      simpa [Value.cells] using hu'
    have hm : k % 4 < 4 := Nat.mod_lt _ (by decide)
    generalize k % 4 = r at hk hm
    match r, hm with
    | 0, _ => subst hk; rfl
    | 1, _ => subst hk; rfl
    | 2, _ => subst hk; rfl
    | 3, _ => subst hk; rfl
  have hst := run_storeCells_at Try.prog g o T _ 0 cur w hg (by rw [hl]; omega) h1
  obtain ⟨Z, hZ⟩ : ∃ Z, Z = (Builtin.zeroCells (Value.agg #[.int .i64 0, .int .u64 0, .int .i64 0, .slice none 0 0]).cells n).toList := ⟨_, rfl⟩
  rw [← hZ] at hl hst
  refine ⟨(cur.toList.take (o + 0) ++ Z ++ cur.toList.drop (o + 0 + Z.length)).toArray, ?_, ?_, ?_⟩
  rotate_left
  · simp only [List.size_toArray, List.length_append, List.length_take, List.length_drop, hl, Array.length_toList]
    omega
  · simp only [Nat.add_zero, List.append_assoc]
    rw [List.take_append_of_le_length (by rw [List.length_take, Array.length_toList]; omega), List.take_take, Nat.min_self]
  · cases n with
    | zero => omega
    | succ n => simp [Builtin.clear_, run_underlying Try.underlying22, zeroValue, typeInfo, hi, hz0, ← hZ, hst]
theorem wpList_clear_db {w : World} {ops : Array Oper} {rest : List Oper} {o : Oper} {a : Act} {Q : Exit → Act → World → Prop} (hgd : o.guard = none) (s : Operand)
    (ho : o.op = .call { callee := .builtin .clear, args := #[s], argTypes := #[22] }) (v : Value) (hs : a.eval s = v) {v' : Value} {w' : World}
    (hr : (Builtin.clear_ #[22] o.type #[v]).run Try.prog w = .ok v' w') (h : wpList Try.prog ops Q rest (a.put o.dst v') w') : wpList Try.prog ops Q (o :: rest) a w :=
  wpList_plain hgd fun _ hK => by
    unfold Oper.wp execOp
    simp only [ho, resolve, invoke, builtin, Sem.run_bind, Sem.run_pure, Result.andThen_ok, List.map_toArray, List.map_cons, List.map_nil, hs, hr]
    exact hK _ _ h

/-- A slice of the call's own, as a row. -/
theorem OwnD.row {w : World} {B g c : Nat} {xs : List Db} (h : OwnD w B (.slice (some ⟨g, 0, none⟩) xs.length c) xs) : ∃ cur, B ≤ g ∧ w.heap[g]? = some (.cells cur 55 (0, 0)) ∧ xs.length ≤ c ∧ c ≤ maxLen ∧ cur.size = c * 4 ∧ cur.toList.take (xs.length * 4) = dbs xs := by
  rcases h.1.2 with ⟨he, _⟩ | ⟨g', cap, cur, he, h1, h2, h3, h4, h5, h6⟩
  · cases he
  · injection he with e1 _ e3; injection e1 with e1; injection e1 with e1 _ _; subst e1; subst e3
    exact ⟨cur, h1, h2, h3, h4, h5, h6⟩
theorem OwnD.of_row {w : World} {B g c : Nat} {cur : Array Value} {xs : List Db} (hB : B ≤ g) (h : w.heap[g]? = some (.cells cur 55 (0, 0))) (hc : xs.length ≤ c) (hm : c ≤ maxLen) (hs : cur.size = c * 4) (ht : cur.toList.take (xs.length * 4) = dbs xs) (hr : ∀ x ∈ xs, Rd w (fun k => some g ≠ some k) x) : OwnD w B (.slice (some ⟨g, 0, none⟩) xs.length c) xs :=
  ⟨⟨by rw [dbs_len], .inr ⟨g, c, cur, rfl, hB, h, hc, hm, hs, ht⟩⟩, hr⟩

/-- What the loop of DeleteFunc holds: in front what stays of the first j, behind j all as it was. -/
def Kept (gn : Db → Bool) (q xs : List Db) (i j : Nat) : Prop := xs.length = q.length ∧ i ≤ j ∧ j ≤ q.length ∧ xs.take i = yet gn (q.take j) ∧ (∀ k, j ≤ k → k < q.length → db xs k = db q k)
section
variable {gn : Db → Bool} {q xs : List Db} {i j : Nat}
theorem Kept.start (h : posZ gn q < q.length) : Kept gn q q (posZ gn q) (posZ gn q + 1) := by
  refine ⟨rfl, by omega, by omega, ?_, fun _ _ _ => rfl⟩
  rw [yet_take_succ gn q _ h, if_pos (posZ_at gn q h), yet_take_posZ gn q _ (Nat.le_refl _)]
theorem Kept.skip (h : Kept gn q xs i j) (hj : j < q.length) (hz : gn (db xs j) = true) : Kept gn q xs i (j + 1) := by
  obtain ⟨h1, h2, h3, h4, h5⟩ := h
  refine ⟨h1, by omega, by omega, ?_, fun k hk => h5 k (by omega)⟩
  rw [yet_take_succ gn q j hj, ← h5 j (Nat.le_refl _) hj, if_pos hz]
  exact h4
theorem Kept.keep (h : Kept gn q xs i j) (hij : i < j) (hj : j < q.length) (hz : gn (db xs j) = false) : Kept gn q (xs.set i (db xs j)) (i + 1) (j + 1) := by
  obtain ⟨h1, h2, h3, h4, h5⟩ := h
  refine ⟨by simpa using h1, by omega, by omega, ?_, fun k hk hk2 => ?_⟩
  · rw [yet_take_succ gn q j hj, ← h5 j (Nat.le_refl _) hj, if_neg (by rw [hz]; decide), ← h4]
    rw [List.take_succ_eq_append_getElem (by rw [List.length_set]; omega), List.take_set_of_le (Nat.le_refl _)]
    simp
  · have : db (xs.set i (db xs j)) k = db xs k := by simp [db, List.getD, show i ≠ k by omega]
    rw [this]
    exact h5 k (by omega) hk2
theorem Kept.len (h : Kept gn q xs i j) : i = (yet gn (q.take j)).length := by
  obtain ⟨h1, h2, h3, h4, h5⟩ := h
  rw [← h4, List.length_take]
  omega
end

/-! ### one row alone is written -/
section
variable {w a b : World} {row : Option Nat} {g : Nat}
theorem gb_below (h : w.grownBy a row) (k : Below a.heap.size a b) : w.grownBy b row :=
  ⟨k.os.trans h.os, k.tape.trans h.tape, k.output.trans h.output, Nat.le_trans h.size k.size, fun i hi hne => (k.block i (Nat.lt_of_lt_of_le hi h.size)).trans (h.block i hi hne)⟩
theorem gb_of (k : Below w.heap.size w b) : w.grownBy b row := gb_below (World.grownBy.refl w row) k
theorem gb_then (h : w.grownBy a row) (k : a.grownBy b row) : w.grownBy b row :=
  ⟨k.os.trans h.os, k.tape.trans h.tape, k.output.trans h.output, Nat.le_trans h.size k.size, fun i hi hne => (k.block i (Nat.lt_of_lt_of_le hi h.size) hne).trans (h.block i hi hne)⟩
theorem gb_cell (h : w.grownBy a (some g)) (o : Nat) (u : Value) : w.grownBy (a.setCell ⟨g, o, none⟩ u) (some g) :=
  ⟨h.os, h.tape, h.output, by simpa using h.size, fun i hi hne => (Below.heap_setCell a ⟨g, o, none⟩ u i (fun e => hne (by rw [e]))).trans (h.block i hi hne)⟩
theorem gb_row (h : w.grownBy a (some g)) (cs : Array Value) : w.grownBy (a.setRow g cs) (some g) :=
  ⟨h.os, h.tape, h.output, by simpa using h.size, fun i hi hne => (setRow_other a g i cs (fun e => hne (by rw [e]))).trans (h.block i hi hne)⟩
end
/-- What the call answers: the slice v, cut; its row alone is written. -/
def Cuts (w : World) (B : Nat) (v : Value) (xs : List Db) (e : Ending) (w' : World) : Prop := ∃ v', e = .returned v' ∧ OwnD w' B v' xs ∧ v'.ownBlock = v.ownBlock ∧ w.grownBy w' v.ownBlock

set_option maxRecDepth 100000 in
set_option maxHeartbeats 4000000 in
theorem delete_any (q : List Db) (B : Nat) (v : Value) (who inc : Int) (bw bi : Nat) (w : World) (hn : q.length ≤ 1000) (h : OwnD w B v q) (h1 : w.cell? ⟨bw, 0, none⟩ = some (.int .i64 who)) (h2 : w.cell? ⟨bi, 0, none⟩ = some (.int .u64 inc)) (hbw : bw < B) (hbi : bi < B) :
    Calls Try.prog 38 #[v, .func (.func 39) #[] #[.pointer (some ⟨bw, 0, none⟩), .pointer (some ⟨bi, 0, none⟩)]] w (Cuts w B v (yet (fun x => goneB who inc x.ct) q)) := by
  obtain ⟨A, c, rfl, hc, hcm, hl⟩ := h.ds
  have HI := Lib.hid (index_any A c w.heap.size q who inc bw bi w hn hl (Nat.le_refl _) h1 h2)
  by_cases hp : posZ (fun x => goneB who inc x.ct) q < q.length
  · rw [if_pos hp] at HI
    obtain ⟨g, c', e, hg, hlt, _, _, _⟩ := h.opened (by omega)
    injection e with e1 e2 e3
    clear e2
    subst e1; subst e3
    have HK := Lib.hid (Kept.start hp)
    have HO := Lib.hid h
    have HG := Lib.hid hg
    have HN := Lib.hid hn
    have HY := Lib.hid (yet_len (fun x => goneB who inc x.ct) q)
    have H1 : Hid (∀ W, w.grownBy W (some g) → W.cell? ⟨bw, 0, none⟩ = some (.int .i64 who)) := Lib.hid (fun W hW => (World.cell?_of_block (a := ⟨bw, 0, none⟩) (hW.block bw (World.block_lt_of_cell? _ _ h1) (fun e => by have := Option.some.inj e; omega))).trans h1)
    have H2 : Hid (∀ W, w.grownBy W (some g) → W.cell? ⟨bi, 0, none⟩ = some (.int .u64 inc)) := Lib.hid (fun W hW => (World.cell?_of_block (a := ⟨bi, 0, none⟩) (hW.block bi (World.block_lt_of_cell? _ _ h2) (fun e => by have := Option.some.inj e; omega))).trans h2)
    have hob : (Value.slice (some ⟨g, 0, none⟩) q.length c).ownBlock = some g := rfl
    have HCU : Hid (∀ v' w', OwnD w' B v' (yet (fun x => goneB who inc x.ct) q) → v'.ownBlock = some g → w.grownBy w' (some g) → Cuts w B (.slice (some ⟨g, 0, none⟩) q.length c) (yet (fun x => goneB who inc x.ct) q) (.returned v') w') := Lib.hid (fun v' w' h1 h2 h3 => ⟨v', rfl, h1, h2, h3⟩)
    clear hob
    generalize hpz : posZ (fun x => goneB who inc x.ct) q = p at *
    have hw1 : IntKind.i64.wrap ((p : Int) + 1) = (p : Int) + 1 := by rw [IntWalk.i64_in _ (by omega)]
    have hne : ((p : Int) == -1) = false := by simp
    have hne' : ¬(p : Int) = -1 := by omega
    clear h hg hl hc hn hp hlt hpz hcm h1 h2
    go_enter Try.func38, Try.ntmps38
    go_upto_region 2 with (go_at_call 52; refine HI.out.mono ?_; rintro e w1 ⟨rfl, hb1⟩)
    have HO1 := Lib.hid (HO.out.on hb1)
    have HB1 : Hid (w.grownBy w1 (some g)) := Lib.hid (gb_of hb1)
    clear HI HO hb1
    go_wp2_with fail
    go_loopw [5, 6] (fun a b wr => ∃ i j : Nat, ∃ xs : List Db, a = .int .i64 i ∧ b = .int .i64 j ∧ Hid (Kept (fun x => goneB who inc x.ct) q xs i j ∧ i < j) ∧ Hid (OwnD wr B (.slice (some ⟨g, 0, none⟩) q.length c) xs) ∧ Hid (w.grownBy wr (some g))) (fun _ b _ => q.length - (intOf b).toNat)
    case atStart => exact ⟨p, p + 1, q, rfl, rfl, Lib.hid ⟨HK.out, by omega⟩, HO1, HB1⟩
    case round =>
      clear HK HO1 HB1
      obtain ⟨wq, ewq⟩ : ∃ wq, wq = wr := ⟨_, rfl⟩
      subst ewq
      obtain ⟨i, j, xs, rfl, rfl, HK, HO, HBr⟩ := hrel
      have HKL := Lib.hid HK.out.1.1
      rw [← HKL.out] at HO
      by_cases hlt : j < q.length
      · have hjx : j < xs.length := by rw [HKL.out]; exact hlt
        have k0 : (0 : Int) ≤ (j : Int) := by omega
        have k1 : (j : Int) < (q.length : Int) := by omega
        have e0 : decide ((j : Int) < (q.length : Int)) = true := by simpa using k1
        have e0' : decide (j < q.length) = true := by simpa using hlt
        obtain ⟨a0, a1, a2, a3⟩ := HO.out.cell j hjx
        have hrd := HO.out.2 _ (db_mem xs hjx)
        have HC := Lib.hid (fun W (hW : w.grownBy W (some g)) => gone_any (db xs j) who inc bw bi W (H1.out W hW) (H2.out W hW))
        have hw2 : IntKind.i64.wrap ((j : Int) + 1) = (j : Int) + 1 := by have := HN.out; rw [IntWalk.i64_in _ (by omega)]
        have hbb : Below wq.heap.size wq (wq.alloc (.cells #[.int .i64 (db xs j).w, .int .u64 (db xs j).i, .int .i64 (db xs j).t, .slice (db xs j).A (db xs j).b.length (db xs j).c] 55)) := (Below.refl _ _).alloc (Nat.le_refl _) _
        have HO2 := Lib.hid (HO.out.on hbb)
        have HB2 : Hid (w.grownBy (wq.alloc (.cells #[.int .i64 (db xs j).w, .int .u64 (db xs j).i, .int .i64 (db xs j).t, .slice (db xs j).A (db xs j).b.length (db xs j).c] 55)) (some g)) := Lib.hid (gb_below HBr.out hbb)
        have BT2 := Lib.hid (Bt.new wq (db xs j) 55)
        have HRD := Lib.hid (hrd.on hbb)
        have HS := Lib.hid (fun hz => HK.out.1.skip hlt hz)
        have HS2 := Lib.hid (fun hz => HK.out.1.keep HK.out.2 hlt hz)
        generalize hy : db xs j = y at *
        clear hy hbb hrd hjx
        go_upto_region 8 with (fail)
        clear a0 a1 a2 a3 HO HBr
        generalize hbq : wq.heap.size = bt at *
        generalize wq.alloc (.cells #[.int .i64 y.w, .int .u64 y.i, .int .i64 y.t, .slice y.A y.b.length y.c] 55) = w3 at *
        clear hbq
        obtain ⟨b0, b1, b2, b3⟩ := BT2.out
        have HCC := Lib.hid (HC.out w3 HB2.out)
        go_wp2_with fail
        refine HCC.out.mono ?_
        rintro e w4 ⟨rfl, hg4⟩
        have HB4 : Hid (w.grownBy w4 (some g)) := Lib.hid (gb_below HB2.out hg4)
        have HO4 := Lib.hid (HO2.out.on hg4)
        have BT4 := Lib.hid (BT2.out.on hg4)
        have HR4 := Lib.hid (HRD.out.on hg4)
        clear HB2 HO2 BT2 hg4 HC HCC HRD b0 b1 b2 b3
        rcases hz : goneB who inc y.ct with _ | _
        · have hin : i < xs.length := by have := HK.out.2; rw [HKL.out]; omega
          have i0 : (0 : Int) ≤ (i : Int) := by omega
          have i1 : (i : Int) < (q.length : Int) := by have := HKL.out; omega
          have i1' : i < q.length := by omega
          have hw3 : IntKind.i64.wrap ((i : Int) + 1) = (i : Int) + 1 := by have := HN.out; rw [IntWalk.i64_in _ (by omega)]
          have HK' : Hid (Kept (fun x => goneB who inc x.ct) q (xs.set i y) (i + 1) (j + 1) ∧ i + 1 < j + 1) := Lib.hid ⟨HS2.out hz, by have := HK.out.2; omega⟩
          have HOS := Lib.hid (HO4.out.set (i := i) y HR4.out)
          rw [HKL.out] at HOS
          have hfz : ∀ o : Nat, w4.frozen? ⟨g, o, none⟩ = false := World.ownsRow.frozenAt (w := w4) HO4.out.1
          obtain ⟨o0, o1, o2, o3⟩ := HO4.out.cell i hin
          have HBS : Hid (w.grownBy ((((w4.setCell ⟨g, i * 4, none⟩ (.int .i64 y.w)).setCell ⟨g, i * 4 + 1, none⟩ (.int .u64 y.i)).setCell ⟨g, i * 4 + 2, none⟩ (.int .i64 y.t)).setCell ⟨g, i * 4 + 3, none⟩ (.slice y.A y.b.length y.c)) (some g)) := Lib.hid (gb_cell (gb_cell (gb_cell (gb_cell HB4.out _ _) _ _) _ _) _ _)
          obtain ⟨t0, t1, t2, t3⟩ := BT4.out
          clear HS HS2 HB4 HO4 BT4 HK HR4 hin
          go_upto_region 10 with (fail)
          generalize (((w4.setCell ⟨g, i * 4, none⟩ (.int .i64 y.w)).setCell ⟨g, i * 4 + 1, none⟩ (.int .u64 y.i)).setCell ⟨g, i * 4 + 2, none⟩ (.int .i64 y.t)).setCell ⟨g, i * 4 + 3, none⟩ (.slice y.A y.b.length y.c) = w5 at *
          clear t0 t1 t2 t3 o0 o1 o2 o3 hfz
          go_wp2_with fail
          go_roundw
          case rel => exact ⟨i + 1, j + 1, xs.set i y, by go_num, by go_num, HK', HOS, HBS⟩
          case measure => simp [intOf]; omega
        · have HK' : Hid (Kept (fun x => goneB who inc x.ct) q xs i (j + 1) ∧ i < j + 1) := Lib.hid ⟨HS.out hz, by have := HK.out.2; omega⟩
          rw [HKL.out] at HO4
          clear HS HS2 HR4
          go_wp2_with fail
          go_roundw
          case rel => exact ⟨i, j + 1, xs, rfl, by go_num, HK', HO4, HB4⟩
          case measure => simp [intOf]; omega
      · have hje : j = q.length := by have := HK.out.1.2.2.1; omega
        have e0 : decide ((j : Int) < (q.length : Int)) = false := by simp; omega
        have e0' : decide (j < q.length) = false := by simp; omega
        have hij := HK.out.2
        have hyl : i = (yet (fun x => goneB who inc x.ct) q).length := by
          have := HK.out.1.len
          rw [hje, List.take_length] at this
          exact this
        have hxt : xs.take i = yet (fun x => goneB who inc x.ct) q := by
          have := HK.out.1.2.2.2.1
          rw [hje, List.take_length] at this
          exact this
        have hkl := HKL.out
        obtain ⟨cur, hgB, hgc, hcc, hm, hsz, htk⟩ := HO.out.row
        obtain ⟨cur', hrun, hs', ht'⟩ : ∃ cur', (∀ ty : TypeId, (Builtin.clear_ #[22] ty #[.slice (some ⟨g, i * 4, none⟩) (q.length - i) (c - i)]).run Try.prog wq = .ok (.tuple #[]) (wq.setRow g cur')) ∧ cur'.size = cur.size ∧ cur'.toList.take (i * 4) = cur.toList.take (i * 4) := by
          obtain ⟨cur', h1, h2, h3⟩ := run_clear_db wq 0 g (i * 4) (q.length - i) (c - i) cur 55 hgc (by omega) (by omega)
          exact ⟨cur', fun _ => h1, h2, h3⟩
        have HF : Hid (OwnD (wq.setRow g cur') B (.slice (some ⟨g, 0, none⟩) i c) (yet (fun x => goneB who inc x.ct) q)) := Lib.hid (by
          have := OwnD.of_row (w := wq.setRow g cur') (cur := cur') (xs := yet (fun x => goneB who inc x.ct) q) hgB (setRow_heap wq g cur cur' _ _ hgc) (c := c) (by omega) hm (by omega) (by
            rw [← hyl, ht', ← hxt, dbs_take, ← htk, List.take_take]
            congr 1; omega) (fun x hx => by
            have hx' : x ∈ xs := by rw [← hxt] at hx; exact List.mem_of_mem_take hx
            exact (HO.out.2 x hx').keep (by simp) fun p hp hq => World.cell?_of_block (setRow_other wq g p.block cur' (fun e => hq (by show some g = some p.block; rw [e]))))
          rwa [← hyl] at this)
        have HBF : Hid (w.grownBy (wq.setRow g cur') (some g)) := Lib.hid (gb_row HBr.out cur')
        have i0 : (0 : Int) ≤ (i : Int) := by omega
        have i1 : (i : Int) ≤ (q.length : Int) := by omega
        have i1' : i ≤ q.length := by omega
        have i2 : ¬c = i := by omega
        have i3 : (i : Int) ≤ (c : Int) := by omega
        have i3' : i ≤ c := by omega
        clear HK HO HBr hyl hxt hgc hs' ht' htk hsz hm hcc hgB hje hij hkl HKL
        go_upto_region 11 with (fail)
        go_upto_region 12 with (at_builtin; refine wpList_clear_db rfl _ rfl _ rfl (hrun _) ?_)
        generalize wq.setRow g cur' = w5 at *
        clear hrun
        go_wp2_with fail
        go_ret
        exact HCU.out _ _ HF.out rfl HBF.out
  · rw [if_neg hp] at HI
    have hy : yet (fun x => goneB who inc x.ct) q = q := by
      have := yet_take_posZ (fun x => goneB who inc x.ct) q q.length (by omega)
      rwa [List.take_length] at this
    rw [hy]
    clear hy hp hl
    go_enter Try.func38, Try.ntmps38
    go_wp2_with (go_at_call 52; refine HI.out.mono ?_; rintro e w1 ⟨rfl, hb1⟩)
    go_ret
    exact ⟨_, rfl, h.on hb1, rfl, gb_of hb1⟩
end Go.Proofs.Ytknpbbplolncpaa
