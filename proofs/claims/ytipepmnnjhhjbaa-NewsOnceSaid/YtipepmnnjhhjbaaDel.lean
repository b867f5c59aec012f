/-
  The walk of the library's DeleteFunc, of what is not to be told any more.
-/
import Derived.Test.YtipepmnnjhhjbaaAdd
namespace Go.Proofs.Ytipepmnnjhhjbaa
open Go.Sort Go.RowKit Go.Proofs.Ytipepmnnjhhjbaa.Pure

/-- Is it to be told yet? -/
def yetB (x : Td) : Bool := !(x.l == 0)
/-- What is to be told yet. -/
def yet (q : List Td) : List Td := q.filter yetB
/-- Where the first one stands that is not. -/
def posZ : List Td → Nat
  | [] => 0
  | x :: r => if x.l == 0 then 0 else posZ r + 1
theorem posZ_le (q : List Td) : posZ q ≤ q.length := by
  induction q with
  | nil => simp [posZ]
  | cons x r ih => unfold posZ; split <;> simp <;> omega
theorem posZ_lt (q : List Td) : ∀ j, j < posZ q → (td q j).l ≠ 0 := by
  induction q with
  | nil => intro j hj; simp [posZ] at hj
  | cons x r ih =>
    intro j hj
    unfold posZ at hj
    split at hj
    · omega
    · rename_i h
      rcases j with _ | j
      · simpa [td] using h
      · have := ih j (by omega)
        simpa [td] using this
theorem posZ_at (q : List Td) (h : posZ q < q.length) : (td q (posZ q)).l = 0 := by
  induction q with
  | nil => simp at h
  | cons x r ih =>
    unfold posZ at h ⊢
    split
    · rename_i hx
      simpa [td] using hx
    · rename_i hx
      rw [if_neg hx] at h
      have := ih (by simpa using h)
      simpa [td] using this
theorem yet_take_succ (q : List Td) (j : Nat) (h : j < q.length) : yet (q.take (j + 1)) = if (td q j).l = 0 then yet (q.take j) else yet (q.take j) ++ [td q j] := by
  unfold yet
  rw [List.take_succ_eq_append_getElem h, List.filter_append, ← td_lt q h]
  by_cases e : (td q j).l = 0
  · rw [if_pos e]; simp [yetB, e]
  · rw [if_neg e]; simp [yetB, e]
theorem yet_take_posZ (q : List Td) (j : Nat) (h : j ≤ posZ q) : yet (q.take j) = q.take j := by
  unfold yet
  refine List.filter_eq_self.2 fun x hx => ?_
  obtain ⟨k, hk, rfl⟩ := List.getElem_of_mem hx
  rw [List.length_take] at hk
  have := posZ_lt q k (by omega)
  rw [td_lt q (by omega)] at this
  simpa [yetB] using this
theorem yet_len (q : List Td) : (yet q).length ≤ q.length := List.length_filter_le _ _

set_option maxRecDepth 100000 in
set_option maxHeartbeats 1000000 in
theorem index_any (A : Option Addr) (c : Nat) (q : List Td) (w : World) (hn : q.length ≤ 1000) (h : Ts w A q) :
    Calls Try.prog 47 #[.slice A q.length c, .func (.func 35) #[] #[]] w fun e w' => e = .returned (.int .i64 (if posZ q < q.length then ((posZ q : Nat) : Int) else -1)) ∧ Below w.heap.size w w' := by
  have H := Lib.hid h
  have HL := Lib.hid (posZ_lt q)
  have HLE := Lib.hid (posZ_le q)
  have HAT := Lib.hid (posZ_at q)
  obtain ⟨R, hR⟩ : ∃ R : Int, R = if posZ q < q.length then ((posZ q : Nat) : Int) else -1 := ⟨_, rfl⟩
  have HR1 : Hid (posZ q < q.length → R = ((posZ q : Nat) : Int)) := Lib.hid (fun h => by rw [hR, if_pos h])
  have HR2 : Hid (¬posZ q < q.length → R = -1) := Lib.hid (fun h => by rw [hR, if_neg h])
  rw [← hR]
  clear hR h
  generalize posZ q = p at *
  go_enter Try.func47, Try.ntmps47
  go_wp2_with fail
  go_loopw [8] (fun i wr => ∃ k : Nat, i = .int .i64 k ∧ k ≤ p ∧ Hid (Below w.heap.size w wr)) (fun i _ => q.length - (intOf i).toNat)
  case atStart => exact ⟨0, rfl, Nat.zero_le _, Lib.hid (Below.refl _ _)⟩
  case round =>
    obtain ⟨k, rfl, hk, hb⟩ := hrel
    by_cases hlt : k < q.length
    · obtain ⟨ad, rfl, hlo, h1⟩ := (H.out.on hb.out) k hlt
      obtain ⟨a0, a1, a2, a3⟩ := h1.flat
      have k0 : (0 : Int) ≤ (k : Int) := by omega
      have k1 : (k : Int) < (q.length : Int) := by omega
      have e0 : decide ((k : Int) < (q.length : Int)) = true := by simpa using k1
      have HC := Lib.hid (fun W => left_grew (td q k) W)
      by_cases hz : (td q k).l = 0
      · obtain rfl : k = p := by
          rcases Nat.lt_or_ge k p with h | h
          · exact absurd hz (HL.out k h)
          · omega
        have e1 : ((td q k).l == 0) = true := by simpa using hz
        obtain rfl := HR1.out hlt
        generalize td q k = x at *
        clear h1 hz
        go_wp2_with (refine (HC.out _).mono ?_; rintro e w2 ⟨rfl, hg2⟩; have HB2 : Hid (Below w.heap.size w w2) := Lib.hid (hb.out.trans (hg2.below.mono hb.out.size)); clear hg2)
        go_ret
        exact ⟨rfl, HB2.out⟩
      · have hkp : k + 1 ≤ p := by
          rcases Nat.lt_or_ge k p with h | h
          · exact h
          · obtain rfl : k = p := by omega
            exact absurd (HAT.out hlt) hz
        have e1 : ((td q k).l == 0) = false := by simpa using hz
        have e1' : ¬(td q k).l = 0 := hz
        generalize td q k = x at *
        clear h1 hz hk
        go_wp2_with (refine (HC.out _).mono ?_; rintro e w2 ⟨rfl, hg2⟩; have HB2 : Hid (Below w.heap.size w w2) := Lib.hid (hb.out.trans (hg2.below.mono hb.out.size)); clear hg2)
        go_roundw
        case rel => exact ⟨k + 1, by go_num, hkp, HB2⟩
        case measure => simp [intOf]; omega
    · have hp := HLE.out
      obtain rfl : k = p := by omega
      obtain rfl := HR2.out hlt
      have e0 : decide ((k : Int) < (q.length : Int)) = false := by simp; omega
      clear hp
      go_wp2_with fail
      go_ret
      exact ⟨rfl, hb.out⟩

theorem run_clear_td (w : World) (ty : TypeId) (g o n c : Nat) (cur : Array Value) (T : TypeId) (hg : w.heap[g]? = some (.cells cur T (0, 0))) (hn : 0 < n) (hfit : o + n * 4 ≤ cur.size) :
    ∃ cur', (Builtin.clear_ #[22] ty #[.slice (some ⟨g, o, none⟩) n c]).run Try.prog w = .ok (.tuple #[]) (w.setRow g cur') ∧ cur'.size = cur.size ∧ cur'.toList.take o = cur.toList.take o := by
  obtain ⟨i0, hi, hz0, hz1, hz2⟩ := info_parts Try.infoTd
  have hl : (Builtin.zeroCells (Value.agg #[.int .i64 0, .int .u64 0, .int .i64 0, .int .i64 0]).cells n).toList.length = n * 4 := by
    rw [Array.length_toList, size_zeroCells]; rfl
  have h1 : ∀ u ∈ (Builtin.zeroCells (Value.agg #[.int .i64 0, .int .u64 0, .int .i64 0, .int .i64 0]).cells n).toList, u.oneCell' = true := by
    intro u hu
    obtain ⟨k, _, hk⟩ : ∃ k, k < n * 4 ∧ [Value.int .i64 0, .int .u64 0, .int .i64 0, .int .i64 0][k % 4]?.getD default = u := by
      have hu' : u ∈ Builtin.zeroCells (Value.agg #[.int .i64 0, .int .u64 0, .int .i64 0, .int .i64 0]).cells n := by simpa using hu
      simp only [Builtin.zeroCells] at hu'
      simpa [Value.cells] using hu'
    have hm : k % 4 < 4 := Nat.mod_lt _ (by decide)
    generalize k % 4 = r at hk hm
    match r, hm with
    | 0, _ => subst hk; rfl
    | 1, _ => subst hk; rfl
    | 2, _ => subst hk; rfl
    | 3, _ => subst hk; rfl
  have hst := run_storeCells_at Try.prog g o T _ 0 cur w hg (by rw [hl]; omega) h1
  obtain ⟨Z, hZ⟩ : ∃ Z, Z = (Builtin.zeroCells (Value.agg #[.int .i64 0, .int .u64 0, .int .i64 0, .int .i64 0]).cells n).toList := ⟨_, rfl⟩
  rw [← hZ] at hl hst
  refine ⟨(cur.toList.take (o + 0) ++ Z ++ cur.toList.drop (o + 0 + Z.length)).toArray, ?_, ?_, ?_⟩
  rotate_left
  · simp only [List.size_toArray, List.length_append, List.length_take, List.length_drop, hl, Array.length_toList]
    omega
  · simp only [Nat.add_zero, List.append_assoc]
    rw [List.take_append_of_le_length (by rw [List.length_take, Array.length_toList]; omega), List.take_take, Nat.min_self]
  · cases n with
    | zero => omega
    | succ n => simp [Builtin.clear_, run_underlying Try.underlying22, zeroValue, typeInfo, hi, hz0, ← hZ, hst]
theorem wpList_clear_td {w : World} {ops : Array Oper} {rest : List Oper} {o : Oper} {a : Act} {Q : Exit → Act → World → Prop} (hgd : o.guard = none) (s : Operand)
    (ho : o.op = .call { callee := .builtin .clear, args := #[s], argTypes := #[22] }) (v : Value) (hs : a.eval s = v) {v' : Value} {w' : World}
    (hr : (Builtin.clear_ #[22] o.type #[v]).run Try.prog w = .ok v' w') (h : wpList Try.prog ops Q rest (a.put o.dst v') w') : wpList Try.prog ops Q (o :: rest) a w :=
  wpList_plain hgd fun _ hK => by
    unfold Oper.wp execOp
    simp only [ho, resolve, invoke, builtin, Sem.run_bind, Sem.run_pure, Result.andThen_ok, List.map_toArray, List.map_cons, List.map_nil, hs, hr]
    exact hK _ _ h

/-- A slice of the call's own, cut. -/
theorem OwnT.cut {w : World} {B g c : Nat} {xs : List Td} (h : OwnT w B (.slice (some ⟨g, 0, none⟩) xs.length c) xs) (k : Nat) (hk : k ≤ xs.length) : OwnT w B (.slice (some ⟨g, 0, none⟩) k c) (xs.take k) := by
  have hl : (xs.take k).length = k := by rw [List.length_take]; omega
  rcases h.2 with ⟨he, _⟩ | ⟨g', cap, cur, he, h1, h2, h3, h4, h5, h6⟩
  · cases he
  · injection he with e1 _ e3; injection e1 with e1; injection e1 with e1 _ _; subst e1; subst e3
    refine ⟨by rw [tds_len], .inr ⟨g, c, cur, by rw [hl], h1, h2, by omega, h4, h5, ?_⟩⟩
    rw [hl, tds_take, ← h6, List.take_take]
    congr 1; omega
theorem OwnT.row {w : World} {B g c : Nat} {xs : List Td} (h : OwnT w B (.slice (some ⟨g, 0, none⟩) xs.length c) xs) : ∃ cur, B ≤ g ∧ w.heap[g]? = some (.cells cur 59 (0, 0)) ∧ xs.length ≤ c ∧ c ≤ maxLen ∧ cur.size = c * 4 ∧ cur.toList.take (xs.length * 4) = tds xs := by
  rcases h.2 with ⟨he, _⟩ | ⟨g', cap, cur, he, h1, h2, h3, h4, h5, h6⟩
  · cases he
  · injection he with e1 _ e3; injection e1 with e1; injection e1 with e1 _ _; subst e1; subst e3
    exact ⟨cur, h1, h2, h3, h4, h5, h6⟩
theorem OwnT.of_row {w : World} {B g c : Nat} {cur : Array Value} {xs : List Td} (hB : B ≤ g) (h : w.heap[g]? = some (.cells cur 59 (0, 0))) (hc : xs.length ≤ c) (hm : c ≤ maxLen) (hs : cur.size = c * 4) (ht : cur.toList.take (xs.length * 4) = tds xs) : OwnT w B (.slice (some ⟨g, 0, none⟩) xs.length c) xs :=
  ⟨by rw [tds_len], .inr ⟨g, c, cur, rfl, hB, h, hc, hm, hs, ht⟩⟩

/-- What the loop of DeleteFunc holds: in front what is to be told yet of the first j, behind j all as it was. -/
def Kept (q xs : List Td) (i j : Nat) : Prop := xs.length = q.length ∧ i ≤ j ∧ j ≤ q.length ∧ xs.take i = yet (q.take j) ∧ (∀ k, j ≤ k → k < q.length → td xs k = td q k)
theorem Kept.start {q : List Td} (h : posZ q < q.length) : Kept q q (posZ q) (posZ q + 1) := by
  refine ⟨rfl, by omega, by omega, ?_, fun _ _ _ => rfl⟩
  rw [yet_take_succ q _ h, if_pos (posZ_at q h), yet_take_posZ q _ (Nat.le_refl _)]
theorem Kept.skip {q xs : List Td} {i j : Nat} (h : Kept q xs i j) (hj : j < q.length) (hz : (td xs j).l = 0) : Kept q xs i (j + 1) := by
  obtain ⟨h1, h2, h3, h4, h5⟩ := h
  refine ⟨h1, by omega, by omega, ?_, fun k hk => h5 k (by omega)⟩
  rw [yet_take_succ q j hj, ← h5 j (Nat.le_refl _) hj, if_pos hz]
  exact h4
theorem Kept.keep {q xs : List Td} {i j : Nat} (h : Kept q xs i j) (hij : i < j) (hj : j < q.length) (hz : (td xs j).l ≠ 0) : Kept q (xs.set i (td xs j)) (i + 1) (j + 1) := by
  obtain ⟨h1, h2, h3, h4, h5⟩ := h
  refine ⟨by simpa using h1, by omega, by omega, ?_, fun k hk hk2 => ?_⟩
  · rw [yet_take_succ q j hj, ← h5 j (Nat.le_refl _) hj, if_neg hz, ← h4]
    rw [List.take_succ_eq_append_getElem (by rw [List.length_set]; omega), List.take_set_of_le (Nat.le_refl _)]
    simp
  · have : td (xs.set i (td xs j)) k = td xs k := by simp [td, List.getD, show i ≠ k by omega]
    rw [this]
    exact h5 k (by omega) hk2
theorem Kept.len {q xs : List Td} {i j : Nat} (h : Kept q xs i j) : i = (yet (q.take j)).length := by
  obtain ⟨h1, h2, h3, h4, h5⟩ := h
  rw [← h4, List.length_take]
  omega

/-! ### one row alone is written -/
section
variable {w a b : World} {row : Option Nat} {g : Nat}
theorem gb_below (h : w.grownBy a row) (k : Below a.heap.size a b) : w.grownBy b row :=
  ⟨k.os.trans h.os, k.tape.trans h.tape, k.output.trans h.output, Nat.le_trans h.size k.size, fun i hi hne => (k.block i (Nat.lt_of_lt_of_le hi h.size)).trans (h.block i hi hne)⟩
theorem gb_of (k : Below w.heap.size w b) : w.grownBy b row := gb_below (World.grownBy.refl w row) k
theorem gb_then (h : w.grownBy a row) (k : a.grownBy b row) : w.grownBy b row :=
  ⟨k.os.trans h.os, k.tape.trans h.tape, k.output.trans h.output, Nat.le_trans h.size k.size, fun i hi hne => (k.block i (Nat.lt_of_lt_of_le hi h.size) hne).trans (h.block i hi hne)⟩
theorem gb_cell (h : w.grownBy a (some g)) (o : Nat) (u : Value) : w.grownBy (a.setCell ⟨g, o, none⟩ u) (some g) :=
  ⟨h.os, h.tape, h.output, by simpa using h.size, fun i hi hne => (Below.heap_setCell a ⟨g, o, none⟩ u i (fun e => hne (by rw [e]))).trans (h.block i hi hne)⟩
theorem gb_row (h : w.grownBy a (some g)) (cs : Array Value) : w.grownBy (a.setRow g cs) (some g) :=
  ⟨h.os, h.tape, h.output, by simpa using h.size, fun i hi hne => (setRow_other a g i cs (fun e => hne (by rw [e]))).trans (h.block i hi hne)⟩
end
/-- What the call answers: the slice v, cut; its row alone is written. -/
def Cuts (w : World) (B : Nat) (v : Value) (xs : List Td) (e : Ending) (w' : World) : Prop := ∃ v', e = .returned v' ∧ OwnT w' B v' xs ∧ v'.ownBlock = v.ownBlock ∧ w.grownBy w' v.ownBlock

set_option maxRecDepth 100000 in
set_option maxHeartbeats 4000000 in
theorem delete_any (q : List Td) (B : Nat) (v : Value) (w : World) (hn : q.length ≤ 1000) (h : OwnT w B v q) :
    Calls Try.prog 34 #[v, .func (.func 35) #[] #[]] w (Cuts w B v (yet q)) := by
  obtain ⟨A, c, rfl, hc, hl⟩ := h.lst
  have HI := Lib.hid (index_any A c q w hn hl)
  by_cases hp : posZ q < q.length
  · rw [if_pos hp] at HI
    obtain ⟨g, c', e, hg, hlt, _, _, _⟩ := h.opened (by omega)
    injection e with e1 _ e3
    subst e1; subst e3
    have HK := Lib.hid (Kept.start hp)
    have HO := Lib.hid h
    have HG := Lib.hid hg
    have HN := Lib.hid hn
    have HY := Lib.hid (yet_len q)
    have hob : (Value.slice (some ⟨g, 0, none⟩) q.length c).ownBlock = some g := rfl
    have HCU : Hid (∀ v' w', OwnT w' B v' (yet q) → v'.ownBlock = some g → w.grownBy w' (some g) → Cuts w B (.slice (some ⟨g, 0, none⟩) q.length c) (yet q) (.returned v') w') := Lib.hid (fun v' w' h1 h2 h3 => ⟨v', rfl, h1, h2, h3⟩)
    clear hob
    generalize hpz : posZ q = p at *
    have hw1 : IntKind.i64.wrap ((p : Int) + 1) = (p : Int) + 1 := by rw [IntWalk.i64_in _ (by omega)]
    have hne : ((p : Int) == -1) = false := by simp
    have hne' : ¬(p : Int) = -1 := by omega
    clear h hg hl hc hn hp hlt hpz
    go_enter Try.func34, Try.ntmps34
    go_upto_region 2 with (go_at_call 47; refine HI.out.mono ?_; rintro e w1 ⟨rfl, hb1⟩)
    have HO1 := Lib.hid (HO.out.on hb1)
    have HB1 : Hid (w.grownBy w1 (some g)) := Lib.hid (gb_of hb1)
    clear HI HO hb1
    go_wp2_with fail
    go_loopw [5, 6] (fun a b wr => ∃ i j : Nat, ∃ xs : List Td, a = .int .i64 i ∧ b = .int .i64 j ∧ Hid (Kept q xs i j ∧ i < j) ∧ Hid (OwnT wr B (.slice (some ⟨g, 0, none⟩) q.length c) xs) ∧ Hid (w.grownBy wr (some g))) (fun _ b _ => q.length - (intOf b).toNat)
    case atStart => exact ⟨p, p + 1, q, rfl, rfl, Lib.hid ⟨HK.out, by omega⟩, HO1, HB1⟩
    case round =>
      clear HK HO1 HB1
      obtain ⟨wq, ewq⟩ : ∃ wq, wq = wr := ⟨_, rfl⟩
      subst ewq
      obtain ⟨i, j, xs, rfl, rfl, HK, HO, HBr⟩ := hrel
      have hkl := HK.out.1.1
      rw [← hkl] at HO
      by_cases hlt : j < q.length
      · have hjx : j < xs.length := by omega
        have k0 : (0 : Int) ≤ (j : Int) := by omega
        have k1 : (j : Int) < (q.length : Int) := by omega
        have e0 : decide ((j : Int) < (q.length : Int)) = true := by simpa using k1
        have e0' : decide (j < q.length) = true := by simpa using hlt
        obtain ⟨a0, a1, a2, a3⟩ := HO.out.cell j hjx
        have HC := Lib.hid (fun W => left_grew (td xs j) W)
        have hw2 : IntKind.i64.wrap ((j : Int) + 1) = (j : Int) + 1 := by have := HN.out; rw [IntWalk.i64_in _ (by omega)]
        have hbb : Below wq.heap.size wq (wq.alloc (.cells #[.int .i64 (td xs j).w, .int .u64 (td xs j).i, .int .i64 (td xs j).s, .int .i64 (td xs j).l] 59)) := (Below.refl _ _).alloc (Nat.le_refl _) _
        have HO2 := Lib.hid (HO.out.on hbb)
        have HB2 : Hid (w.grownBy (wq.alloc (.cells #[.int .i64 (td xs j).w, .int .u64 (td xs j).i, .int .i64 (td xs j).s, .int .i64 (td xs j).l] 59)) (some g)) := Lib.hid (gb_below HBr.out hbb)
        have BT2 := Lib.hid (Bt.new wq (td xs j) 59)
        have HS := Lib.hid (fun hz => HK.out.1.skip hlt hz)
        have HS2 := Lib.hid (fun hz => HK.out.1.keep HK.out.2 hlt hz)
        generalize hy : td xs j = y at *
        clear hy hbb
        go_upto_region 8 with (fail)
        clear a0 a1 a2 a3 HO HBr
        generalize hbq : wq.heap.size = bt at *
        generalize wq.alloc (.cells #[.int .i64 y.w, .int .u64 y.i, .int .i64 y.s, .int .i64 y.l] 59) = w3 at *
        clear hbq
        obtain ⟨b0, b1, b2, b3⟩ := BT2.out
        go_wp2_with fail
        refine (HC.out w3).mono ?_
        rintro e w4 ⟨rfl, hg4⟩
        have HB4 : Hid (w.grownBy w4 (some g)) := Lib.hid (gb_below HB2.out hg4.below)
        have HO4 := Lib.hid (HO2.out.on hg4.below)
        have BT4 := Lib.hid (BT2.out.on hg4.below)
        clear HB2 HO2 BT2 hg4 HC b0 b1 b2 b3
        by_cases hz : y.l = 0
        · have e1 : (y.l == 0) = true := by simpa using hz
          have HK' : Hid (Kept q xs i (j + 1) ∧ i < j + 1) := Lib.hid ⟨HS.out hz, by have := HK.out.2; omega⟩
          rw [hkl] at HO4
          clear HS HS2
          go_wp2_with fail
          go_roundw
          case rel => exact ⟨i, j + 1, xs, rfl, by go_num, HK', HO4, HB4⟩
          case measure => simp [intOf]; omega
        · have e1 : (y.l == 0) = false := by simpa using hz
          have hin : i < xs.length := by have := HK.out.2; omega
          have i0 : (0 : Int) ≤ (i : Int) := by omega
          have i1 : (i : Int) < (q.length : Int) := by omega
          have i1' : i < q.length := by omega
          have hw3 : IntKind.i64.wrap ((i : Int) + 1) = (i : Int) + 1 := by have := HN.out; rw [IntWalk.i64_in _ (by omega)]
          have HK' : Hid (Kept q (xs.set i y) (i + 1) (j + 1) ∧ i + 1 < j + 1) := Lib.hid ⟨HS2.out hz, by have := HK.out.2; omega⟩
          have HOS := Lib.hid (HO4.out.set (i := i) y)
          rw [hkl] at HOS
          have hfz : ∀ o : Nat, w4.frozen? ⟨g, o, none⟩ = false := World.ownsRow.frozenAt (w := w4) HO4.out
          obtain ⟨o0, o1, o2, o3⟩ := HO4.out.cell i hin
          have HBS : Hid (w.grownBy ((((w4.setCell ⟨g, i * 4, none⟩ (.int .i64 y.w)).setCell ⟨g, i * 4 + 1, none⟩ (.int .u64 y.i)).setCell ⟨g, i * 4 + 2, none⟩ (.int .i64 y.s)).setCell ⟨g, i * 4 + 3, none⟩ (.int .i64 y.l)) (some g)) := Lib.hid (gb_cell (gb_cell (gb_cell (gb_cell HB4.out _ _) _ _) _ _) _ _)
          obtain ⟨t0, t1, t2, t3⟩ := BT4.out
          clear HS HS2 HB4 HO4 BT4 HK
          have hne : ¬y.l = 0 := hz
          go_upto_region 10 with (fail)
          generalize (((w4.setCell ⟨g, i * 4, none⟩ (.int .i64 y.w)).setCell ⟨g, i * 4 + 1, none⟩ (.int .u64 y.i)).setCell ⟨g, i * 4 + 2, none⟩ (.int .i64 y.s)).setCell ⟨g, i * 4 + 3, none⟩ (.int .i64 y.l) = w5 at *
          clear t0 t1 t2 t3 o0 o1 o2 o3 hfz
          go_wp2_with fail
          go_roundw
          case rel => exact ⟨i + 1, j + 1, xs.set i y, by go_num, by go_num, HK', HOS, HBS⟩
          case measure => simp [intOf]; omega
      · have hje : j = q.length := by have := HK.out.1.2.2.1; omega
        have e0 : decide ((j : Int) < (q.length : Int)) = false := by simp; omega
        have e0' : decide (j < q.length) = false := by simp; omega
        have hij := HK.out.2
        have hyl : i = (yet q).length := by
          have := HK.out.1.len
          rw [hje, List.take_length] at this
          exact this
        have hxt : xs.take i = yet q := by
          have := HK.out.1.2.2.2.1
          rw [hje, List.take_length] at this
          exact this
        obtain ⟨cur, hgB, hgc, hcc, hm, hsz, htk⟩ := HO.out.row
        obtain ⟨cur', hrun, hs', ht'⟩ : ∃ cur', (∀ ty : TypeId, (Builtin.clear_ #[22] ty #[.slice (some ⟨g, i * 4, none⟩) (q.length - i) (c - i)]).run Try.prog wq = .ok (.tuple #[]) (wq.setRow g cur')) ∧ cur'.size = cur.size ∧ cur'.toList.take (i * 4) = cur.toList.take (i * 4) := by
          obtain ⟨cur', h1, h2, h3⟩ := run_clear_td wq 0 g (i * 4) (q.length - i) (c - i) cur 59 hgc (by omega) (by omega)
          exact ⟨cur', fun _ => h1, h2, h3⟩
        have HF : Hid (OwnT (wq.setRow g cur') B (.slice (some ⟨g, 0, none⟩) i c) (yet q)) := Lib.hid (by
          have := OwnT.of_row (w := wq.setRow g cur') (cur := cur') (xs := yet q) hgB (setRow_heap wq g cur cur' _ _ hgc) (c := c) (by omega) hm (by omega) (by
            rw [← hyl, ht', ← hxt, tds_take, ← htk, List.take_take]
            congr 1; omega)
          rwa [← hyl] at this)
        have HBF : Hid (w.grownBy (wq.setRow g cur') (some g)) := Lib.hid (gb_row HBr.out cur')
        have i0 : (0 : Int) ≤ (i : Int) := by omega
        have i1 : (i : Int) ≤ (q.length : Int) := by omega
        have i1' : i ≤ q.length := by omega
        have i2 : ¬c = i := by omega
        have i3 : (i : Int) ≤ (c : Int) := by omega
        have i3' : i ≤ c := by omega
        clear HK HO HBr hyl hxt hgc hs' ht' htk hsz hm hcc hgB hje hij hkl
        go_upto_region 11 with (fail)
        go_upto_region 12 with (at_builtin; refine wpList_clear_td rfl _ rfl _ rfl (hrun _) ?_)
        generalize wq.setRow g cur' = w5 at *
        clear hrun
        go_wp2_with fail
        go_ret
        exact HCU.out _ _ HF.out rfl HBF.out
  · rw [if_neg hp] at HI
    have hy : yet q = q := by
      have := yet_take_posZ q q.length (by omega)
      rwa [List.take_length] at this
    rw [hy]
    clear hy hp hl
    go_enter Try.func34, Try.ntmps34
    go_wp2_with (go_at_call 47; refine HI.out.mono ?_; rintro e w1 ⟨rfl, hb1⟩)
    go_ret
    exact ⟨_, rfl, h.on hb1, rfl, gb_of hb1⟩
end Go.Proofs.Ytipepmnnjhhjbaa
