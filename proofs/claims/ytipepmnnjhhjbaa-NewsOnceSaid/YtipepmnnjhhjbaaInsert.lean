/-
  The walk of the library's Insert, of one thing into a slice of the call's own.
-/
import Derived.Test.YtipepmnnjhhjbaaSearch
import Derived.Lib.Overlaps
import Derived.Lib.AppendZerosOnto
namespace Go.Proofs.Ytipepmnnjhhjbaa
open Go.Sort Go.RowKit Go.Proofs.Ytipepmnnjhhjbaa.Pure

/-- copy into a row, whatever lies there. -/
theorem run_copy_td (w : World) (ty : TypeId) (g o dl dc : Nat) (cur : Array Value) (T : TypeId) (a : Addr) (sl sc k : Nat) (news : List Value) (hg : w.heap[g]? = some (.cells cur T (0, 0))) (hk : Nat.min sl dl = k) (hl : news.length = k * 4)
    (hn : ∀ j u, news[j]? = some u → w.cell? (a.add j) = some u) (h1 : ∀ u ∈ news, u.oneCell' = true) (hfit : o + k * 4 ≤ cur.size) :
    (Builtin.copy_ #[22, 22] ty #[.slice (some ⟨g, o, none⟩) dl dc, .slice (some a) sl sc]).run Try.prog w = .ok (goInt k) (w.setRow g (cur.toList.take o ++ news ++ cur.toList.drop (o + k * 4)).toArray) := by
  obtain ⟨i0, hi, hz0, hz1, hz2⟩ := info_parts Try.infoTd
  have hld := run_firstCells_some (P := Try.prog) w 4 k a sl sc news hl hn
  have hst := run_storeCells_at Try.prog g o T news 0 cur w hg (by rw [hl]; omega) h1
  rw [Nat.add_zero, hl] at hst
  simp [Builtin.copy_, run_underlying Try.underlying22, Builtin.lenOf, sizeOf, typeInfo, hi, hz1, hk, hld, hst]
theorem wp_copy_td {w : World} {o : Oper} {a : Act} {K : Act → World → Prop} {Q : Exit → Act → World → Prop} (d s : Operand)
    (ho : o.op = .call { callee := .builtin .copy, args := #[d, s], argTypes := #[22, 22] }) (v u : Value) (hd : a.eval d = v) (hs : a.eval s = u) {v' : Value} {w' : World}
    (hr : (Builtin.copy_ #[22, 22] o.type #[v, u]).run Try.prog w = .ok v' w') (h : K (a.put o.dst v') w') : o.wp Try.prog a w K Q := by
  unfold Oper.wp execOp
  simp only [ho, resolve, invoke, builtin, Sem.run_bind, Sem.run_pure, Result.andThen_ok, List.map_toArray, List.map_cons, List.map_nil, hd, hs, hr]
  exact h
theorem wpList_copy_td {w : World} {ops : Array Oper} {rest : List Oper} {o : Oper} {a : Act} {Q : Exit → Act → World → Prop} (hgd : o.guard = none) (d s : Operand)
    (ho : o.op = .call { callee := .builtin .copy, args := #[d, s], argTypes := #[22, 22] }) (v u : Value) (hd : a.eval d = v) (hs : a.eval s = u) {v' : Value} {w' : World}
    (hr : (Builtin.copy_ #[22, 22] o.type #[v, u]).run Try.prog w = .ok v' w') (h : wpList Try.prog ops Q rest (a.put o.dst v') w') : wpList Try.prog ops Q (o :: rest) a w :=
  wpList_plain hgd fun _ hK => wp_copy_td d s ho v u hd hs hr (hK _ _ h)

theorem setRow_below {B : Nat} {a w : World} (h : Below B a w) (g : Nat) (hg : B ≤ g) (cs : Array Value) : Below B a (w.setRow g cs) :=
  h.trans ⟨rfl, rfl, rfl, by simp, fun k hk => setRow_other w g k cs (by omega)⟩
/-- One laid anew, in a block of its own. -/
def One1 (w : World) (b : Nat) (x : Td) : Prop := w.heap[b]? = some (.cells (tds1 x).toArray 59 (0, 0))
theorem One1.cells {w : World} {b : Nat} {x : Td} (h : One1 w b x) : ∀ j u, (tds1 x)[j]? = some u → w.cell? ((⟨b, 0, none⟩ : Addr).add j) = some u := by
  intro j u hu
  have e : (⟨b, 0, none⟩ : Addr).add j = ⟨b, j, none⟩ := by unfold Addr.add; split <;> simp_all
  have h' : w.heap[b]? = _ := h
  rw [e, cell_of_row w b j _ _ _ h']
  simpa using hu
theorem One1.ts {w : World} {b : Nat} {x : Td} (h : One1 w b x) : Ts w (some ⟨b, 0, none⟩) [x] := by
  intro j hj
  refine ⟨_, rfl, (Array.getElem?_eq_some_iff.1 h).1, ?_⟩
  obtain rfl : j = 0 := by simpa using hj
  refine TAt.of fun r hr => ?_
  have hc := h.cells r
  have e : (⟨b, 0, none⟩ : Addr).add r = ⟨b, r, none⟩ := by unfold Addr.add; split <;> simp_all
  rw [e] at hc
  rw [Nat.zero_mul, Nat.zero_add]
  match r, hr with
  | 0, _ => exact hc _ rfl
  | 1, _ => exact hc _ rfl
  | 2, _ => exact hc _ rfl
  | 3, _ => exact hc _ rfl
theorem One1.on {w w' : World} {b B : Nat} {x : Td} (h : One1 w b x) (hb : Below B w w') (hB : b < B) : One1 w' b x := (hb.block b hB).trans h
theorem One1.new (w : World) (x : Td) : One1 (w.alloc (.cells #[.int .i64 x.w, .int .u64 x.i, .int .i64 x.s, .int .i64 x.l] 59)) w.heap.size x := by
  show (w.heap.push _)[w.heap.size]? = _
  simp [tds1]
theorem One1.lt {w : World} {b : Nat} {x : Td} (h : One1 w b x) : b < w.heap.size := (Array.getElem?_eq_some_iff.1 h).1

/-- What the call answers: the slice with x in it. -/
def Inserts (w : World) (B : Nat) (xs : List Td) (e : Ending) (w' : World) : Prop := ∃ v, e = .returned v ∧ OwnT w' B v xs ∧ Below B w w'

set_option maxRecDepth 100000 in
set_option maxHeartbeats 2000000 in
/-- At the end. -/
theorem insert_end (q : List Td) (x : Td) (B : Nat) (A : Option Addr) (c b : Nat) (w : World) (hn : q.length ≤ 1000) (h : OwnT w B (.slice A q.length c) q) (hB : B ≤ w.heap.size) (hx : One1 w b x) :
    Calls Try.prog 30 #[.slice A q.length c, .int .i64 (q.length : Int), .slice (some ⟨b, 0, none⟩) 1 1] w (Inserts w B (q ++ [x])) := by
  have HO := Lib.hid h
  have HX := Lib.hid hx.ts
  have hc : q.length ≤ c ∧ c ≤ maxLen := by
    rcases h.2 with ⟨he, h0⟩ | ⟨g, cap, cur, he, _, _, h1, h2, _⟩
    · injection he with _ _ e3; subst e3; omega
    · injection he with _ _ e3; subst e3; exact ⟨h1, h2⟩
  have hG : ∀ k, (Value.slice A q.length c).ownBlock = some k → B ≤ k := fun k hk => (h.ge k hk).1
  have HBB := Lib.hid hB
  have HN := Lib.hid hn
  have HG := Lib.hid hG
  have k0 : (0 : Int) ≤ (q.length : Int) := by omega
  have k1 : (q.length : Int) ≤ (c : Int) := by omega
  have hc63 : (c : Int) ≤ 9223372036854775807 := by have := hc.2; unfold maxLen at this; omega
  clear h hx hB hn hG hc
  go_enter Try.func30, Try.ntmps30
  by_cases hcl : c = q.length
  · subst hcl
    go_upto_region 7 with (fail)
    go_wp2_with (at_builtin; refine wpList_appendTd rfl _ _ rfl B _ q rfl ?c1 (some ⟨b, 0, none⟩) 1 [x] rfl ?c2 ?c3 ?c4 ?_)
    case c1 => exact HO.out
    case c2 => exact HX.out
    case c3 => have := HN.out; simp; omega
    case c4 => exact HBB.out
    intro v' w1 hown hgrow
    have HO1 := Lib.hid hown
    have HB1 : Hid (Below B w w1) := Lib.hid ((Below.refl B w).grown hgrow HBB.out HG.out)
    clear hown hgrow
    go_wp2_with fail
    go_ret
    exact ⟨v', rfl, HO1.out, HB1.out⟩
  · have hcl' : ¬q.length = c := fun e => hcl e.symm
    go_upto_region 7 with (fail)
    go_wp2_with (at_builtin; refine wpList_appendTd rfl _ _ rfl B _ q rfl ?c1 (some ⟨b, 0, none⟩) 1 [x] rfl ?c2 ?c3 ?c4 ?_)
    case c1 => exact HO.out
    case c2 => exact HX.out
    case c3 => have := HN.out; simp; omega
    case c4 => exact HBB.out
    intro v' w1 hown hgrow
    have HO1 := Lib.hid hown
    have HB1 : Hid (Below B w w1) := Lib.hid ((Below.refl B w).grown hgrow HBB.out HG.out)
    clear hown hgrow
    go_wp2_with fail
    go_ret
    exact ⟨v', rfl, HO1.out, HB1.out⟩

theorem tds_ins (q : List Td) (x : Td) (i : Nat) : tds (q.take i ++ x :: q.drop i) = (tds q).take (i * 4) ++ tds1 x ++ (tds q).drop (i * 4) := by
  rw [tds_append, tds_cons, tds_take, tds_drop, List.append_assoc]

set_option maxRecDepth 100000 in
set_option maxHeartbeats 4000000 in
/-- In its midst, where there is room. -/
theorem insert_room (q : List Td) (x : Td) (B g i c b : Nat) (w : World) (hn : q.length ≤ 1000) (h : OwnT w B (.slice (some ⟨g, 0, none⟩) q.length c) q) (hi : i < q.length) (hroom : q.length < c) (hx : One1 w b x) (hbg : b ≠ g) :
    Calls Try.prog 30 #[.slice (some ⟨g, 0, none⟩) q.length c, .int .i64 (i : Int), .slice (some ⟨b, 0, none⟩) 1 1] w (Inserts w B (q.take i ++ x :: q.drop i)) := by
  obtain ⟨cur, hg, hgc, hm, hsz, htk⟩ : ∃ cur, B ≤ g ∧ w.heap[g]? = some (.cells cur 59 (0, 0)) ∧ c ≤ maxLen ∧ cur.size = c * 4 ∧ cur.toList.take (q.length * 4) = tds q := by
    rcases h.2 with ⟨he, _⟩ | ⟨g', cap, cur, he, h1, h2, h3, h4, h5, h6⟩
    · cases he
    · injection he with e1 _ e3; injection e1 with e1; injection e1 with e1 _ _; subst e1; subst e3
      exact ⟨cur, h1, h2, h4, h5, h6⟩
  have hlt : g < w.heap.size := (Array.getElem?_eq_some_iff.1 hgc).1
  have hsa : w.shape? b = some (59, 4) := by unfold World.shape?; rw [hx]; rfl
  have hsb : w.shape? g = some (59, c * 4) := by unfold World.shape?; rw [hgc]; simp [hsz]
  have hfa : w.frozen? ⟨b, 0, none⟩ = false := by unfold World.frozen?; rw [hx]; rfl
  have hfe : w.frozen? ⟨b, 4, none⟩ = false := by unfold World.frozen?; rw [hx]; rfl
  have hov : ∀ lb cb, (callFunc 42 #[.slice (some ⟨b, 0, none⟩) 1 1, .slice (some ⟨g, (i + 1) * 4, none⟩) lb cb]).run Try.prog w = .ok (.value (.bool false)) w := fun lb cb => by
    rw [run_callFunc_extern Try.func42 (by kernel_rfl) (by kernel_rfl) (by kernel_rfl) (e := Extern.SlicesOverlaps.overlaps #[22, 22] #[4]) (by kernel_rfl),
      Lib.run_overlaps_apart w 22 4 59 Try.underlying22 4 Try.sizeOf59 ⟨b, 0, none⟩ ⟨g, (i + 1) * 4, none⟩ 1 1 lb cb hbg 59 59 4 (c * 4) hsa hsb (by omega) hfa hfe]
    rfl
  have htl : cur.toList.length = c * 4 := by simpa using hsz
  -- the first copy
  obtain ⟨cur1, hc1⟩ : ∃ cur1, cur1 = (cur.toList.take ((i + 1) * 4) ++ (tds q).drop (i * 4) ++ cur.toList.drop ((i + 1) * 4 + (q.length - i) * 4)).toArray := ⟨_, rfl⟩
  have hcp1 : ∀ W : World, W.heap[g]? = some (.cells cur 59 (0, 0)) → ∀ ty dc sc, (Builtin.copy_ #[22, 22] ty #[.slice (some ⟨g, (i + 1) * 4, none⟩) (q.length - i) dc, .slice (some ⟨g, i * 4, none⟩) (q.length + 1 - i) sc]).run Try.prog W = .ok (goInt (q.length - i : Nat)) (W.setRow g cur1) := fun W hW ty dc sc => by
    rw [hc1]
    refine run_copy_td W ty g ((i + 1) * 4) (q.length - i) dc cur 59 ⟨g, i * 4, none⟩ (q.length + 1 - i) sc (q.length - i) ((tds q).drop (i * 4)) hW (Nat.min_eq_right (by omega)) (by rw [List.length_drop, tds_len]; omega) (fun j u hj => ?_) (fun u hu => tds_one q u (List.mem_of_mem_drop hu)) (by omega)
    rw [Addr.add_lit, cell_of_row W g _ _ _ _ hW]
    rw [List.getElem?_drop, ← htk] at hj
    have hl := (List.getElem?_eq_some_iff.1 hj).1
    rw [List.getElem?_take_of_lt (by rw [List.length_take] at hl; omega)] at hj
    simpa using hj
  have hz1 : cur1.size = c * 4 := by
    rw [hc1]
    simp only [List.size_toArray, List.length_append, List.length_take, List.length_drop, tds_len, htl]
    omega
  obtain ⟨cur2, hc2⟩ : ∃ cur2, cur2 = (cur1.toList.take (i * 4) ++ tds1 x ++ cur1.toList.drop (i * 4 + 1 * 4)).toArray := ⟨_, rfl⟩
  have hcp2 : ∀ W : World, W.heap[g]? = some (.cells cur1 59 (0, 0)) → One1 W b x → ∀ ty dc sc, (Builtin.copy_ #[22, 22] ty #[.slice (some ⟨g, i * 4, none⟩) (q.length + 1 - i) dc, .slice (some ⟨b, 0, none⟩) 1 sc]).run Try.prog W = .ok (goInt (1 : Nat)) (W.setRow g cur2) := fun W hW hX ty dc sc => by
    rw [hc2]
    exact run_copy_td W ty g (i * 4) (q.length + 1 - i) dc cur1 59 ⟨b, 0, none⟩ 1 sc 1 (tds1 x) hW (Nat.min_eq_left (by omega)) rfl (fun j u hj => hX.cells j u hj) (fun u hu => by simp [tds1] at hu; rcases hu with rfl | rfl | rfl | rfl <;> rfl) (by omega)
  have hfin : ∀ W : World, W.heap[g]? = some (.cells cur2 59 (0, 0)) → OwnT W B (.slice (some ⟨g, 0, none⟩) (q.length + 1) c) (q.take i ++ x :: q.drop i) := fun W hW => by
    have hl : (q.take i ++ x :: q.drop i).length = q.length + 1 := by simp; omega
    refine ⟨by rw [tds_len], .inr ⟨g, c, cur2, by rw [hl], hg, hW, by omega, hm, ?_, ?_⟩⟩
    · rw [hc2]
      simp only [List.size_toArray, List.length_append, List.length_take, List.length_drop, Array.length_toList, hz1, tds1, List.length_cons, List.length_nil]
      omega
    · rw [hl, tds_ins q x i, hc2]
      have e1 : cur1.toList.take (i * 4) = (tds q).take (i * 4) := by
        rw [hc1]
        simp only [List.append_assoc]
        rw [List.take_append_of_le_length (by rw [List.length_take, htl]; omega), List.take_take, ← htk, List.take_take]
        congr 1; omega
      have e2 : (cur1.toList.drop (i * 4 + 1 * 4)).take ((q.length - i) * 4) = (tds q).drop (i * 4) := by
        rw [hc1]
        simp only
        have a1 : (cur.toList.take ((i + 1) * 4)).length = (i + 1) * 4 := by rw [List.length_take, htl]; omega
        rw [List.append_assoc, List.drop_append, a1, List.drop_eq_nil_of_le (by rw [a1]; omega), List.nil_append, show i * 4 + 1 * 4 - (i + 1) * 4 = 0 by omega, List.drop_zero]
        have a2 : ((tds q).drop (i * 4)).length = (q.length - i) * 4 := by rw [List.length_drop, tds_len]; omega
        rw [List.take_append_of_le_length (by rw [a2]; omega), List.take_of_length_le (by rw [a2]; omega)]
      rw [e1]
      simp only
      have a3 : ((tds q).take (i * 4) ++ tds1 x).length = i * 4 + 4 := by simp [List.length_take, tds_len, tds1]; omega
      rw [List.take_append, a3, List.take_of_length_le (by rw [a3]; omega), show (q.length + 1) * 4 - (i * 4 + 4) = (q.length - i) * 4 by omega, e2]
  have HOV := Lib.hid hov
  have HC1 := Lib.hid (fun (W : World) h => hcp1 W h)
  have HC2 := Lib.hid (fun (W : World) h k => hcp2 W h k)
  have HF := Lib.hid hfin
  have HX := Lib.hid hx
  have HG := Lib.hid hgc
  have HGB := Lib.hid (show B ≤ g ∧ b ≠ g from ⟨hg, hbg⟩)
  have hw1 : IntKind.i64.wrap ((q.length : Int) + 1) = (q.length : Int) + 1 := by rw [IntWalk.i64_in _ (by omega)]
  have hw2 : IntKind.i64.wrap ((i : Int) + 1) = (i : Int) + 1 := by rw [IntWalk.i64_in _ (by omega)]
  have i0 : (0 : Int) ≤ (i : Int) := by omega
  have i1 : (i : Int) ≤ (q.length : Int) := by omega
  have i1' : i ≤ q.length := by omega
  have i2 : ¬(i : Int) = (q.length : Int) := by omega
  have i2' : ¬i = q.length := by omega
  have i3 : ¬c = i := by omega
  have i4 : ¬c = i + 1 := by omega
  have j0 : ¬(c : Int) < (q.length : Int) + 1 := by omega
  have j0' : ¬c < q.length + 1 := by omega
  have j1 : (q.length : Int) + 1 ≤ (c : Int) := by omega
  have j1' : q.length + 1 ≤ c := by omega
  have j2 : (0 : Int) ≤ (q.length : Int) + 1 := by omega
  have j3 : (0 : Int) ≤ (i : Int) + 1 := by omega
  have j4 : (i : Int) + 1 ≤ (q.length : Int) + 1 := by omega
  have j4' : i + 1 ≤ q.length + 1 := by omega
  have j5 : (i : Int) ≤ (q.length : Int) + 1 := by omega
  have j5' : i ≤ q.length + 1 := by omega
  have j6 : ((q.length : Int) + 1).toNat = q.length + 1 := by omega
  have j7 : ((i : Int) + 1).toNat = i + 1 := by omega
  have j8 : q.length + 1 - (i + 1) = q.length - i := by omega
  clear hcp1 hcp2 hfin hov hc1 hc2 hz1 hsa hsb hfa hfe htl htk hsz hm h hx hi hroom hbg hlt hgc
  go_enter Try.func30, Try.ntmps30
  have hov := HOV.out
  go_upto_region 15 with (simp only [hov])
  clear hov HOV
  refine z_enter [(0, true), (1, true), (2, true), (3, true), (4, true), (5, true), (6, true), (7, true), (8, false)] (fun _ => True) (by kernel_rfl) (by kernel_rfl) (by kernel_rfl) (fun _ _ d _ _ h => by cases d <;> exact h) trivial ?_
  simp only [pickL, List.drop_succ_cons, List.drop_zero]
  have HG1 : Hid (w.drew.heap[g]? = some (.cells cur 59 (0, 0))) := HG
  have HX1 : Hid (One1 w.drew b x) := HX
  have HB1 : Hid (Below B w w.drew) := Lib.hid (Below.refl B w).drew
  clear HG HX
  generalize w.drew = w1 at *
  iterate 8 (first | (refine' z_yes ?_ (by rfl) ?_ ?_; rotate_left; (intro w' hS; (try dsimp only at hS); go_simp; try (with_reducible rfl)); simp only [Act.put, List.setIfInBounds_toArray, List.set_cons_zero, List.set_cons_succ]) | (refine z_no (by rfl) ?_; simp only [Act.put, List.setIfInBounds_toArray, List.set_cons_zero, List.set_cons_succ]))
  refine z_mem ?_
  intro K hK
  rw [if_pos (by rfl)]
  refine wp_copy_td _ _ rfl _ _ rfl rfl (HC1.out w1 HG1.out _ _ _) ?_
  have HG2 : Hid ((w1.setRow g cur1).heap[g]? = some (.cells cur1 59 (0, 0))) := Lib.hid (setRow_heap w1 g cur cur1 _ _ HG1.out)
  have HX2 : Hid (One1 (w1.setRow g cur1) b x) := Lib.hid ((setRow_other w1 g b cur1 HGB.out.2).trans HX1.out)
  have HB2 : Hid (Below B w (w1.setRow g cur1)) := Lib.hid (setRow_below HB1.out g HGB.out.1 cur1)
  clear HG1 HX1 HB1 HC1
  generalize w1.setRow g cur1 = w2 at *
  refine hK.out _ _ trivial ?_
  clear hK
  refine z_nil ?_
  go_upto_region 16 with (fail)
  have hcp := fun ty dc sc => HC2.out w2 HG2.out HX2.out ty dc sc
  go_wp2_with (at_builtin; go_loud (refine wpList_copy_td rfl _ _ rfl _ _ rfl rfl (hcp _ _ _) ?_))
  clear hcp
  have HO3 : Hid (OwnT (w2.setRow g cur2) B (.slice (some ⟨g, 0, none⟩) (q.length + 1) c) (q.take i ++ x :: q.drop i)) := Lib.hid (HF.out _ (setRow_heap w2 g cur1 cur2 _ _ HG2.out))
  have HB3 : Hid (Below B w (w2.setRow g cur2)) := Lib.hid (setRow_below HB2.out g HGB.out.1 cur2)
  clear HG2 HX2 HB2 HC2 HF
  generalize w2.setRow g cur2 = w3 at *
  go_wp2_with fail
  go_ret
  exact ⟨_, rfl, HO3.out, HB3.out⟩

set_option maxRecDepth 100000 in
set_option maxHeartbeats 4000000 in
/-- In its midst, where there is no room. -/
theorem insert_grow (q : List Td) (x : Td) (B g i c b : Nat) (w : World) (hn : q.length ≤ 1000) (h : OwnT w B (.slice (some ⟨g, 0, none⟩) q.length c) q) (hB : B ≤ w.heap.size) (hi : i < q.length) (hroom : c < q.length + 1) (hx : One1 w b x) :
    Calls Try.prog 30 #[.slice (some ⟨g, 0, none⟩) q.length c, .int .i64 (i : Int), .slice (some ⟨b, 0, none⟩) 1 1] w (Inserts w B (q.take i ++ x :: q.drop i)) := by
  obtain ⟨i0, hi0, hz0, hzs, hzb⟩ := info_parts Try.infoTd
  obtain ⟨hnc, hl0⟩ : q.length ≤ c ∧ Ts w (some ⟨g, 0, none⟩) q := by
    obtain ⟨A, c', e, h1, h2⟩ := h.lst
    injection e with e1 _ e3; subst e1; subst e3
    exact ⟨h1, h2⟩
  have hgw : g < w.heap.size := by
    obtain ⟨ad, e, h1, _⟩ := hl0 0 (by omega)
    injection e with e; subst e; exact h1
  have hcs : ∀ j u, (tds q)[j]? = some u → w.cell? ⟨g, j, none⟩ = some u := fun j u hj => by
    have := hl0.cells j u hj
    rwa [show (⟨g, 0, none⟩ : Addr).add j = ⟨g, j, none⟩ by unfold Addr.add; split <;> simp_all] at this
  have hold : (Builtin.firstCells i0.size i (.slice (some ⟨g, 0, none⟩) i c)).run Try.prog w.drew = .ok (tds (q.take i)).toArray w.drew := by
    rw [hzs]
    exact run_firstCells_some w.drew 4 i ⟨g, 0, none⟩ i c (tds (q.take i)) (by rw [tds_len, List.length_take]; omega) (fun j u hj => by
      rw [tds_take] at hj
      have hl := (List.getElem?_eq_some_iff.1 hj).1
      rw [List.getElem?_take_of_lt (by rw [List.length_take] at hl; omega)] at hj
      exact hl0.cells j u hj)
  have hik : i + (q.length + 1 - i) = q.length + 1 := by omega
  obtain ⟨G, hG⟩ : ∃ G, G = grownCap w (q.length + 1) c 59 := ⟨_, rfl⟩
  have hkk : ((q.length : Int) + 1 - (i : Int)) = ((q.length + 1 - i : Nat) : Int) := by omega
  obtain ⟨cur, hcur⟩ : ∃ cur, cur = (tds (q.take i)).toArray ++ Builtin.zeroCells (Value.agg #[.int .i64 0, .int .u64 0, .int .i64 0, .int .i64 0]).cells (q.length + 1 - i) ++ Builtin.zeroCells (Value.agg #[.int .i64 0, .int .u64 0, .int .i64 0, .int .i64 0]).cells (G - (q.length + 1)) := ⟨_, rfl⟩
  have hrz : ∀ ty, (Builtin.append_ #[22, 3] ty #[.slice (some ⟨g, 0, none⟩) i c, .int .i64 ((q.length : Int) + 1 - (i : Int))]).run Try.prog w =
      .ok (.slice (some ⟨w.heap.size, 0, none⟩) (q.length + 1) G) (w.drew.alloc (.cells cur 59)) := fun ty => by
    have h := Lib.run_append_grow_zeros w 22 3 ty 59 i0 _ .i64 .i64 Try.underlying22 Try.underlying3 hi0 hz0 (some ⟨g, 0, none⟩) i c (tds (q.take i)) hold (q.length + 1 - i) (by omega) (by omega) (by omega) (by omega) (by rw [hzb]; omega) (by rw [hzb, hik]; exact growslice_fits hroom (by omega))
    rw [hik, ← hG, ← hcur] at h
    rw [hkk]
    exact h
  have hGn : q.length + 1 ≤ G := by rw [hG]; exact grownCap_ge w _ _ _
  have hGm : G ≤ maxLen := by rw [hG]; exact grownCap_le_maxLen w _ _ _ (by unfold maxLen; omega)
  have hsz : cur.size = G * 4 := by
    rw [hcur]
    simp only [Array.size_append, List.size_toArray, tds_len, List.length_take, size_zeroCells]
    rw [show (Value.agg #[.int .i64 0, .int .u64 0, .int .i64 0, .int .i64 0]).cells.size = 4 from rfl]
    omega
  obtain ⟨r, hr⟩ : ∃ r, r = w.heap.size := ⟨_, rfl⟩
  have hG0 : (w.drew.alloc (.cells cur 59)).heap[r]? = some (.cells cur 59 (0, 0)) := by
    rw [hr]
    show (w.heap.push _)[w.heap.size]? = _
    simp
  have hcl : cur.toList.take (i * 4) = tds (q.take i) := by
    rw [hcur]
    simp only [Array.toList_append, List.append_assoc]
    have : (tds (q.take i)).length = i * 4 := by rw [tds_len, List.length_take]; omega
    rw [List.take_append_of_le_length (by rw [this]; exact Nat.le_refl _), List.take_of_length_le (by rw [this]; exact Nat.le_refl _)]
  obtain ⟨cur1, hc1⟩ : ∃ cur1, cur1 = (cur.toList.take (i * 4) ++ tds1 x ++ cur.toList.drop (i * 4 + 1 * 4)).toArray := ⟨_, rfl⟩
  have hcp1 : ∀ W : World, W.heap[r]? = some (.cells cur 59 (0, 0)) → One1 W b x → ∀ ty dc sc, (Builtin.copy_ #[22, 22] ty #[.slice (some ⟨r, i * 4, none⟩) (q.length + 1 - i) dc, .slice (some ⟨b, 0, none⟩) 1 sc]).run Try.prog W = .ok (goInt (1 : Nat)) (W.setRow r cur1) := fun W hW hX ty dc sc => by
    rw [hc1]
    exact run_copy_td W ty r (i * 4) (q.length + 1 - i) dc cur 59 ⟨b, 0, none⟩ 1 sc 1 (tds1 x) hW (Nat.min_eq_left (by omega)) rfl (fun j u hj => hX.cells j u hj) (fun u hu => by simp [tds1] at hu; rcases hu with rfl | rfl | rfl | rfl <;> rfl) (by omega)
  have hz1 : cur1.size = G * 4 := by
    rw [hc1]
    simp only [List.size_toArray, List.length_append, List.length_take, List.length_drop, Array.length_toList, hsz, tds1, List.length_cons, List.length_nil]
    omega
  obtain ⟨cur2, hc2⟩ : ∃ cur2, cur2 = (cur1.toList.take ((i + 1) * 4) ++ (tds q).drop (i * 4) ++ cur1.toList.drop ((i + 1) * 4 + (q.length - i) * 4)).toArray := ⟨_, rfl⟩
  have hcp2 : ∀ W : World, W.heap[r]? = some (.cells cur1 59 (0, 0)) → (∀ j u, (tds q)[j]? = some u → W.cell? ⟨g, j, none⟩ = some u) → ∀ ty dc sc, (Builtin.copy_ #[22, 22] ty #[.slice (some ⟨r, (i + 1) * 4, none⟩) (q.length - i) dc, .slice (some ⟨g, i * 4, none⟩) (q.length - i) sc]).run Try.prog W = .ok (goInt (q.length - i : Nat)) (W.setRow r cur2) := fun W hW hS ty dc sc => by
    rw [hc2]
    refine run_copy_td W ty r ((i + 1) * 4) (q.length - i) dc cur1 59 ⟨g, i * 4, none⟩ (q.length - i) sc (q.length - i) ((tds q).drop (i * 4)) hW (Nat.min_self _) (by rw [List.length_drop, tds_len]; omega) (fun j u hj => ?_) (fun u hu => tds_one q u (List.mem_of_mem_drop hu)) (by omega)
    rw [Addr.add_lit]
    rw [List.getElem?_drop] at hj
    exact hS _ u hj
  have hfin : ∀ W : World, W.heap[r]? = some (.cells cur2 59 (0, 0)) → OwnT W B (.slice (some ⟨r, 0, none⟩) (q.length + 1) G) (q.take i ++ x :: q.drop i) := fun W hW => by
    have hl : (q.take i ++ x :: q.drop i).length = q.length + 1 := by simp; omega
    refine ⟨by rw [tds_len], .inr ⟨r, G, cur2, by rw [hl], by omega, hW, by omega, hGm, ?_, ?_⟩⟩
    · rw [hc2]
      simp only [List.size_toArray, List.length_append, List.length_take, List.length_drop, Array.length_toList, hz1, tds_len]
      omega
    · rw [hl, tds_ins q x i, hc2, ← tds_take, ← hcl]
      simp only
      have e1 : cur1.toList.take ((i + 1) * 4) = cur.toList.take (i * 4) ++ tds1 x := by
        rw [hc1]
        simp only
        have : (cur.toList.take (i * 4) ++ tds1 x).length = (i + 1) * 4 := by simp only [List.length_append, List.length_take, Array.length_toList, hsz, tds1, List.length_cons, List.length_nil]; omega
        rw [List.take_append_of_le_length (by omega), List.take_of_length_le (by omega)]
      have a3 : (cur1.toList.take ((i + 1) * 4) ++ (tds q).drop (i * 4)).length = (q.length + 1) * 4 := by simp only [List.length_append, List.length_take, List.length_drop, Array.length_toList, hz1, tds_len]; omega
      rw [List.take_append_of_le_length (by omega), List.take_of_length_le (by omega), e1]
  have HRZ := Lib.hid hrz
  have HC1 := Lib.hid (fun (W : World) h k => hcp1 W h k)
  have HC2 := Lib.hid (fun (W : World) h k => hcp2 W h k)
  have HF := Lib.hid hfin
  have HX : Hid (One1 (w.drew.alloc (.cells cur 59)) b x) := Lib.hid (hx.on (((Below.refl _ w).drew).alloc (Nat.le_refl _) _) hx.lt)
  have HS : Hid (∀ j u, (tds q)[j]? = some u → (w.drew.alloc (.cells cur 59)).cell? ⟨g, j, none⟩ = some u) := Lib.hid (fun j u hj => ((((Below.refl _ w).drew).alloc (Nat.le_refl _) (.cells cur 59)).cell hgw).trans (hcs j u hj))
  have HGB := Lib.hid (show B ≤ r ∧ b ≠ r ∧ g ≠ r from ⟨by omega, by have := hx.lt; omega, by omega⟩)
  have HG1 := Lib.hid hG0
  have HB1 : Hid (Below B w (w.drew.alloc (.cells cur 59))) := Lib.hid (((Below.refl B w).drew).alloc hB _)
  rw [← hr] at HRZ
  have hw1 : IntKind.i64.wrap ((q.length : Int) + 1) = (q.length : Int) + 1 := by rw [IntWalk.i64_in _ (by omega)]
  have hw2 : IntKind.i64.wrap ((i : Int) + 1) = (i : Int) + 1 := by rw [IntWalk.i64_in _ (by omega)]
  have hw3 : IntKind.i64.wrap ((q.length : Int) + 1 - (i : Int)) = (q.length : Int) + 1 - (i : Int) := by rw [IntWalk.i64_in _ (by omega)]
  have hG63 : (G : Int) ≤ 9223372036854775807 := by unfold maxLen at hGm; omega
  have i0 : (0 : Int) ≤ (i : Int) := by omega
  have i1 : (i : Int) ≤ (q.length : Int) := by omega
  have i1' : i ≤ q.length := by omega
  have i2 : ¬(i : Int) = (q.length : Int) := by omega
  have i2' : ¬i = q.length := by omega
  have i3 : ¬c = i := by omega
  have i4 : ¬G = i + 1 := by omega
  have i5 : ¬G = i := by omega
  have j0 : (c : Int) < (q.length : Int) + 1 := by omega
  have j0' : c < q.length + 1 := by omega
  have j1 : (i : Int) ≤ (c : Int) := by omega
  have j1' : i ≤ c := by omega
  have j3 : (0 : Int) ≤ (i : Int) + 1 := by omega
  have j4 : (i : Int) + 1 ≤ (q.length : Int) + 1 := by omega
  have j4' : i + 1 ≤ q.length + 1 := by omega
  have j5 : (i : Int) ≤ (q.length : Int) + 1 := by omega
  have j5' : i ≤ q.length + 1 := by omega
  have j7 : ((i : Int) + 1).toNat = i + 1 := by omega
  have j8 : q.length + 1 - (i + 1) = q.length - i := by omega
  clear hcp1 hcp2 hfin hc1 hc2 hz1 hx hi hroom hgw hcs hold hik hG hkk hcur hrz hGn hGm hsz hG0 hcl h hl0 hB hnc hr hi0 hz0 hzs hzb i0
  have i0 : (0 : Int) ≤ (i : Int) := by omega
  go_enter Try.func30, Try.ntmps30
  go_upto_region 9 with (fail)
  have hrz := HRZ.out
  go_upto_region 10 with (at_builtin; refine Lib.wpList_append_run _ rfl _ _ _ _ rfl _ _ rfl rfl _ _ (hrz _) ?_)
  clear hrz HRZ
  have HX1 : Hid (One1 (w.alloc (.cells cur 59)).drew b x) := HX
  have HS1 : Hid (∀ j u, (tds q)[j]? = some u → (w.alloc (.cells cur 59)).drew.cell? ⟨g, j, none⟩ = some u) := HS
  have HG2 : Hid ((w.alloc (.cells cur 59)).drew.heap[r]? = some (.cells cur 59 (0, 0))) := HG1
  have HB2 : Hid (Below B w (w.alloc (.cells cur 59)).drew) := HB1
  clear HX HS HG1 HB1
  generalize (w.alloc (.cells cur 59)).drew = w1 at *
  have hcp := fun ty dc sc => HC1.out w1 HG2.out HX1.out ty dc sc
  go_upto_region 11 with (at_builtin; refine wpList_copy_td rfl _ _ rfl _ _ rfl rfl (hcp _ _ _) ?_)
  clear hcp
  have HG3 : Hid ((w1.setRow r cur1).drew.heap[r]? = some (.cells cur1 59 (0, 0))) := Lib.hid (setRow_heap w1 r cur cur1 _ _ HG2.out)
  have HS3 : Hid (∀ j u, (tds q)[j]? = some u → (w1.setRow r cur1).drew.cell? ⟨g, j, none⟩ = some u) := Lib.hid (fun j u hj => (World.cell?_of_block (a := ⟨g, j, none⟩) (setRow_other w1 r g cur1 HGB.out.2.2)).trans (HS1.out j u hj))
  have HB3 : Hid (Below B w (w1.setRow r cur1).drew) := Lib.hid (setRow_below HB2.out r HGB.out.1 cur1).drew
  clear HG2 HX1 HS1 HB2 HC1
  generalize w1.setRow r cur1 = w2 at *
  refine z_enter [(0, true), (1, true), (2, true), (3, true), (4, true), (5, true), (6, true), (7, true), (8, false)] (fun _ => True) (by kernel_rfl) (by kernel_rfl) (by kernel_rfl) (fun _ _ d _ _ h => by cases d <;> exact h) trivial ?_
  simp only [pickL, List.drop_succ_cons, List.drop_zero]
  generalize w2.drew = w3 at *
  iterate 8 (first | (refine' z_yes ?_ (by rfl) ?_ ?_; rotate_left; (intro w' hS; (try dsimp only at hS); go_simp; try (with_reducible rfl)); simp only [Act.put, List.setIfInBounds_toArray, List.set_cons_zero, List.set_cons_succ]) | (refine z_no (by rfl) ?_; simp only [Act.put, List.setIfInBounds_toArray, List.set_cons_zero, List.set_cons_succ]))
  refine z_mem ?_
  intro K hK
  rw [if_pos (by rfl)]
  refine wp_copy_td _ _ rfl _ _ rfl rfl (HC2.out w3 HG3.out HS3.out _ _ _) ?_
  have HO4 : Hid (OwnT (w3.setRow r cur2) B (.slice (some ⟨r, 0, none⟩) (q.length + 1) G) (q.take i ++ x :: q.drop i)) := Lib.hid (HF.out _ (setRow_heap w3 r cur1 cur2 _ _ HG3.out))
  have HB4 : Hid (Below B w (w3.setRow r cur2)) := Lib.hid (setRow_below HB3.out r HGB.out.1 cur2)
  clear HG3 HS3 HB3 HC2 HF
  generalize w3.setRow r cur2 = w4 at *
  refine hK.out _ _ trivial ?_
  clear hK
  refine z_nil ?_
  go_wp2_with fail
  go_ret
  exact ⟨_, rfl, HO4.out, HB4.out⟩

theorem insert_any (q : List Td) (x : Td) (B : Nat) (A : Option Addr) (i c b : Nat) (w : World) (hn : q.length ≤ 1000) (h : OwnT w B (.slice A q.length c) q) (hB : B ≤ w.heap.size) (hi : i ≤ q.length) (hx : One1 w b x) (hb : ∀ ad, A = some ad → b ≠ ad.block) :
    Calls Try.prog 30 #[.slice A q.length c, .int .i64 (i : Int), .slice (some ⟨b, 0, none⟩) 1 1] w (Inserts w B (q.take i ++ x :: q.drop i)) := by
  by_cases he : i = q.length
  · subst he
    have := insert_end q x B A c b w hn h hB hx
    rwa [List.take_length, List.drop_length]
  · obtain ⟨g, c', e, hg, hlt, hc, hm, hf⟩ := h.opened (by omega)
    injection e with e1 _ e3
    subst e1; subst e3
    by_cases hr : q.length < c
    · exact insert_room q x B g i c b w hn h (by omega) hr hx (hb _ rfl)
    · exact insert_grow q x B g i c b w hn h hB (by omega) (by omega) hx
end Go.Proofs.Ytipepmnnjhhjbaa
