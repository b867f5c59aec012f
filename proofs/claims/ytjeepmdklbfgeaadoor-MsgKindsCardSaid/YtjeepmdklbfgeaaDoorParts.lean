/-
  The table of the parts: what may be done with each of its entries; the walk of what makes it.
-/
import Derived.Test.YtjeepmdklbfgeaaDoorLayP
import Derived.Test.YtjeepmdklbfgeaaDoorTakeP
import Derived.Maps.OwnSet
import Derived.Maps.RangeWalk
import Derived.Laws.EntriesVeiled
namespace Go.Proofs.YtjeepmdklbfgeaaDoor
open Go.Sort Go.RowKit Go.Proofs.YtjeepmdklbfgeaaDoor.Pure Go.Proofs.YtjeepmdklbfgeaaDoor.W Go.Proofs.YtjeepmdklbfgeaaDoor.W.Pure
open Go.Maps (Keyed int_keyed keyOf_int_mk IsMap)

/-- What was made from B on is as it was. -/
def Same (B : Nat) (w W : World) : Prop := w.heap.size ≤ W.heap.size ∧ ∀ k, B ≤ k → k < w.heap.size → W.heap[k]? = w.heap[k]?
theorem Same.refl (B : Nat) (w : World) : Same B w w := ⟨Nat.le_refl _, fun _ _ _ => rfl⟩
theorem Same.below {B : Nat} {w W : World} (h : Below w.heap.size w W) : Same B w W := ⟨h.size, fun k _ hk => h.block k hk⟩
theorem Same.cell {B : Nat} {w W : World} (h : Same B w W) {g : Nat} (hg : B ≤ g) {v : Value} (hc : w.cell? ⟨g, 0, none⟩ = some v) : W.cell? ⟨g, 0, none⟩ = some v :=
  (World.cell?_of_block (h.2 g hg (World.block_lt_of_cell? w _ hc))).trans hc
def FMay (n : Nat) (c : List Value) (i : Nat) (W : World) : Prop := ∀ (m : Mg) (u : Value), MsgV W u m → Calls Tryd.prog n (u :: c).toArray W fun e w' => e = .returned (.bool (mayP i m)) ∧ Below W.heap.size W w'
def FZero (n : Nat) (c : List Value) (i : Nat) (W : World) : Prop := ∀ (m : Mg) (u : Value), MsgV W u m → Calls Tryd.prog n (u :: c).toArray W fun e w' => e = .returned (.bool (zeroP i m)) ∧ Below W.heap.size W w'
def FLay (n : Nat) (c : List Value) (i : Nat) (W : World) : Prop := ∀ (m : Mg) (u : Value), MsgV W u m → Wf m → mayP i m = true → Calls Tryd.prog n (u :: c).toArray W fun e w' => e = .returned (.string (tx (layP i m))) ∧ Below W.heap.size W w'
def FTake (B n : Nat) (c : List Value) (i : Nat) (W : World) : Prop := ∀ (s : ByteArray) (t : Tk) (m : Mg) (bt bm : Nat) (nv tv : Value), s.size ≤ 140737488351232 → t.p ≤ s.size → bt < bm → bm < B → TkAt W bt s t → MD W bm m nv tv →
  Calls Tryd.prog n (.pointer (some ⟨bt, 0, none⟩) :: .pointer (some ⟨bm, 0, none⟩) :: c).toArray W fun e w' => e = .returned (.tuple #[]) ∧ LeftM W bt s bm (takeP s i m t) w'
/-- The value v is the table's entry of part i. -/
def PSem (B : Nat) (w : World) (i : Nat) (v : Value) : Prop :=
  ∃ (nm nz nl nt : Nat) (cm cz cl ct : List Value), v = .agg #[.func (.func nm) #[] cm.toArray, .func (.func nz) #[] cz.toArray, .func (.func nl) #[] cl.toArray, .func (.func nt) #[] ct.toArray] ∧
    (Enters Tryd.prog nm ∧ Enters Tryd.prog nz ∧ Enters Tryd.prog nl ∧ Enters Tryd.prog nt) ∧
    ∀ W, Same B w W → FMay nm cm i W ∧ FZero nz cz i W ∧ FLay nl cl i W ∧ FTake B nt ct i W
theorem PSem.same {B : Nat} {w w' : World} {i : Nat} {v : Value} (h : PSem B w i v) (hs : Same B w w') : PSem B w' i v := by
  obtain ⟨nm, nz, nl, nt, cm, cz, cl, ct, e, hE, hW⟩ := h
  exact ⟨nm, nz, nl, nt, cm, cz, cl, ct, e, hE, fun W hS => hW W ⟨Nat.le_trans hs.1 hS.1, fun k h1 h2 => (hS.2 k h1 (Nat.lt_of_lt_of_le h2 hs.1)).trans (hs.2 k h1 h2)⟩⟩
theorem ent_always : Enters Tryd.prog 95 := enters_of Tryd.func95 (by kernel_rfl) rfl
theorem ent_number_1 : Enters Tryd.prog 104 := enters_of Tryd.func104 (by kernel_rfl) rfl
theorem ent_number_2 : Enters Tryd.prog 105 := enters_of Tryd.func105 (by kernel_rfl) rfl
theorem ent_number_3 : Enters Tryd.prog 106 := enters_of Tryd.func106 (by kernel_rfl) rfl
theorem ent_parts_1 : Enters Tryd.prog 48 := enters_of Tryd.func48 (by kernel_rfl) rfl
theorem ent_parts_10 : Enters Tryd.prog 57 := enters_of Tryd.func57 (by kernel_rfl) rfl
theorem ent_parts_11 : Enters Tryd.prog 58 := enters_of Tryd.func58 (by kernel_rfl) rfl
theorem ent_parts_12 : Enters Tryd.prog 59 := enters_of Tryd.func59 (by kernel_rfl) rfl
theorem ent_parts_13 : Enters Tryd.prog 61 := enters_of Tryd.func61 (by kernel_rfl) rfl
theorem ent_parts_14 : Enters Tryd.prog 63 := enters_of Tryd.func63 (by kernel_rfl) rfl
theorem ent_parts_15 : Enters Tryd.prog 64 := enters_of Tryd.func64 (by kernel_rfl) rfl
theorem ent_parts_16 : Enters Tryd.prog 66 := enters_of Tryd.func66 (by kernel_rfl) rfl
theorem ent_parts_17 : Enters Tryd.prog 68 := enters_of Tryd.func68 (by kernel_rfl) rfl
theorem ent_parts_18 : Enters Tryd.prog 70 := enters_of Tryd.func70 (by kernel_rfl) rfl
theorem ent_parts_19 : Enters Tryd.prog 71 := enters_of Tryd.func71 (by kernel_rfl) rfl
theorem ent_parts_2 : Enters Tryd.prog 49 := enters_of Tryd.func49 (by kernel_rfl) rfl
theorem ent_parts_20 : Enters Tryd.prog 74 := enters_of Tryd.func74 (by kernel_rfl) rfl
theorem ent_parts_21 : Enters Tryd.prog 77 := enters_of Tryd.func77 (by kernel_rfl) rfl
theorem ent_parts_22 : Enters Tryd.prog 79 := enters_of Tryd.func79 (by kernel_rfl) rfl
theorem ent_parts_23 : Enters Tryd.prog 80 := enters_of Tryd.func80 (by kernel_rfl) rfl
theorem ent_parts_24 : Enters Tryd.prog 82 := enters_of Tryd.func82 (by kernel_rfl) rfl
theorem ent_parts_25 : Enters Tryd.prog 84 := enters_of Tryd.func84 (by kernel_rfl) rfl
theorem ent_parts_26 : Enters Tryd.prog 85 := enters_of Tryd.func85 (by kernel_rfl) rfl
theorem ent_parts_27 : Enters Tryd.prog 86 := enters_of Tryd.func86 (by kernel_rfl) rfl
theorem ent_parts_28 : Enters Tryd.prog 87 := enters_of Tryd.func87 (by kernel_rfl) rfl
theorem ent_parts_29 : Enters Tryd.prog 89 := enters_of Tryd.func89 (by kernel_rfl) rfl
theorem ent_parts_3 : Enters Tryd.prog 50 := enters_of Tryd.func50 (by kernel_rfl) rfl
theorem ent_parts_30 : Enters Tryd.prog 90 := enters_of Tryd.func90 (by kernel_rfl) rfl
theorem ent_parts_31 : Enters Tryd.prog 91 := enters_of Tryd.func91 (by kernel_rfl) rfl
theorem ent_parts_32 : Enters Tryd.prog 93 := enters_of Tryd.func93 (by kernel_rfl) rfl
theorem ent_parts_33 : Enters Tryd.prog 96 := enters_of Tryd.func96 (by kernel_rfl) rfl
theorem ent_parts_34 : Enters Tryd.prog 97 := enters_of Tryd.func97 (by kernel_rfl) rfl
theorem ent_parts_35 : Enters Tryd.prog 99 := enters_of Tryd.func99 (by kernel_rfl) rfl
theorem ent_parts_4 : Enters Tryd.prog 51 := enters_of Tryd.func51 (by kernel_rfl) rfl
theorem ent_parts_5 : Enters Tryd.prog 52 := enters_of Tryd.func52 (by kernel_rfl) rfl
theorem ent_parts_6 : Enters Tryd.prog 53 := enters_of Tryd.func53 (by kernel_rfl) rfl
theorem ent_parts_7 : Enters Tryd.prog 54 := enters_of Tryd.func54 (by kernel_rfl) rfl
theorem ent_parts_8 : Enters Tryd.prog 55 := enters_of Tryd.func55 (by kernel_rfl) rfl
theorem ent_parts_9 : Enters Tryd.prog 56 := enters_of Tryd.func56 (by kernel_rfl) rfl
theorem psem1 (B : Nat) (w : World) : PSem B w 1 (.agg #[.func (.func 56) #[] #[], .func (.func 57) #[] #[], .func (.func 58) #[] #[], .func (.func 59) #[] #[]]) :=
  ⟨_, _, _, _, [], [], [], [], rfl, ⟨ent_parts_9, ent_parts_10, ent_parts_11, ent_parts_12⟩, fun W _ => ⟨fun m u h => may1_any m u W h, fun m u h => zero1_any m u W h, fun m u h hw hm => lay1_any m u W h hw hm, fun s t m bt bm nv tv hs ht hlt _ hT hM => take1_any s t m bt bm nv tv W hs ht hlt hT hM⟩⟩
theorem psem2 (B : Nat) (w : World) : PSem B w 2 (.agg #[.func (.func 61) #[] #[], .func (.func 63) #[] #[], .func (.func 64) #[] #[], .func (.func 66) #[] #[]]) :=
  ⟨_, _, _, _, [], [], [], [], rfl, ⟨ent_parts_13, ent_parts_14, ent_parts_15, ent_parts_16⟩, fun W _ => ⟨fun m u h => may2_any m u W h, fun m u h => zero2_any m u W h, fun m u h hw hm => lay2_any m u W h hw hm, fun s t m bt bm nv tv hs ht hlt _ hT hM => take2_any s t m bt bm nv tv W hs ht hlt hT hM⟩⟩
theorem psem3 (B : Nat) (w : World) : PSem B w 3 (.agg #[.func (.func 68) #[] #[], .func (.func 70) #[] #[], .func (.func 71) #[] #[], .func (.func 74) #[] #[]]) :=
  ⟨_, _, _, _, [], [], [], [], rfl, ⟨ent_parts_17, ent_parts_18, ent_parts_19, ent_parts_20⟩, fun W _ => ⟨fun m u h => may3_any m u W h, fun m u h => zero3_any m u W h, fun m u h hw hm => lay3_any m u W h hw hm, fun s t m bt bm nv tv hs ht hlt _ hT hM => take3_any s t m bt bm nv tv W hs ht hlt hT hM⟩⟩
theorem psem4 (B : Nat) (w : World) : PSem B w 4 (.agg #[.func (.func 77) #[] #[], .func (.func 79) #[] #[], .func (.func 80) #[] #[], .func (.func 82) #[] #[]]) :=
  ⟨_, _, _, _, [], [], [], [], rfl, ⟨ent_parts_21, ent_parts_22, ent_parts_23, ent_parts_24⟩, fun W _ => ⟨fun m u h => may4_any m u W h, fun m u h => zero4_any m u W h, fun m u h hw hm => lay4_any m u W h hw hm, fun s t m bt bm nv tv hs ht hlt _ hT hM => take4_any s t m bt bm nv tv W hs ht hlt hT hM⟩⟩
theorem psem7 (B : Nat) (w : World) : PSem B w 7 (.agg #[.func (.func 84) #[] #[], .func (.func 85) #[] #[], .func (.func 86) #[] #[], .func (.func 87) #[] #[]]) :=
  ⟨_, _, _, _, [], [], [], [], rfl, ⟨ent_parts_25, ent_parts_26, ent_parts_27, ent_parts_28⟩, fun W _ => ⟨fun m u h => may7_any m u W h, fun m u h => zero7_any m u W h, fun m u h hw hm => lay7_any m u W h hw hm, fun s t m bt bm nv tv hs ht hlt _ hT hM => take7_any s t m bt bm nv tv W hs ht hlt hT hM⟩⟩
theorem psem8 (B : Nat) (w : World) : PSem B w 8 (.agg #[.func (.func 89) #[] #[], .func (.func 90) #[] #[], .func (.func 91) #[] #[], .func (.func 93) #[] #[]]) :=
  ⟨_, _, _, _, [], [], [], [], rfl, ⟨ent_parts_29, ent_parts_30, ent_parts_31, ent_parts_32⟩, fun W _ => ⟨fun m u h => may8_any m u W h, fun m u h => zero8_any m u W h, fun m u h hw hm => lay8_any m u W h hw hm, fun s t m bt bm nv tv hs ht hlt _ hT hM => take8_any s t m bt bm nv tv W hs ht hlt hT hM⟩⟩
theorem psem10 (B : Nat) (w : World) : PSem B w 10 (.agg #[.func (.func 95) #[] #[], .func (.func 96) #[] #[], .func (.func 97) #[] #[], .func (.func 99) #[] #[]]) :=
  ⟨_, _, _, _, [], [], [], [], rfl, ⟨ent_always, ent_parts_33, ent_parts_34, ent_parts_35⟩, fun W _ => ⟨fun m u h => always_any m u W h, fun m u h => zero10_any m u W h, fun m u h hw hm => lay10_any m u W h hw hm, fun s t m bt bm nv tv hs ht hlt _ hT hM => take10_any s t m bt bm nv tv W hs ht hlt hT hM⟩⟩
/-- Two function values lie in blocks of their own. -/
def NumAt (B : Nat) (w : World) (g1 g2 f p : Nat) : Prop := B ≤ g1 ∧ B ≤ g2 ∧ w.cell? ⟨g1, 0, none⟩ = some (.func (.func f) #[] #[]) ∧ w.cell? ⟨g2, 0, none⟩ = some (.func (.func p) #[] #[])
def numV (g1 g2 : Nat) : Value := .agg #[.func (.func 95) #[] #[], .func (.func 104) #[] #[.pointer (some ⟨g1, 0, none⟩)], .func (.func 105) #[] #[.pointer (some ⟨g1, 0, none⟩)], .func (.func 106) #[] #[.pointer (some ⟨g2, 0, none⟩)]]
theorem psem0 (B : Nat) (w : World) (g1 g2 : Nat) (h : NumAt B w g1 g2 48 49) : PSem B w 0 (numV g1 g2) := by
  obtain ⟨h1, h2, c1, c2⟩ := h
  refine ⟨_, _, _, _, [], [.pointer (some ⟨g1, 0, none⟩)], [.pointer (some ⟨g1, 0, none⟩)], [.pointer (some ⟨g2, 0, none⟩)], rfl, ⟨ent_always, ent_number_1, ent_number_2, ent_number_3⟩, fun W hS => ⟨fun m u h => always_any m u W h, fun m u h => ?_, fun m u h hw _ => ?_, fun s t m bt bm nv tv hs ht hlt hB hT hM => ?_⟩⟩
  · exact zeronum_any _ g1 m.sq m u W h (hS.cell h1 c1) ent_parts_1 (fun W h => of0_any m u W h)
  · exact laynum_any _ g1 m.sq m u W h hw.sq (hS.cell h1 c1) ent_parts_1 (fun W h => of0_any m u W h)
  · exact takenum_any _ g2 3 (.int .u64 (m.sq : Int)) s t m { m with sq := (tnum s 18446744073709551615 t).1 } bt bm nv tv W hs ht hlt hT hM (hS.cell h2 c2) (by omega) (by omega) ent_parts_2 (by decide) rfl (fun n W hc hf => put0_any n bm _ W hc hf) rfl rfl rfl
theorem psem5 (B : Nat) (w : World) (g1 g2 : Nat) (h : NumAt B w g1 g2 50 51) : PSem B w 5 (numV g1 g2) := by
  obtain ⟨h1, h2, c1, c2⟩ := h
  refine ⟨_, _, _, _, [], [.pointer (some ⟨g1, 0, none⟩)], [.pointer (some ⟨g1, 0, none⟩)], [.pointer (some ⟨g2, 0, none⟩)], rfl, ⟨ent_always, ent_number_1, ent_number_2, ent_number_3⟩, fun W hS => ⟨fun m u h => always_any m u W h, fun m u h => ?_, fun m u h hw _ => ?_, fun s t m bt bm nv tv hs ht hlt hB hT hM => ?_⟩⟩
  · exact zeronum_any _ g1 m.ep m u W h (hS.cell h1 c1) ent_parts_3 (fun W h => of5_any m u W h)
  · exact laynum_any _ g1 m.ep m u W h hw.ep (hS.cell h1 c1) ent_parts_3 (fun W h => of5_any m u W h)
  · exact takenum_any _ g2 9 (.int .u64 (m.ep : Int)) s t m { m with ep := (tnum s 18446744073709551615 t).1 } bt bm nv tv W hs ht hlt hT hM (hS.cell h2 c2) (by omega) (by omega) ent_parts_4 (by decide) rfl (fun n W hc hf => put5_any n bm _ W hc hf) rfl rfl rfl
theorem psem6 (B : Nat) (w : World) (g1 g2 : Nat) (h : NumAt B w g1 g2 52 53) : PSem B w 6 (numV g1 g2) := by
  obtain ⟨h1, h2, c1, c2⟩ := h
  refine ⟨_, _, _, _, [], [.pointer (some ⟨g1, 0, none⟩)], [.pointer (some ⟨g1, 0, none⟩)], [.pointer (some ⟨g2, 0, none⟩)], rfl, ⟨ent_always, ent_number_1, ent_number_2, ent_number_3⟩, fun W hS => ⟨fun m u h => always_any m u W h, fun m u h => ?_, fun m u h hw _ => ?_, fun s t m bt bm nv tv hs ht hlt hB hT hM => ?_⟩⟩
  · exact zeronum_any _ g1 m.bo m u W h (hS.cell h1 c1) ent_parts_5 (fun W h => of6_any m u W h)
  · exact laynum_any _ g1 m.bo m u W h hw.bo (hS.cell h1 c1) ent_parts_5 (fun W h => of6_any m u W h)
  · exact takenum_any _ g2 10 (.int .u64 (m.bo : Int)) s t m { m with bo := (tnum s 18446744073709551615 t).1 } bt bm nv tv W hs ht hlt hT hM (hS.cell h2 c2) (by omega) (by omega) ent_parts_6 (by decide) rfl (fun n W hc hf => put6_any n bm _ W hc hf) rfl rfl rfl
theorem psem9 (B : Nat) (w : World) (g1 g2 : Nat) (h : NumAt B w g1 g2 54 55) : PSem B w 9 (numV g1 g2) := by
  obtain ⟨h1, h2, c1, c2⟩ := h
  refine ⟨_, _, _, _, [], [.pointer (some ⟨g1, 0, none⟩)], [.pointer (some ⟨g1, 0, none⟩)], [.pointer (some ⟨g2, 0, none⟩)], rfl, ⟨ent_always, ent_number_1, ent_number_2, ent_number_3⟩, fun W hS => ⟨fun m u h => always_any m u W h, fun m u h => ?_, fun m u h hw _ => ?_, fun s t m bt bm nv tv hs ht hlt hB hT hM => ?_⟩⟩
  · exact zeronum_any _ g1 m.tn m u W h (hS.cell h1 c1) ent_parts_7 (fun W h => of9_any m u W h)
  · exact laynum_any _ g1 m.tn m u W h hw.tn (hS.cell h1 c1) ent_parts_7 (fun W h => of9_any m u W h)
  · exact takenum_any _ g2 13 (.int .u64 (m.tn : Int)) s t m { m with tn := (tnum s 18446744073709551615 t).1 } bt bm nv tv W hs ht hlt hT hM (hS.cell h2 c2) (by omega) (by omega) ent_parts_8 (by decide) rfl (fun n W hc hf => put9_any n bm _ W hc hf) rfl rfl rfl
set_option maxRecDepth 100000 in
set_option maxHeartbeats 4000000 in
theorem number_fn (f p : Nat) (w : World) : Calls Tryd.prog 47 #[.func (.func f) #[] #[], .func (.func p) #[] #[]] w fun e w' => ∃ g1 g2, e = .returned (numV g1 g2) ∧ NumAt w.heap.size w' g1 g2 f p ∧ Below w.heap.size w w' := by
  go_enter Tryd.func47, Tryd.ntmps47
  go_wp2_with fail
  refine bodyPost_ret (v := numV w.heap.size (w.heap.size + 1)) (by simp [results, Tryd.results47, go_sem, numV]) rfl ⟨_, _, rfl, ⟨Nat.le_refl _, by omega, by go_simp, by go_simp⟩, ?_⟩
  exact (((Below.refl _ _).alloc (Nat.le_refl _) _).alloc (by simp) _).alloc (by simp; omega) _

/-! ### the map -/
theorem zeroP57 (w : World) : (zeroValue 57).run Tryd.prog w = .ok (.agg #[.nilFunc, .nilFunc, .nilFunc, .nilFunc]) w := by kernel_rfl
theorem intKeyed3 : Keyed Tryd.prog 3 := int_keyed Tryd.underlying3
/-- How an element reads: as itself. -/
def anyR : Value → Option (DataW Value × List MemPlace) := fun v => some (.held v, [])
/-- Block g is a map that holds f. -/
def Mp (w : World) (g : Nat) (f : Int → Option Value) : Prop :=
  ∃ (n : Nat) (D : DataW Value), n ≤ 1000 ∧ w.ownsMap Tryd.prog 3 anyR g n D ∧ (∀ k : Int, Maps.has D (.int .i64 k) = (f k).isSome) ∧ (∀ (k : Int) (z : Value), D.atKey (.int .i64 k) (.held z) = .held ((f k).getD z))
def putM (f : Int → Option Value) (k : Int) (v : Value) : Int → Option Value := fun y => if y = k then some v else f y
/-- The map has no more than n entries. -/
def MpN (w : World) (g n : Nat) (f : Int → Option Value) : Prop :=
  ∃ (D : DataW Value), w.ownsMap Tryd.prog 3 anyR g n D ∧ (∀ k : Int, Maps.has D (.int .i64 k) = (f k).isSome) ∧ (∀ (k : Int) (z : Value), D.atKey (.int .i64 k) (.held z) = .held ((f k).getD z))
section
variable {w w' : World} {g n : Nat} {f : Int → Option Value}
theorem MpN.made (w : World) : MpN (w.alloc (.map #[] 0)) w.heap.size 0 (fun _ => none) :=
  ⟨.map [], World.ownsMap_made _ _ _ _, fun k => by simp [Maps.has], fun k z => by simp [DataW.atKey]⟩
theorem MpN.kept {row : Option Nat} (h : MpN w g n f) (hg : w.grownBy w' row) (hne : some g ≠ row) : MpN w' g n f := by
  obtain ⟨D, h1, h2⟩ := h
  exact ⟨D, h1.kept hg hne, h2⟩
theorem MpN.on (h : MpN w g n f) (hb : Below w.heap.size w w') : MpN w' g n f :=
  h.kept (row := none) ⟨hb.os, hb.tape, hb.output, hb.size, fun b hb' _ => hb.block b hb'⟩ (by simp)
theorem MpN.lt (h : MpN w g n f) : g < w.heap.size := by
  obtain ⟨D, h1, _⟩ := h
  exact h1.lt
theorem MpN.apart (h : MpN w g n f) {a : Addr} {v : Value} (hc : w.cell? a = some v) : a.block ≠ g := fun e => by
  obtain ⟨D, ⟨es, clock, hb, _⟩, _⟩ := h
  unfold World.cell? at hc
  rw [e, hb] at hc
  cases hc
theorem key_wf {k : Int} (h : 0 ≤ k ∧ k < 64) : (Lit.int .i64 k).wf = true := by
  simp [Lit.wf, IntKind.min, IntKind.max, IntKind.signed, IntKind.bits]
  omega
set_option maxRecDepth 100000 in
/-- m[k] = v. -/
theorem MpN.put (h : MpN w g n f) (hn : n < 1000) (k : Int) (hk : 0 ≤ k ∧ k < 64) (v : Value) :
    ∃ w', (Instr.mapUpdate 51 (.map (some g)) (.int .i64 k) v).run Tryd.prog w = .ok () w' ∧ MpN w' g (n + 1) (putM f k v) ∧ w.grownBy w' (some g) := by
  obtain ⟨D, h1, h2, h3⟩ := h
  have hm : IsMap D := h1.isMap
  obtain ⟨w', hrun, h1', hg⟩ := h1.update intKeyed3 Tryd.underlying51 (by unfold maxLen; omega) (keyOf_int_mk Tryd.underlying3 (key_wf hk)) (show anyR v = some (.held v, []) from rfl)
  refine ⟨w', hrun, ⟨_, h1', fun y => ?_, fun y z => ?_⟩, hg⟩
  · unfold putM
    by_cases e : y = k
    · subst e
      rw [Maps.has_put_same hm (by simp [WideAt.IsKeyLit]), if_pos rfl]
      rfl
    · rw [Maps.has_put_other (by intro h; injection h with _ h; exact e h), h2 y, if_neg e]
  · unfold putM
    by_cases e : y = k
    · subst e
      rw [Maps.atKey_put_same hm (by simp [WideAt.IsKeyLit]), if_pos rfl]
      rfl
    · rw [Maps.atKey_put_other (by intro h; injection h with _ h; exact e h), h3 y, if_neg e]
set_option maxRecDepth 100000 in
/-- m[k]. -/
theorem MpN.look (h : MpN w g n f) (k : Int) (hk : 0 ≤ k ∧ k < 64) (v : Value) (hv : f k = some v) :
    (Instr.lookup 51 (.map (some g)) (.int .i64 k) false).run Tryd.prog w = .ok v w := by
  obtain ⟨D, h1, h2, h3⟩ := h
  obtain ⟨x, ps, hrun, hx⟩ := h1.lookup intKeyed3 Tryd.underlying51 (zeroP57 w) (show anyR (.agg #[.nilFunc, .nilFunc, .nilFunc, .nilFunc]) = some (.held (.agg #[.nilFunc, .nilFunc, .nilFunc, .nilFunc]), []) from rfl) (keyOf_int_mk Tryd.underlying3 (key_wf hk))
  rw [h3 k _, hv] at hx
  unfold anyR at hx
  injection hx with hx
  injection hx with hx _
  injection hx with hx
  rw [hrun, hx]
  rfl
end
theorem NumAt.kept {B g g1 g2 p q n : Nat} {f : Int → Option Value} {w w' : World} (h : NumAt B w g1 g2 p q) (hM : MpN w g n f) (hg : w.grownBy w' (some g)) : NumAt B w' g1 g2 p q := by
  obtain ⟨h1, h2, c1, c2⟩ := h
  have l1 := World.block_lt_of_cell? w _ c1
  have l2 := World.block_lt_of_cell? w _ c2
  exact ⟨h1, h2, (World.cell?_of_block (hg.block g1 l1 (fun e => hM.apart c1 (Option.some.inj e)))).trans c1, (World.cell?_of_block (hg.block g2 l2 (fun e => hM.apart c2 (Option.some.inj e)))).trans c2⟩
theorem NumAt.on {B g1 g2 p q : Nat} {w w' : World} (h : NumAt B w g1 g2 p q) (hb : Below w.heap.size w w') : NumAt B w' g1 g2 p q := by
  obtain ⟨h1, h2, c1, c2⟩ := h
  exact ⟨h1, h2, (hb.cell (World.block_lt_of_cell? w _ c1)).trans c1, (hb.cell (World.block_lt_of_cell? w _ c2)).trans c2⟩
theorem NumAt.mono {B B' g1 g2 p q : Nat} {w : World} (h : NumAt B w g1 g2 p q) (hB : B' ≤ B) : NumAt B' w g1 g2 p q := ⟨Nat.le_trans hB h.1, Nat.le_trans hB h.2.1, h.2.2⟩
/-- The table of all parts, in block g. -/
def Table (B : Nat) (w : World) (g : Nat) : Prop := ∃ f : Int → Option Value, MpN w g 11 f ∧ (∀ k : Int, (f k).isSome = true ↔ 0 ≤ k ∧ k < 11) ∧ ∀ (i : Nat) (v : Value), i < 11 → f (i : Int) = some v → PSem B w i v
set_option maxRecDepth 100000 in
set_option maxHeartbeats 4000000 in
theorem parts_any (w : World) : Calls Tryd.prog 23 #[] w fun e w' => ∃ g, e = .returned (.map (some g)) ∧ w.heap.size ≤ g ∧ Table w.heap.size w' g ∧ Below w.heap.size w w' := by
  have HN := Lib.hid number_fn
  have hmk := @run_makeMap Tryd.prog
  go_enter Tryd.func23, Tryd.ntmps23
  go_upto_region 1 with (fail)
  have HM : Hid (MpN (w.alloc (.map #[] 0)) w.heap.size 0 (fun _ => none)) := Lib.hid (MpN.made w)
  have HB : Hid (Below w.heap.size w (w.alloc (.map #[] 0))) := Lib.hid ((Below.refl _ _).alloc (Nat.le_refl _) _)
  go_wp2_with fail
  refine (HN.out 48 49 _).mono ?_
  rintro e w1 ⟨a0, b0, rfl, hn, hb⟩
  have HMa0 := Lib.hid (HM.out.on hb)
  have HBa0 : Hid (Below w.heap.size w w1) := Lib.hid (HB.out.trans (hb.mono HB.out.size))
  have HU0_0 := Lib.hid (hn.mono HB.out.size)
  clear hb hn HM HB 
  obtain ⟨w2, hrun, hM, hg⟩ := HMa0.out.put (by decide) 0 (by decide) (numV a0 b0)
  go_wp2_with fail
  have HMb0 := Lib.hid hM
  have HBb0 : Hid (Below w.heap.size w w2) := Lib.hid (HBa0.out.grown hg HBa0.out.size (fun k hk => by injection hk with hk; omega))
  have HV0_0 := Lib.hid (HU0_0.out.kept HMa0.out hg)
  clear hrun hM hg HMa0 HBa0 HU0_0
  have HU0_0 := HV0_0
  clear HV0_0
  go_wp2_with fail
  refine (HN.out 50 51 _).mono ?_
  rintro e w3 ⟨a5, b5, rfl, hn, hb⟩
  have HMa1 := Lib.hid (HMb0.out.on hb)
  have HBa1 : Hid (Below w.heap.size w w3) := Lib.hid (HBb0.out.trans (hb.mono HBb0.out.size))
  have HU5_1 := Lib.hid (hn.mono HBb0.out.size)
  have HU0_1 := Lib.hid (HU0_0.out.on hb)
  clear hb hn HMb0 HBb0 HU0_0
  obtain ⟨w4, hrun, hM, hg⟩ := HMa1.out.put (by decide) 5 (by decide) (numV a5 b5)
  go_wp2_with fail
  have HMb1 := Lib.hid hM
  have HBb1 : Hid (Below w.heap.size w w4) := Lib.hid (HBa1.out.grown hg HBa1.out.size (fun k hk => by injection hk with hk; omega))
  have HV0_1 := Lib.hid (HU0_1.out.kept HMa1.out hg)
  have HV5_1 := Lib.hid (HU5_1.out.kept HMa1.out hg)
  clear hrun hM hg HMa1 HBa1 HU0_1 HU5_1
  have HU0_1 := HV0_1
  clear HV0_1
  have HU5_1 := HV5_1
  clear HV5_1
  go_wp2_with fail
  refine (HN.out 52 53 _).mono ?_
  rintro e w5 ⟨a6, b6, rfl, hn, hb⟩
  have HMa2 := Lib.hid (HMb1.out.on hb)
  have HBa2 : Hid (Below w.heap.size w w5) := Lib.hid (HBb1.out.trans (hb.mono HBb1.out.size))
  have HU6_2 := Lib.hid (hn.mono HBb1.out.size)
  have HU0_2 := Lib.hid (HU0_1.out.on hb)
  have HU5_2 := Lib.hid (HU5_1.out.on hb)
  clear hb hn HMb1 HBb1 HU0_1 HU5_1
  obtain ⟨w6, hrun, hM, hg⟩ := HMa2.out.put (by decide) 6 (by decide) (numV a6 b6)
  go_wp2_with fail
  have HMb2 := Lib.hid hM
  have HBb2 : Hid (Below w.heap.size w w6) := Lib.hid (HBa2.out.grown hg HBa2.out.size (fun k hk => by injection hk with hk; omega))
  have HV0_2 := Lib.hid (HU0_2.out.kept HMa2.out hg)
  have HV5_2 := Lib.hid (HU5_2.out.kept HMa2.out hg)
  have HV6_2 := Lib.hid (HU6_2.out.kept HMa2.out hg)
  clear hrun hM hg HMa2 HBa2 HU0_2 HU5_2 HU6_2
  have HU0_2 := HV0_2
  clear HV0_2
  have HU5_2 := HV5_2
  clear HV5_2
  have HU6_2 := HV6_2
  clear HV6_2
  go_wp2_with fail
  refine (HN.out 54 55 _).mono ?_
  rintro e w7 ⟨a9, b9, rfl, hn, hb⟩
  have HMa3 := Lib.hid (HMb2.out.on hb)
  have HBa3 : Hid (Below w.heap.size w w7) := Lib.hid (HBb2.out.trans (hb.mono HBb2.out.size))
  have HU9_3 := Lib.hid (hn.mono HBb2.out.size)
  have HU0_3 := Lib.hid (HU0_2.out.on hb)
  have HU5_3 := Lib.hid (HU5_2.out.on hb)
  have HU6_3 := Lib.hid (HU6_2.out.on hb)
  clear hb hn HMb2 HBb2 HU0_2 HU5_2 HU6_2
  obtain ⟨w8, hrun, hM, hg⟩ := HMa3.out.put (by decide) 9 (by decide) (numV a9 b9)
  go_wp2_with fail
  have HMb3 := Lib.hid hM
  have HBb3 : Hid (Below w.heap.size w w8) := Lib.hid (HBa3.out.grown hg HBa3.out.size (fun k hk => by injection hk with hk; omega))
  have HV0_3 := Lib.hid (HU0_3.out.kept HMa3.out hg)
  have HV5_3 := Lib.hid (HU5_3.out.kept HMa3.out hg)
  have HV6_3 := Lib.hid (HU6_3.out.kept HMa3.out hg)
  have HV9_3 := Lib.hid (HU9_3.out.kept HMa3.out hg)
  clear hrun hM hg HMa3 HBa3 HU0_3 HU5_3 HU6_3 HU9_3
  have HU0_3 := HV0_3
  clear HV0_3
  have HU5_3 := HV5_3
  clear HV5_3
  have HU6_3 := HV6_3
  clear HV6_3
  have HU9_3 := HV9_3
  clear HV9_3
  obtain ⟨w10, hrun, hM, hg⟩ := HMb3.out.put (by decide) 1 (by decide) (.agg #[.func (.func 56) #[] #[], .func (.func 57) #[] #[], .func (.func 58) #[] #[], .func (.func 59) #[] #[]])
  rw [hrun]
  go_wp2_with fail
  have HMb4 := Lib.hid hM
  have HBb4 : Hid (Below w.heap.size w w10) := Lib.hid (HBb3.out.grown hg HBb3.out.size (fun k hk => by injection hk with hk; omega))
  have HV0_4 := Lib.hid (HU0_3.out.kept HMb3.out hg)
  have HV5_4 := Lib.hid (HU5_3.out.kept HMb3.out hg)
  have HV6_4 := Lib.hid (HU6_3.out.kept HMb3.out hg)
  have HV9_4 := Lib.hid (HU9_3.out.kept HMb3.out hg)
  clear hrun hM hg HMb3 HBb3 HU0_3 HU5_3 HU6_3 HU9_3
  have HU0_4 := HV0_4
  clear HV0_4
  have HU5_4 := HV5_4
  clear HV5_4
  have HU6_4 := HV6_4
  clear HV6_4
  have HU9_4 := HV9_4
  clear HV9_4
  obtain ⟨w12, hrun, hM, hg⟩ := HMb4.out.put (by decide) 2 (by decide) (.agg #[.func (.func 61) #[] #[], .func (.func 63) #[] #[], .func (.func 64) #[] #[], .func (.func 66) #[] #[]])
  rw [hrun]
  go_wp2_with fail
  have HMb5 := Lib.hid hM
  have HBb5 : Hid (Below w.heap.size w w12) := Lib.hid (HBb4.out.grown hg HBb4.out.size (fun k hk => by injection hk with hk; omega))
  have HV0_5 := Lib.hid (HU0_4.out.kept HMb4.out hg)
  have HV5_5 := Lib.hid (HU5_4.out.kept HMb4.out hg)
  have HV6_5 := Lib.hid (HU6_4.out.kept HMb4.out hg)
  have HV9_5 := Lib.hid (HU9_4.out.kept HMb4.out hg)
  clear hrun hM hg HMb4 HBb4 HU0_4 HU5_4 HU6_4 HU9_4
  have HU0_5 := HV0_5
  clear HV0_5
  have HU5_5 := HV5_5
  clear HV5_5
  have HU6_5 := HV6_5
  clear HV6_5
  have HU9_5 := HV9_5
  clear HV9_5
  obtain ⟨w14, hrun, hM, hg⟩ := HMb5.out.put (by decide) 3 (by decide) (.agg #[.func (.func 68) #[] #[], .func (.func 70) #[] #[], .func (.func 71) #[] #[], .func (.func 74) #[] #[]])
  rw [hrun]
  go_wp2_with fail
  have HMb6 := Lib.hid hM
  have HBb6 : Hid (Below w.heap.size w w14) := Lib.hid (HBb5.out.grown hg HBb5.out.size (fun k hk => by injection hk with hk; omega))
  have HV0_6 := Lib.hid (HU0_5.out.kept HMb5.out hg)
  have HV5_6 := Lib.hid (HU5_5.out.kept HMb5.out hg)
  have HV6_6 := Lib.hid (HU6_5.out.kept HMb5.out hg)
  have HV9_6 := Lib.hid (HU9_5.out.kept HMb5.out hg)
  clear hrun hM hg HMb5 HBb5 HU0_5 HU5_5 HU6_5 HU9_5
  have HU0_6 := HV0_6
  clear HV0_6
  have HU5_6 := HV5_6
  clear HV5_6
  have HU6_6 := HV6_6
  clear HV6_6
  have HU9_6 := HV9_6
  clear HV9_6
  obtain ⟨w16, hrun, hM, hg⟩ := HMb6.out.put (by decide) 4 (by decide) (.agg #[.func (.func 77) #[] #[], .func (.func 79) #[] #[], .func (.func 80) #[] #[], .func (.func 82) #[] #[]])
  rw [hrun]
  go_wp2_with fail
  have HMb7 := Lib.hid hM
  have HBb7 : Hid (Below w.heap.size w w16) := Lib.hid (HBb6.out.grown hg HBb6.out.size (fun k hk => by injection hk with hk; omega))
  have HV0_7 := Lib.hid (HU0_6.out.kept HMb6.out hg)
  have HV5_7 := Lib.hid (HU5_6.out.kept HMb6.out hg)
  have HV6_7 := Lib.hid (HU6_6.out.kept HMb6.out hg)
  have HV9_7 := Lib.hid (HU9_6.out.kept HMb6.out hg)
  clear hrun hM hg HMb6 HBb6 HU0_6 HU5_6 HU6_6 HU9_6
  have HU0_7 := HV0_7
  clear HV0_7
  have HU5_7 := HV5_7
  clear HV5_7
  have HU6_7 := HV6_7
  clear HV6_7
  have HU9_7 := HV9_7
  clear HV9_7
  obtain ⟨w18, hrun, hM, hg⟩ := HMb7.out.put (by decide) 7 (by decide) (.agg #[.func (.func 84) #[] #[], .func (.func 85) #[] #[], .func (.func 86) #[] #[], .func (.func 87) #[] #[]])
  rw [hrun]
  go_wp2_with fail
  have HMb8 := Lib.hid hM
  have HBb8 : Hid (Below w.heap.size w w18) := Lib.hid (HBb7.out.grown hg HBb7.out.size (fun k hk => by injection hk with hk; omega))
  have HV0_8 := Lib.hid (HU0_7.out.kept HMb7.out hg)
  have HV5_8 := Lib.hid (HU5_7.out.kept HMb7.out hg)
  have HV6_8 := Lib.hid (HU6_7.out.kept HMb7.out hg)
  have HV9_8 := Lib.hid (HU9_7.out.kept HMb7.out hg)
  clear hrun hM hg HMb7 HBb7 HU0_7 HU5_7 HU6_7 HU9_7
  have HU0_8 := HV0_8
  clear HV0_8
  have HU5_8 := HV5_8
  clear HV5_8
  have HU6_8 := HV6_8
  clear HV6_8
  have HU9_8 := HV9_8
  clear HV9_8
  obtain ⟨w20, hrun, hM, hg⟩ := HMb8.out.put (by decide) 8 (by decide) (.agg #[.func (.func 89) #[] #[], .func (.func 90) #[] #[], .func (.func 91) #[] #[], .func (.func 93) #[] #[]])
  rw [hrun]
  go_wp2_with fail
  have HMb9 := Lib.hid hM
  have HBb9 : Hid (Below w.heap.size w w20) := Lib.hid (HBb8.out.grown hg HBb8.out.size (fun k hk => by injection hk with hk; omega))
  have HV0_9 := Lib.hid (HU0_8.out.kept HMb8.out hg)
  have HV5_9 := Lib.hid (HU5_8.out.kept HMb8.out hg)
  have HV6_9 := Lib.hid (HU6_8.out.kept HMb8.out hg)
  have HV9_9 := Lib.hid (HU9_8.out.kept HMb8.out hg)
  clear hrun hM hg HMb8 HBb8 HU0_8 HU5_8 HU6_8 HU9_8
  have HU0_9 := HV0_9
  clear HV0_9
  have HU5_9 := HV5_9
  clear HV5_9
  have HU6_9 := HV6_9
  clear HV6_9
  have HU9_9 := HV9_9
  clear HV9_9
  obtain ⟨w22, hrun, hM, hg⟩ := HMb9.out.put (by decide) 10 (by decide) (.agg #[.func (.func 95) #[] #[], .func (.func 96) #[] #[], .func (.func 97) #[] #[], .func (.func 99) #[] #[]])
  rw [hrun]
  go_wp2_with fail
  have HMb10 := Lib.hid hM
  have HBb10 : Hid (Below w.heap.size w w22) := Lib.hid (HBb9.out.grown hg HBb9.out.size (fun k hk => by injection hk with hk; omega))
  have HV0_10 := Lib.hid (HU0_9.out.kept HMb9.out hg)
  have HV5_10 := Lib.hid (HU5_9.out.kept HMb9.out hg)
  have HV6_10 := Lib.hid (HU6_9.out.kept HMb9.out hg)
  have HV9_10 := Lib.hid (HU9_9.out.kept HMb9.out hg)
  clear hrun hM hg HMb9 HBb9 HU0_9 HU5_9 HU6_9 HU9_9
  have HU0_10 := HV0_10
  clear HV0_10
  have HU5_10 := HV5_10
  clear HV5_10
  have HU6_10 := HV6_10
  clear HV6_10
  have HU9_10 := HV9_10
  clear HV9_10
  have HFin : Hid (Table w.heap.size w22 w.heap.size) := Lib.hid (by
    refine ⟨_, HMb10.out, fun k => ?_, fun i v hi hv => ?_⟩
    · unfold putM
      repeat' split
      all_goals simp
      all_goals omega
    · rcases (by omega : i = 0 ∨ i = 1 ∨ i = 2 ∨ i = 3 ∨ i = 4 ∨ i = 5 ∨ i = 6 ∨ i = 7 ∨ i = 8 ∨ i = 9 ∨ i = 10) with rfl | rfl | rfl | rfl | rfl | rfl | rfl | rfl | rfl | rfl | rfl <;> (simp [putM] at hv; subst hv)
      · exact psem0 _ _ _ _ HU0_10.out
      · exact psem1 _ _
      · exact psem2 _ _
      · exact psem3 _ _
      · exact psem4 _ _
      · exact psem5 _ _ _ _ HU5_10.out
      · exact psem6 _ _ _ _ HU6_10.out
      · exact psem7 _ _
      · exact psem8 _ _
      · exact psem9 _ _ _ _ HU9_10.out
      · exact psem10 _ _)
  go_ret
  exact ⟨_, rfl, Nat.le_refl _, HFin.out, HBb10.out⟩
end Go.Proofs.YtjeepmdklbfgeaaDoor
