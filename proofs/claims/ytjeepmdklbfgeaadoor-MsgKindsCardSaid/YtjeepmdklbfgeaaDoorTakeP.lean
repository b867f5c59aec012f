/-
  The walks of the closures that take a part of a message.
-/
import Derived.Test.YtjeepmdklbfgeaaDoorTakeL
import Derived.Test.YtjeepmdklbfgeaaDoorSeq
namespace Go.Proofs.YtjeepmdklbfgeaaDoor
open Go.Sort Go.RowKit Go.Proofs.YtjeepmdklbfgeaaDoor.Pure Go.Proofs.YtjeepmdklbfgeaaDoor.W Go.Proofs.YtjeepmdklbfgeaaDoor.W.Pure

/-- A message's cells. -/
def mcs (m : Mg) (nv tv : Value) : List Value := [.int .i64 m.kd, .int .i64 m.fr, .int .i64 m.to, .int .u64 (m.sq : Int), .int .i64 m.wh, .int .u64 m.k.i, .int .i64 m.k.s, nv, tv, .int .u64 (m.ep : Int), .int .u64 (m.bo : Int), .int .i64 m.ak, .string m.ts, .int .u64 (m.tn : Int), .bool m.gd]
/-- A message in block b, that is being taken; its lists lie behind it. -/
def MD (w : World) (b : Nat) (m : Mg) (nv tv : Value) : Prop := Row w b (mcs m nv tv) ∧ OwnN w (b + 1) nv m.ns ∧ Own w (b + 1) tv m.tb
/-- What a closure that takes leaves. -/
def LeftM (w : World) (bt : Nat) (s : ByteArray) (bm : Nat) (x : Mg × Tk) (w' : World) : Prop := TkAt w' bt s x.2 ∧ (∃ nv tv, MD w' bm x.1 nv tv) ∧ Kp w.heap.size [bt, bm] w w'
theorem MD.lt {w : World} {b : Nat} {m : Mg} {nv tv : Value} (h : MD w b m nv tv) : b < w.heap.size := h.1.lt (show 0 < 15 by decide)
theorem MD.took {w w1 : World} {bt bm : Nat} {s : ByteArray} {t : Tk} {m : Mg} {nv tv : Value} (h : MD w bm m nv tv) (hT : Took w bt s t w1) (hlt : bt < bm) : MD w1 bm m nv tv :=
  ⟨h.1.kp hT.2 h.lt (by simp; omega), h.2.1.kp hT.2 (by simp; omega), h.2.2.kp hT.2 (by simp; omega)⟩
theorem kp_set_two {w w1 : World} {bt bm : Nat} (h : Kp w.heap.size [bt] w w1) (j : Nat) (v : Value) : Kp w.heap.size [bt, bm] w (w1.setCell ⟨bm, j, none⟩ v) :=
  (h.mono (Nat.le_refl _) (fun k _ hk => by simp at hk ⊢; exact .inl hk)).set (.inl (by simp)) v
theorem OwnN.cellFar {w : World} {B g j : Nat} {v u : Value} {xs : List Nw} (h : OwnN w B v xs) (hg : g < B) : OwnN (w.setCell ⟨g, j, none⟩ u) B v xs :=
  h.keep fun k e => Below.heap_setCell w ⟨g, j, none⟩ u k (fun e' => by have h1 := (h.ge k e).1; have h2 : k = g := e'; omega)
theorem Own.cellFar {w : World} {B g j : Nat} {v u : Value} {xs : List Kn} (h : Own w B v xs) (hg : g < B) : Own (w.setCell ⟨g, j, none⟩ u) B v xs := by
  refine ⟨h.1, ?_⟩
  have hge := h.ge
  rcases h.2 with h | ⟨g', cap, cur, rfl, h2, h3, h4⟩
  · exact .inl h
  · exact .inr ⟨g', cap, cur, rfl, h2, (Below.heap_setCell w ⟨g, j, none⟩ u g' (fun e' => by have h1 := (hge g' rfl).1; have h2 : g' = g := e'; omega)).trans h3, h4⟩
/-- A part is laid into the message's cells. -/
theorem left_set {w w1 : World} {bt bm : Nat} {s : ByteArray} {t : Tk} {m m' : Mg} {nv tv nv' tv' : Value} (hT : Took w bt s t w1) (hM : MD w1 bm m nv tv) (hlt : bt < bm) (j : Nat) (v : Value) (hj : j < 15)
    (hc : (mcs m nv tv).set j v = mcs m' nv' tv') (hN : OwnN w1 (bm + 1) nv' m'.ns) (hK : Own w1 (bm + 1) tv' m'.tb) : LeftM w bt s bm (m', t) (w1.setCell ⟨bm, j, none⟩ v) :=
  ⟨Row.other hT.1 (Nat.ne_of_lt hlt) v, ⟨nv', tv', hc ▸ hM.1.set j hj v, hN.cellFar (by omega), hK.cellFar (by omega)⟩, kp_set_two hT.2 j v⟩
set_option maxRecDepth 100000 in
set_option maxHeartbeats 4000000 in
theorem put0_any (n bm : Nat) (v : Value) (w : World) (hc : w.cell? ⟨bm, 3, none⟩ = some v) (hf : ∀ o : Nat, w.frozen? ⟨bm, o, none⟩ = false) : Calls Tryd.prog 49 #[.pointer (some ⟨bm, 0, none⟩), .int .u64 (n : Int)] w fun e w' => e = .returned (.tuple #[]) ∧ w.setCell ⟨bm, 3, none⟩ (.int .u64 (n : Int)) = w' := by
  go_enter Tryd.func49, Tryd.ntmps49
  go_wp2_with fail
  go_end0
  exact ⟨rfl, rfl⟩
set_option maxRecDepth 100000 in
set_option maxHeartbeats 4000000 in
theorem put5_any (n bm : Nat) (v : Value) (w : World) (hc : w.cell? ⟨bm, 9, none⟩ = some v) (hf : ∀ o : Nat, w.frozen? ⟨bm, o, none⟩ = false) : Calls Tryd.prog 51 #[.pointer (some ⟨bm, 0, none⟩), .int .u64 (n : Int)] w fun e w' => e = .returned (.tuple #[]) ∧ w.setCell ⟨bm, 9, none⟩ (.int .u64 (n : Int)) = w' := by
  go_enter Tryd.func51, Tryd.ntmps51
  go_wp2_with fail
  go_end0
  exact ⟨rfl, rfl⟩
set_option maxRecDepth 100000 in
set_option maxHeartbeats 4000000 in
theorem put6_any (n bm : Nat) (v : Value) (w : World) (hc : w.cell? ⟨bm, 10, none⟩ = some v) (hf : ∀ o : Nat, w.frozen? ⟨bm, o, none⟩ = false) : Calls Tryd.prog 53 #[.pointer (some ⟨bm, 0, none⟩), .int .u64 (n : Int)] w fun e w' => e = .returned (.tuple #[]) ∧ w.setCell ⟨bm, 10, none⟩ (.int .u64 (n : Int)) = w' := by
  go_enter Tryd.func53, Tryd.ntmps53
  go_wp2_with fail
  go_end0
  exact ⟨rfl, rfl⟩
set_option maxRecDepth 100000 in
set_option maxHeartbeats 4000000 in
theorem put9_any (n bm : Nat) (v : Value) (w : World) (hc : w.cell? ⟨bm, 13, none⟩ = some v) (hf : ∀ o : Nat, w.frozen? ⟨bm, o, none⟩ = false) : Calls Tryd.prog 55 #[.pointer (some ⟨bm, 0, none⟩), .int .u64 (n : Int)] w fun e w' => e = .returned (.tuple #[]) ∧ w.setCell ⟨bm, 13, none⟩ (.int .u64 (n : Int)) = w' := by
  go_enter Tryd.func55, Tryd.ntmps55
  go_wp2_with fail
  go_end0
  exact ⟨rfl, rfl⟩
set_option maxRecDepth 100000 in
set_option maxHeartbeats 4000000 in
theorem take1_any (s : ByteArray) (t : Tk) (m : Mg) (bt bm : Nat) (nv tv : Value) (w : World) (hs : s.size ≤ 140737488351232) (ht : t.p ≤ s.size) (hlt : bt < bm) (hT : TkAt w bt s t) (hM : MD w bm m nv tv) : Calls Tryd.prog 59 #[.pointer (some ⟨bt, 0, none⟩), .pointer (some ⟨bm, 0, none⟩)] w fun e w' => e = .returned (.tuple #[]) ∧ LeftM w bt s bm (takeP s 1 m t) w' := by
  have HC := Lib.hid (node_any bt s t w hs ht hT)
  have hE : takeP s 1 m t = ({ m with wh := ((tnum s 63 t).1 : Int) }, (tnum s 63 t).2) := rfl
  rw [hE]
  clear hE
  have hm := tnum_most s 63 t
  generalize (tnum s 63 t).1 = n at *
  generalize (tnum s 63 t).2 = t1 at *
  have HM := Lib.hid hM
  clear hT hM ht
  go_enter Tryd.func59, Tryd.ntmps59
  go_wp2_with (go_at_call 60; refine HC.out.mono ?_; rintro e w1 ⟨rfl, hTk⟩; have HT1 := Lib.hid hTk; have hM1 := Lib.hid (HM.out.took hTk hlt); have c4 := hM1.out.1.at_ 4 _ rfl; have cf := hM1.out.1.2; clear hTk HM)
  go_end0
  exact ⟨rfl, left_set HT1.out hM1.out hlt 4 _ (by decide) rfl hM1.out.2.1 hM1.out.2.2⟩
set_option maxRecDepth 100000 in
set_option maxHeartbeats 4000000 in
theorem take7_any (s : ByteArray) (t : Tk) (m : Mg) (bt bm : Nat) (nv tv : Value) (w : World) (hs : s.size ≤ 140737488351232) (ht : t.p ≤ s.size) (hlt : bt < bm) (hT : TkAt w bt s t) (hM : MD w bm m nv tv) : Calls Tryd.prog 87 #[.pointer (some ⟨bt, 0, none⟩), .pointer (some ⟨bm, 0, none⟩)] w fun e w' => e = .returned (.tuple #[]) ∧ LeftM w bt s bm (takeP s 7 m t) w' := by
  have HC := Lib.hid (number_any bt 1099511627776 s t w hs ht hT)
  have hE : takeP s 7 m t = ({ m with ak := ((tnum s 1099511627776 t).1 : Int) }, (tnum s 1099511627776 t).2) := rfl
  rw [hE]
  clear hE
  have hm := tnum_most s 1099511627776 t
  generalize (tnum s 1099511627776 t).1 = n at *
  generalize (tnum s 1099511627776 t).2 = t1 at *
  have HM := Lib.hid hM
  clear hT hM ht
  go_enter Tryd.func87, Tryd.ntmps87
  go_wp2_with (go_at_call 88; refine HC.out.mono ?_; rintro e w1 ⟨rfl, hTk⟩; have HT1 := Lib.hid hTk; have hM1 := Lib.hid (HM.out.took hTk hlt); have c11 := hM1.out.1.at_ 11 _ rfl; have cf := hM1.out.1.2; clear hTk HM)
  go_end0
  exact ⟨rfl, left_set HT1.out hM1.out hlt 11 _ (by decide) rfl hM1.out.2.1 hM1.out.2.2⟩
set_option maxRecDepth 100000 in
set_option maxHeartbeats 4000000 in
theorem take8_any (s : ByteArray) (t : Tk) (m : Mg) (bt bm : Nat) (nv tv : Value) (w : World) (hs : s.size ≤ 140737488351232) (ht : t.p ≤ s.size) (hlt : bt < bm) (hT : TkAt w bt s t) (hM : MD w bm m nv tv) : Calls Tryd.prog 93 #[.pointer (some ⟨bt, 0, none⟩), .pointer (some ⟨bm, 0, none⟩)] w fun e w' => e = .returned (.tuple #[]) ∧ LeftM w bt s bm (takeP s 8 m t) w' := by
  have HC := Lib.hid (text_any bt s t w hs ht hT)
  have hE : takeP s 8 m t = ({ m with ts := (ttx s t).1 }, (ttx s t).2) := rfl
  rw [hE]
  clear hE
  generalize (ttx s t).1 = z at *
  generalize (ttx s t).2 = t1 at *
  have HM := Lib.hid hM
  clear hT hM ht
  go_enter Tryd.func93, Tryd.ntmps93
  go_wp2_with (go_at_call 94; refine HC.out.mono ?_; rintro e w1 ⟨rfl, hTk⟩; have HT1 := Lib.hid hTk; have hM1 := Lib.hid (HM.out.took hTk hlt); have c12 := hM1.out.1.at_ 12 _ rfl; have cf := hM1.out.1.2; clear hTk HM)
  go_end0
  exact ⟨rfl, left_set HT1.out hM1.out hlt 12 _ (by decide) rfl hM1.out.2.1 hM1.out.2.2⟩
set_option maxRecDepth 100000 in
set_option maxHeartbeats 4000000 in
theorem take10_any (s : ByteArray) (t : Tk) (m : Mg) (bt bm : Nat) (nv tv : Value) (w : World) (hs : s.size ≤ 140737488351232) (ht : t.p ≤ s.size) (hlt : bt < bm) (hT : TkAt w bt s t) (hM : MD w bm m nv tv) : Calls Tryd.prog 99 #[.pointer (some ⟨bt, 0, none⟩), .pointer (some ⟨bm, 0, none⟩)] w fun e w' => e = .returned (.tuple #[]) ∧ LeftM w bt s bm (takeP s 10 m t) w' := by
  have HC := Lib.hid (number_any bt 1 s t w hs ht hT)
  have hE : takeP s 10 m t = ({ m with gd := decide ((tnum s 1 t).1 = 1) }, (tnum s 1 t).2) := rfl
  rw [hE]
  clear hE
  have hG : decide ((tnum s 1 t).1 = 1) = ((((tnum s 1 t).1 : Nat) : Int) == 1) := by rw [Bool.eq_iff_iff]; simp; omega
  rw [hG]
  clear hG
  generalize (tnum s 1 t).1 = n at *
  generalize (tnum s 1 t).2 = t1 at *
  have HM := Lib.hid hM
  clear hT hM ht
  go_enter Tryd.func99, Tryd.ntmps99
  go_wp2_with (go_at_call 88; refine HC.out.mono ?_; rintro e w1 ⟨rfl, hTk⟩; have HT1 := Lib.hid hTk; have hM1 := Lib.hid (HM.out.took hTk hlt); have c14 := hM1.out.1.at_ 14 _ rfl; have cf := hM1.out.1.2; clear hTk HM)
  go_end0
  exact ⟨rfl, left_set HT1.out hM1.out hlt 14 _ (by decide) rfl hM1.out.2.1 hM1.out.2.2⟩
set_option maxRecDepth 100000 in
set_option maxHeartbeats 4000000 in
theorem take2_any (s : ByteArray) (t : Tk) (m : Mg) (bt bm : Nat) (nv tv : Value) (w : World) (hs : s.size ≤ 140737488351232) (ht : t.p ≤ s.size) (hlt : bt < bm) (hT : TkAt w bt s t) (hM : MD w bm m nv tv) : Calls Tryd.prog 66 #[.pointer (some ⟨bt, 0, none⟩), .pointer (some ⟨bm, 0, none⟩)] w fun e w' => e = .returned (.tuple #[]) ∧ LeftM w bt s bm (takeP s 2 m t) w' := by
  have HC := Lib.hid (know_any bt s t w hs ht hT)
  have hE : takeP s 2 m t = ({ m with k := ⟨(tkn s t).1.i, (tkn s t).1.s⟩ }, (tkn s t).2) := rfl
  rw [hE]
  clear hE
  generalize (tkn s t).1.i = ki at *
  generalize (tkn s t).1.s = ks at *
  generalize (tkn s t).2 = t1 at *
  have HM := Lib.hid hM
  clear hT hM ht
  go_enter Tryd.func66, Tryd.ntmps66
  go_wp2_with (go_at_call 67; refine HC.out.mono ?_; rintro e w1 ⟨rfl, hTk⟩; have HT1 := Lib.hid hTk; have hM1 := Lib.hid (HM.out.took hTk hlt); have c5 := hM1.out.1.at_ 5 _ rfl; have c6 := hM1.out.1.at_ 6 _ rfl; have cf := hM1.out.1.2; clear hTk HM)
  go_end0
  refine ⟨rfl, Row.other (Row.other HT1.out.1 (Nat.ne_of_lt hlt) _) (Nat.ne_of_lt hlt) _, ⟨nv, tv, ?_, (hM1.out.2.1.cellFar (by omega)).cellFar (by omega), (hM1.out.2.2.cellFar (by omega)).cellFar (by omega)⟩, (kp_set_two HT1.out.2 5 _).set (.inl (by simp)) _⟩
  exact (hM1.out.1.set 5 (show 5 < 15 by decide) _).set 6 (show 6 < 15 by decide) _
set_option maxRecDepth 100000 in
set_option maxHeartbeats 4000000 in
theorem take3_any (s : ByteArray) (t : Tk) (m : Mg) (bt bm : Nat) (nv tv : Value) (w : World) (hs : s.size ≤ 140737488351232) (ht : t.p ≤ s.size) (hlt : bt < bm) (hT : TkAt w bt s t) (hM : MD w bm m nv tv) : Calls Tryd.prog 74 #[.pointer (some ⟨bt, 0, none⟩), .pointer (some ⟨bm, 0, none⟩)] w fun e w' => e = .returned (.tuple #[]) ∧ LeftM w bt s bm (takeP s 3 m t) w' := by
  have HC := Lib.hid (takelist_News bt s t w hs ht hT)
  have hE : takeP s 3 m t = ({ m with ns := (tnws s t).1 }, (tnws s t).2) := rfl
  rw [hE]
  clear hE
  generalize (tnws s t).1 = l at *
  generalize (tnws s t).2 = t1 at *
  have HM := Lib.hid hM
  have hbm := hM.lt
  clear hT hM ht
  go_enter Tryd.func74, Tryd.ntmps74
  go_wp2_with (go_at_call 75; refine HC.out.mono ?_; rintro e w1 ⟨v, rfl, hO, hTk⟩; have HT1 := Lib.hid hTk; have HO := Lib.hid hO; have hM1 := Lib.hid (HM.out.took hTk hlt); obtain ⟨A, c, rfl, _, _⟩ := hO.lst; have c7 := hM1.out.1.at_ 7 _ rfl; have cf := hM1.out.1.2; clear hTk HM hO)
  go_end0
  exact ⟨rfl, left_set HT1.out hM1.out hlt 7 _ (by decide) rfl (HO.out.mono hbm) hM1.out.2.2⟩
set_option maxRecDepth 100000 in
set_option maxHeartbeats 4000000 in
theorem take4_any (s : ByteArray) (t : Tk) (m : Mg) (bt bm : Nat) (nv tv : Value) (w : World) (hs : s.size ≤ 140737488351232) (ht : t.p ≤ s.size) (hlt : bt < bm) (hT : TkAt w bt s t) (hM : MD w bm m nv tv) : Calls Tryd.prog 82 #[.pointer (some ⟨bt, 0, none⟩), .pointer (some ⟨bm, 0, none⟩)] w fun e w' => e = .returned (.tuple #[]) ∧ LeftM w bt s bm (takeP s 4 m t) w' := by
  have HC := Lib.hid (takelist_Know bt s t w hs ht hT)
  have hE : takeP s 4 m t = ({ m with tb := (ttbs s t).1 }, (ttbs s t).2) := rfl
  rw [hE]
  clear hE
  generalize (ttbs s t).1 = l at *
  generalize (ttbs s t).2 = t1 at *
  have HM := Lib.hid hM
  have hbm := hM.lt
  clear hT hM ht
  go_enter Tryd.func82, Tryd.ntmps82
  go_wp2_with (go_at_call 83; refine HC.out.mono ?_; rintro e w1 ⟨v, rfl, hO, hTk⟩; have HT1 := Lib.hid hTk; have HO := Lib.hid hO; have hM1 := Lib.hid (HM.out.took hTk hlt); obtain ⟨A, c, rfl, _, _⟩ := hO.lst; have c8 := hM1.out.1.at_ 8 _ rfl; have cf := hM1.out.1.2; clear hTk HM hO)
  go_end0
  exact ⟨rfl, left_set HT1.out hM1.out hlt 8 _ (by decide) rfl hM1.out.2.1 (HO.out.mono hbm)⟩
set_option maxRecDepth 100000 in
set_option maxHeartbeats 4000000 in
theorem takenum_any (p g j : Nat) (u : Value) (s : ByteArray) (t : Tk) (m m' : Mg) (bt bm : Nat) (nv tv : Value) (w : World) (hs : s.size ≤ 140737488351232) (ht : t.p ≤ s.size) (hlt : bt < bm) (hT : TkAt w bt s t) (hM : MD w bm m nv tv)
    (hg : w.cell? ⟨g, 0, none⟩ = some (.func (.func p) #[] #[])) (hgb : g ≠ bt) (hgm : g ≠ bm) (hp : Enters Tryd.prog p) (hj : j < 15) (hu : (mcs m nv tv)[j]? = some u)
    (hc : ∀ (n : Nat) (W : World), W.cell? ⟨bm, j, none⟩ = some u → (∀ o : Nat, W.frozen? ⟨bm, o, none⟩ = false) → Calls Tryd.prog p #[.pointer (some ⟨bm, 0, none⟩), .int .u64 (n : Int)] W fun e w' => e = .returned (.tuple #[]) ∧ W.setCell ⟨bm, j, none⟩ (.int .u64 (n : Int)) = w')
    (hset : (mcs m nv tv).set j (.int .u64 ((tnum s 18446744073709551615 t).1 : Int)) = mcs m' nv tv) (hns : m'.ns = m.ns) (htb : m'.tb = m.tb) :
    Calls Tryd.prog 106 #[.pointer (some ⟨bt, 0, none⟩), .pointer (some ⟨bm, 0, none⟩), .pointer (some ⟨g, 0, none⟩)] w fun e w' => e = .returned (.tuple #[]) ∧ LeftM w bt s bm (m', (tnum s 18446744073709551615 t).2) w' := by
  have HC := Lib.hid (fun (W : World) (hT : TkAt W bt s t) => number_any bt 18446744073709551615 s t W hs ht hT)
  have HP := Lib.hid hc
  have HSet := Lib.hid hset
  have HNS := Lib.hid (And.intro hns htb)
  have HU := Lib.hid hu
  have HM := Lib.hid hM
  have HT := Lib.hid hT
  have hp' : ∀ (args : Array Value) (w : World), (callFunc p args).run Tryd.prog w = .ok (.enter p args) w := hp
  have hgl := World.block_lt_of_cell? w _ hg
  clear hc hset hns htb hu hM hT hp ht
  generalize (tnum s 18446744073709551615 t).1 = n at *
  generalize (tnum s 18446744073709551615 t).2 = t1 at *
  go_enter Tryd.func106, Tryd.ntmps106
  go_upto_region 0 with (fail)
  refine z_enter [(0, true), (1, true), (2, true), (3, false), (4, false)] (fun w' => w'.cell? ⟨g, 0, none⟩ = some (.func (.func p) #[] #[])) (by kernel_rfl) (by kernel_rfl) (by kernel_rfl) (fun _ _ d _ _ h => by cases d <;> exact h) hg ?_
  simp only [pickL, List.drop_succ_cons, List.drop_zero]
  have HM0 : Hid (MD w.drew bm m nv tv) := Lib.hid HM.out
  have HT0 : Hid (TkAt w.drew bt s t) := Lib.hid HT.out
  have HK0 : Hid (Kp w.heap.size [bt] w w.drew) := Lib.hid (Kp.of ⟨rfl, rfl, rfl, Nat.le_refl _, fun _ _ => rfl⟩)
  have hg0 : w.drew.cell? ⟨g, 0, none⟩ = some (.func (.func p) #[] #[]) := hg
  have hgl0 : g < w.drew.heap.size := hgl
  have hsz : w.drew.heap.size = w.heap.size := rfl
  clear HM HT hg hgl
  generalize w.drew = w0 at *
  iterate 3 (first | (refine' z_yes ?_ (by rfl) ?_ ?_; rotate_left; (intro w' hS; (try dsimp only at hS); go_simp; try (with_reducible rfl)); simp only [Act.put, List.setIfInBounds_toArray, List.set_cons_zero, List.set_cons_succ]) | (refine z_no (by rfl) ?_; simp only [Act.put, List.setIfInBounds_toArray, List.set_cons_zero, List.set_cons_succ]))
  refine z_mem ?_
  intro K hK
  go_simp
  refine (HC.out _ HT0.out).mono ?_
  rintro e w1 ⟨rfl, hTk⟩
  have HT1 : Hid (Took w bt s t1 w1) := Lib.hid ⟨hTk.1, HK0.out.trans (hTk.2.mono (by omega) (fun _ _ h => h))⟩
  have HM1 := Lib.hid (HM0.out.took hTk hlt)
  have hg1 : w1.cell? ⟨g, 0, none⟩ = some (.func (.func p) #[] #[]) := (hTk.2.cell (p := ⟨g, 0, none⟩) hgl0 (by simp; exact hgb)).trans hg0
  refine hK.out _ _ hg1 ?_
  clear hK HM0 HT0 HK0 hg0 hgl0 hTk HC
  refine z_mem ?_
  intro K hK
  go_simp
  refine (HP.out n w1 (HM1.out.1.at_ j u HU.out) HM1.out.1.2).mono ?_
  rintro e w2 ⟨rfl, rfl⟩
  have hg2 : (w1.setCell ⟨bm, j, none⟩ (.int .u64 (n : Int))).cell? ⟨g, 0, none⟩ = some (.func (.func p) #[] #[]) := by rw [World.cell?_setCell_other _ _ _ _ (fun e => hgm (by injection e with e1 _; exact e1.symm))]; exact hg1
  refine hK.out _ _ hg2 ?_
  have HF : Hid (LeftM w bt s bm (m', t1) (w1.setCell ⟨bm, j, none⟩ (.int .u64 (n : Int)))) := Lib.hid (left_set HT1.out HM1.out hlt j _ hj HSet.out (by rw [HNS.out.1]; exact HM1.out.2.1) (by rw [HNS.out.2]; exact HM1.out.2.2))
  clear hK hg1 hg2 HM1 HT1 HP HSet HNS HU
  refine z_nil ?_
  go_wp2_with fail
  go_end0
  exact ⟨rfl, HF.out⟩
end Go.Proofs.YtjeepmdklbfgeaaDoor
