/-
  The walk of message: what is taken of octets, part by part.
-/
import Derived.Test.YtjeepmdklbfgeaaDoorCheckM
namespace Go.Proofs.YtjeepmdklbfgeaaDoor
open Go.Sort Go.RowKit Go.Proofs.YtjeepmdklbfgeaaDoor.Pure Go.Proofs.YtjeepmdklbfgeaaDoor.W Go.Proofs.YtjeepmdklbfgeaaDoor.W.Pure

theorem MpN.blk {w w' : World} {g n : Nat} {f : Int → Option Value} (h : MpN w g n f) (hb : w'.heap[g]? = w.heap[g]?) : MpN w' g n f := by
  obtain ⟨D, ⟨es, clock, h1, h2⟩, h3⟩ := h
  exact ⟨D, ⟨es, clock, hb.trans h1, h2⟩, h3⟩
theorem Is.kp {w w' : World} {A : Option Addr} {xs : List Nat} {S : List Nat} (h : Is w A xs) (hk : Kp w.heap.size S w w') (hS : ∀ ad, A = some ad → ¬ ad.block ∈ S) : Is w' A xs := fun j hj => by
  obtain ⟨ad, e, h1, h2⟩ := h j hj
  exact ⟨ad, e, Nat.lt_of_lt_of_le h1 hk.size, (hk.cell (by rw [block_add]; exact h1) (by rw [block_add]; exact hS ad e)).trans h2⟩
theorem dec_zero (s : ByteArray) (L : List Nat) (k : Nat) (x : Mg × Tk) (h : k < L.length) : decL s (L.take (k + 1)) x = takeP s (L.getD k 0) (decL s (L.take k) x).1 (decL s (L.take k) x).2 := by
  rw [List.take_succ_eq_append_getElem h]
  unfold decL
  rw [List.foldl_append]
  simp [List.getD, h]
/-- The state of what is taken. -/
structure Sta (w0 w : World) (bt r bm : Nat) (s : ByteArray) (x : Mg × Tk) : Prop where
  t : TkAt w bt s x.2
  m : ∃ nv tv, MD w bm x.1 nv tv
  k : Kp w0.heap.size [bt] w0 w
  r : Row w r [.int .i64 0, .int .i64 0, .int .i64 0, .int .u64 0, .int .i64 0, .int .u64 0, .int .i64 0, .slice none 0 0, .slice none 0 0, .int .u64 0, .int .u64 0, .int .i64 0, .string ⟨#[]⟩, .int .u64 0, .bool false]
theorem Sta.left {w0 w w' : World} {bt r bm : Nat} {s : ByteArray} {x y : Mg × Tk} (h : Sta w0 w bt r bm s x) (hl : LeftM w bt s bm y w') (h0 : w0.heap.size ≤ bm) (hs : w0.heap.size ≤ w.heap.size) (hr : r ≠ bt ∧ r ≠ bm) : Sta w0 w' bt r bm s y :=
  ⟨hl.1, hl.2.1, h.k.trans (hl.2.2.mono hs (fun k hk hm => by simp at hm ⊢; omega)), h.r.kp hl.2.2 (h.r.lt (show 0 < 15 by decide)) (by simp; exact hr)⟩
theorem Sta.on {w0 w w' : World} {bt r bm : Nat} {s : ByteArray} {x : Mg × Tk} (h : Sta w0 w bt r bm s x) (hb : Below w.heap.size w w') (hs : w0.heap.size ≤ w.heap.size) : Sta w0 w' bt r bm s x := by
  obtain ⟨nv, tv, h1, h2, h3⟩ := h.m
  exact ⟨h.t.on hb, ⟨nv, tv, h1.on hb (show 0 < 15 by decide), h2.on hb, h3.on hb⟩, h.k.trans (Kp.of (hb.mono hs)), h.r.on hb (show 0 < 15 by decide)⟩
set_option maxRecDepth 100000 in
set_option maxHeartbeats 4000000 in
theorem message_any (s : ByteArray) (bt : Nat) (w : World) (hs : s.size ≤ 140737488351232) (hT : TkAt w bt s t0) :
    Calls Tryd.prog 40 #[.pointer (some ⟨bt, 0, none⟩)] w fun e w' => ∃ nv tv, e = .returned (mvv (dec s).1 nv tv) ∧ OwnN w' w.heap.size nv (dec s).1.ns ∧ Own w' w.heap.size tv (dec s).1.tb ∧ Took w bt s (dec s).2 w' := by
  obtain ⟨r, er⟩ : ∃ r, r = w.heap.size := ⟨_, rfl⟩
  obtain ⟨bm, ebm⟩ : ∃ bm, bm = w.heap.size + 1 := ⟨_, rfl⟩
  have hlt := hT.lt
  have hbt : bt < r ∧ r < bm ∧ bt < bm := by omega
  have HN1 := Lib.hid (fun (W : World) (h : TkAt W bt s t0) => number_any bt 12 s t0 W hs (Nat.zero_le _) h)
  have HN2 := Lib.hid (fun (W : World) (h : TkAt W bt s (tnum s 12 t0).2) => node_any bt s _ W hs (tnum_le s _ _ (Nat.zero_le _)) h)
  have HN3 := Lib.hid (fun (W : World) (h : TkAt W bt s (tnum s 63 (tnum s 12 t0).2).2) => node_any bt s _ W hs (tnum_le s _ _ (tnum_le s _ _ (Nat.zero_le _))) h)
  have hDH : decH s = ({ zm with kd := (tnum s 12 t0).1, fr := (tnum s 63 (tnum s 12 t0).2).1, «to» := (tnum s 63 (tnum s 63 (tnum s 12 t0).2).2).1 }, (tnum s 63 (tnum s 63 (tnum s 12 t0).2).2).2) := rfl
  have HLe : Hid (∀ L : List Nat, (decL s L (decH s)).2.p ≤ s.size) := Lib.hid (fun L => decL_le s L _ (decH_le s))
  have hD : dec s = decL s (pof (decH s).1.kd) (decH s) := rfl
  have hkd : (decH s).1.kd = ((tnum s 12 t0).1 : Int) := rfl
  have hm1 := tnum_most s 12 t0
  have HPO := Lib.hid (fun W => partsof_any ((tnum s 12 t0).1 : Int) W)
  rw [hkd] at hD
  have HL11 : Hid (∀ i ∈ pof ((tnum s 12 t0).1 : Int), i < 11) := Lib.hid (fun i hi => pof_lt _ i hi)
  have HL20 : Hid ((pof ((tnum s 12 t0).1 : Int)).length ≤ 11) := Lib.hid (by
    rcases kinds ((tnum s 12 t0).1 : Int) with (h | h | h | h | h | h | h | h | h | h | h | h) | ⟨_, h⟩ <;> (rw [h]; decide))
  have HDZ : Hid (∀ k, k < (pof ((tnum s 12 t0).1 : Int)).length → decL s ((pof ((tnum s 12 t0).1 : Int)).take (k + 1)) (decH s) = takeP s ((pof ((tnum s 12 t0).1 : Int)).getD k 0) (decL s ((pof ((tnum s 12 t0).1 : Int)).take k) (decH s)).1 (decL s ((pof ((tnum s 12 t0).1 : Int)).take k) (decH s)).2) := Lib.hid (fun k hk => dec_zero s _ k _ hk)
  have HD0 : Hid (decL s ((pof ((tnum s 12 t0).1 : Int)).take 0) (decH s) = decH s) := Lib.hid rfl
  rw [hD]
  generalize pof ((tnum s 12 t0).1 : Int) = L at *
  obtain ⟨x0, hx0⟩ : ∃ x0, x0 = decH s := ⟨_, rfl⟩
  rw [← hx0] at hDH HLe HDZ HD0 ⊢
  have HX0 := Lib.hid hDH
  clear hD hkd hx0 hDH
  generalize (tnum s 63 (tnum s 63 (tnum s 12 t0).2).2).1 = n3 at *
  generalize (tnum s 63 (tnum s 63 (tnum s 12 t0).2).2).2 = t3 at *
  generalize (tnum s 63 (tnum s 12 t0).2).1 = n2 at *
  generalize (tnum s 63 (tnum s 12 t0).2).2 = t2 at *
  generalize (tnum s 12 t0).1 = n1 at *
  generalize (tnum s 12 t0).2 = t1 at *
  have hba : Below w.heap.size w ((w.alloc (.cells #[.int .i64 0, .int .i64 0, .int .i64 0, .int .u64 0, .int .i64 0, .int .u64 0, .int .i64 0, .slice none 0 0, .slice none 0 0, .int .u64 0, .int .u64 0, .int .i64 0, .string ⟨#[]⟩, .int .u64 0, .bool false] 28)).alloc (.cells #[.int .i64 0, .int .i64 0, .int .i64 0, .int .u64 0, .int .i64 0, .int .u64 0, .int .i64 0, .slice none 0 0, .slice none 0 0, .int .u64 0, .int .u64 0, .int .i64 0, .string ⟨#[]⟩, .int .u64 0, .bool false] 28)) := ((Below.refl _ _).alloc (Nat.le_refl _) _).alloc (by simp) _
  have HS0 : Hid (Sta w ((w.alloc (.cells #[.int .i64 0, .int .i64 0, .int .i64 0, .int .u64 0, .int .i64 0, .int .u64 0, .int .i64 0, .slice none 0 0, .slice none 0 0, .int .u64 0, .int .u64 0, .int .i64 0, .string ⟨#[]⟩, .int .u64 0, .bool false] 28)).alloc (.cells #[.int .i64 0, .int .i64 0, .int .i64 0, .int .u64 0, .int .i64 0, .int .u64 0, .int .i64 0, .slice none 0 0, .slice none 0 0, .int .u64 0, .int .u64 0, .int .i64 0, .string ⟨#[]⟩, .int .u64 0, .bool false] 28)) bt r bm s (zm, t0)) := Lib.hid (by
    have hr1 : Row (w.alloc (.cells #[.int .i64 0, .int .i64 0, .int .i64 0, .int .u64 0, .int .i64 0, .int .u64 0, .int .i64 0, .slice none 0 0, .slice none 0 0, .int .u64 0, .int .u64 0, .int .i64 0, .string ⟨#[]⟩, .int .u64 0, .bool false] 28)) r [.int .i64 0, .int .i64 0, .int .i64 0, .int .u64 0, .int .i64 0, .int .u64 0, .int .i64 0, .slice none 0 0, .slice none 0 0, .int .u64 0, .int .u64 0, .int .i64 0, .string ⟨#[]⟩, .int .u64 0, .bool false] := er ▸ Row.new w _ _
    have hr2 := Row.new (w.alloc (.cells #[.int .i64 0, .int .i64 0, .int .i64 0, .int .u64 0, .int .i64 0, .int .u64 0, .int .i64 0, .slice none 0 0, .slice none 0 0, .int .u64 0, .int .u64 0, .int .i64 0, .string ⟨#[]⟩, .int .u64 0, .bool false] 28)) #[.int .i64 0, .int .i64 0, .int .i64 0, .int .u64 0, .int .i64 0, .int .u64 0, .int .i64 0, .slice none 0 0, .slice none 0 0, .int .u64 0, .int .u64 0, .int .i64 0, .string ⟨#[]⟩, .int .u64 0, .bool false] 28
    have hr3 : Row ((w.alloc (.cells #[.int .i64 0, .int .i64 0, .int .i64 0, .int .u64 0, .int .i64 0, .int .u64 0, .int .i64 0, .slice none 0 0, .slice none 0 0, .int .u64 0, .int .u64 0, .int .i64 0, .string ⟨#[]⟩, .int .u64 0, .bool false] 28)).alloc (.cells #[.int .i64 0, .int .i64 0, .int .i64 0, .int .u64 0, .int .i64 0, .int .u64 0, .int .i64 0, .slice none 0 0, .slice none 0 0, .int .u64 0, .int .u64 0, .int .i64 0, .string ⟨#[]⟩, .int .u64 0, .bool false] 28)) bm [.int .i64 0, .int .i64 0, .int .i64 0, .int .u64 0, .int .i64 0, .int .u64 0, .int .i64 0, .slice none 0 0, .slice none 0 0, .int .u64 0, .int .u64 0, .int .i64 0, .string ⟨#[]⟩, .int .u64 0, .bool false] := by
      have e : (w.alloc (.cells #[.int .i64 0, .int .i64 0, .int .i64 0, .int .u64 0, .int .i64 0, .int .u64 0, .int .i64 0, .slice none 0 0, .slice none 0 0, .int .u64 0, .int .u64 0, .int .i64 0, .string ⟨#[]⟩, .int .u64 0, .bool false] 28)).heap.size = bm := by simp; omega
      rw [e] at hr2; exact hr2
    exact ⟨hT.on hba, ⟨.slice none 0 0, .slice none 0 0, hr3, OwnN.nil _ _, Own.nil _ _⟩, Kp.of hba, hr1.on ((Below.refl _ _).alloc (Nat.le_refl _) _) (show 0 < 15 by decide)⟩)
  have z0 : w.heap.size ≤ ((w.alloc (.cells #[.int .i64 0, .int .i64 0, .int .i64 0, .int .u64 0, .int .i64 0, .int .u64 0, .int .i64 0, .slice none 0 0, .slice none 0 0, .int .u64 0, .int .u64 0, .int .i64 0, .string ⟨#[]⟩, .int .u64 0, .bool false] 28)).alloc (.cells #[.int .i64 0, .int .i64 0, .int .i64 0, .int .u64 0, .int .i64 0, .int .u64 0, .int .i64 0, .slice none 0 0, .slice none 0 0, .int .u64 0, .int .u64 0, .int .i64 0, .string ⟨#[]⟩, .int .u64 0, .bool false] 28)).heap.size := hba.size
  have HEr := Lib.hid er
  have HEb : Hid (w.heap.size ≤ bm) := Lib.hid (by omega)
  have HEm := Lib.hid ebm
  clear hT hba hlt
  go_enter Tryd.func40, Tryd.ntmps40
  go_upto_region 2 with (fail)
  generalize (w.alloc (.cells #[.int .i64 0, .int .i64 0, .int .i64 0, .int .u64 0, .int .i64 0, .int .u64 0, .int .i64 0, .slice none 0 0, .slice none 0 0, .int .u64 0, .int .u64 0, .int .i64 0, .string ⟨#[]⟩, .int .u64 0, .bool false] 28)).alloc (.cells #[.int .i64 0, .int .i64 0, .int .i64 0, .int .u64 0, .int .i64 0, .int .u64 0, .int .i64 0, .slice none 0 0, .slice none 0 0, .int .u64 0, .int .u64 0, .int .i64 0, .string ⟨#[]⟩, .int .u64 0, .bool false] 28) = w0 at *
  rw [← ebm, ← er]
  clear ebm er
  -- kind
  go_wp2_with fail
  refine (HN1.out _ HS0.out.t).mono ?_
  rintro e w1 ⟨rfl, hTk⟩
  obtain ⟨nv, tv, hM⟩ := HS0.out.m
  have hM1 := hM.took hTk hbt.2.2
  have wk : IntKind.i64.wrap (n1 : Int) = (n1 : Int) := IntWalk.i64_in _ ⟨by omega, by omega⟩
  have HS1 : Hid (Sta w (w1.setCell ⟨bm, 0, none⟩ (.int .i64 (n1 : Int))) bt r bm s ({ zm with kd := (n1 : Int) }, t1)) := Lib.hid (HS0.out.left (left_set hTk hM1 hbt.2.2 0 _ (by decide) rfl hM1.2.1 hM1.2.2) HEb.out z0 ⟨by omega, by omega⟩)
  have c0 := hM1.1.at_ 0 _ rfl
  have cf := hM1.1.2
  have z1 : w.heap.size ≤ (w1.setCell ⟨bm, 0, none⟩ (.int .i64 (n1 : Int))).heap.size := by have := hTk.2.size; simp; omega
  clear hTk hM hM1 HS0 HN1 z0
  go_upto_region 3 with (fail)
  generalize w1.setCell ⟨bm, 0, none⟩ (.int .i64 (n1 : Int)) = w2 at *
  clear c0 cf wk
  -- from
  go_wp2_with fail
  refine (HN2.out _ HS1.out.t).mono ?_
  rintro e w3 ⟨rfl, hTk⟩
  obtain ⟨nv, tv, hM⟩ := HS1.out.m
  have hM1 := hM.took hTk hbt.2.2
  have HS2 : Hid (Sta w (w3.setCell ⟨bm, 1, none⟩ (.int .i64 (n2 : Int))) bt r bm s ({ zm with kd := (n1 : Int), fr := (n2 : Int) }, t2)) := Lib.hid (HS1.out.left (left_set hTk hM1 hbt.2.2 1 _ (by decide) rfl hM1.2.1 hM1.2.2) HEb.out z1 ⟨by omega, by omega⟩)
  have c1 := hM1.1.at_ 1 _ rfl
  have cf := hM1.1.2
  have z2 : w.heap.size ≤ (w3.setCell ⟨bm, 1, none⟩ (.int .i64 (n2 : Int))).heap.size := by have := hTk.2.size; simp; omega
  clear hTk hM hM1 HS1 HN2 z1
  go_upto_region 4 with (fail)
  generalize w3.setCell ⟨bm, 1, none⟩ (.int .i64 (n2 : Int)) = w4 at *
  clear c1 cf
  -- to
  go_wp2_with fail
  refine (HN3.out _ HS2.out.t).mono ?_
  rintro e w5 ⟨rfl, hTk⟩
  obtain ⟨nv, tv, hM⟩ := HS2.out.m
  have hM1 := hM.took hTk hbt.2.2
  have HS3 : Hid (Sta w (w5.setCell ⟨bm, 2, none⟩ (.int .i64 (n3 : Int))) bt r bm s x0) := Lib.hid (by rw [HX0.out]; exact HS2.out.left (left_set hTk hM1 hbt.2.2 2 _ (by decide) rfl hM1.2.1 hM1.2.2) HEb.out z2 ⟨by omega, by omega⟩)
  have HKd : Hid (x0.1.kd = (n1 : Int)) := Lib.hid (by rw [HX0.out])
  have c2 := hM1.1.at_ 2 _ rfl
  have cf := hM1.1.2
  have z3 : w.heap.size ≤ (w5.setCell ⟨bm, 2, none⟩ (.int .i64 (n3 : Int))).heap.size := by have := hTk.2.size; simp; omega
  clear hTk hM hM1 HS2 HN3 z2
  go_upto_region 5 with (fail)
  generalize w5.setCell ⟨bm, 2, none⟩ (.int .i64 (n3 : Int)) = w6 at *
  clear c2 cf
  -- the table
  go_wp2_with fail
  refine (parts_any _).mono ?_
  rintro e wP ⟨g, rfl, hgB, hTab, hb⟩
  have HTab := Lib.hid hTab
  have HgB := Lib.hid hgB
  have HS4 := Lib.hid (HS3.out.on hb z3)
  have z4 : w.heap.size ≤ wP.heap.size := Nat.le_trans z3 hb.size
  have hbB : bm < w6.heap.size := by
    obtain ⟨_, _, hM⟩ := HS3.out.m
    exact hM.lt
  clear hTab hgB hb HS3 z3
  generalize w6.heap.size = B at *
  obtain ⟨nv, tv, hM⟩ := HS4.out.m
  have c0 := hM.1.at_ 0 _ rfl
  rw [HKd.out] at c0
  go_wp2_with fail
  refine (HPO.out _).mono ?_
  rintro e w7 ⟨LA, Lc, rfl, hLs, hLb, hb⟩
  have HLs := Lib.hid hLs
  have HLb : Hid (∀ ad, LA = some ad → ¬ ad.block ∈ [bt, bm]) := Lib.hid (fun ad e => by
    have := hLb ad e
    have := hM.lt
    simp; omega)
  have HS5 := Lib.hid (HS4.out.on hb z4)
  have HPS : Hid (Kp wP.heap.size [bt, bm] wP w7) := Lib.hid (Kp.of hb)
  have z5 : w.heap.size ≤ w7.heap.size := Nat.le_trans z4 hb.size
  clear hLs hLb hb HS4 hM c0 HPO z4
  have hln := HL20.out
  go_wp2_with fail
  go_loopw [22] (fun i wr => ∃ (k : Nat), i = .int .i64 k ∧ k ≤ L.length ∧ Hid (Sta w wr bt r bm s (decL s (L.take k) x0)) ∧ Hid (Kp w7.heap.size [bt, bm] w7 wr)) (fun i _ => L.length - (intOf i).toNat)
  case atStart => exact ⟨0, rfl, Nat.zero_le _, Lib.hid (by rw [HD0.out]; exact HS5.out), Lib.hid (Kp.refl _ _ _)⟩
  case round =>
    obtain ⟨k, rfl, hk, hst, hkr⟩ := hrel
    by_cases hlt : k < L.length
    · obtain ⟨ad, rfl, hlo, hcell⟩ := (HLs.out.kp hkr.out HLb.out) k hlt
      have hge : L.getD k 0 = L[k] := by simp [List.getD, hlt]
      have hmi := HL11.out (L.getD k 0) (by rw [hge]; exact List.getElem_mem hlt)
      have HN := Lib.hid (HDZ.out k hlt)
      have hle := HLe.out (L.take k)
      clear hge
      generalize L.getD k 0 = i at *
      generalize decL s (L.take k) x0 = x at *
      obtain ⟨f, hM, hdom, hsem⟩ := HTab.out
      obtain ⟨v, hv⟩ : ∃ v, f (i : Int) = some v := by
        have := (hdom (i : Int)).2 ⟨by omega, by omega⟩
        exact Option.isSome_iff_exists.1 this
      obtain ⟨nm, nz, nl, nt, cm, cz, cl, ct, rfl, ⟨_, _, _, het⟩, hW⟩ := hsem i v hmi hv
      have hkP : Kp wP.heap.size [bt, bm] wP wr := HPS.out.trans (hkr.out.mono HPS.out.size (fun _ _ h => h))
      have hSame : Same B wP wr := ⟨hkP.size, fun j h1 h2 => hkP.block j h2 (by simp; omega)⟩
      have hlook := (hM.blk (hkP.block g hM.lt (by have := HgB.out; simp; omega))).look (i : Int) ⟨by omega, by omega⟩ _ hv
      obtain ⟨nv, tv, hMD⟩ := hst.out.m
      have HC := Lib.hid ((hW wr hSame).2.2.2 s x.2 x.1 bt bm nv tv hs hle hbt.2.2 hbB hst.out.t hMD)
      have het' : ∀ (args : Array Value) (w : World), (callFunc nt args).run Tryd.prog w = .ok (.enter nt args) w := het
      have hfd : ∀ W : World, (Instr.field 57 (.agg #[.func (.func nm) #[] cm.toArray, .func (.func nz) #[] cz.toArray, .func (.func nl) #[] cl.toArray, .func (.func nt) #[] ct.toArray]) 3).run Tryd.prog W = .ok (.func (.func nt) #[] ct.toArray) W := fun W => by kernel_rfl
      have k0' : (0 : Int) ≤ (k : Int) := by omega
      have k1' : (k : Int) < (L.length : Int) := by omega
      have e0 : decide ((k : Int) < (L.length : Int)) = true := by simpa using k1'
      have e0' : decide (k < L.length) = true := by simpa using hlt
      have zr : w.heap.size ≤ wr.heap.size := Nat.le_trans z5 hkr.out.size
      clear hW het hM hdom hsem hv hkP hSame hmi hMD hle
      go_wp2_with (go_at_fn nt; refine HC.out.mono ?_; rintro e w8 ⟨rfl, hL⟩)
      go_roundw
      case rel => exact ⟨k + 1, by go_num, by omega, Lib.hid (by rw [HN.out]; exact hst.out.left hL HEb.out zr ⟨by omega, by omega⟩), Lib.hid (hkr.out.trans (hL.2.2.mono hkr.out.size (fun _ _ h => h)))⟩
      case measure => simp [intOf]; omega
    · have hkl : k = L.length := by omega
      have e0 : decide ((k : Int) < (L.length : Int)) = false := by simp; omega
      have e0' : decide (k < L.length) = false := by simpa using hlt
      have HF : Hid (Sta w wr bt r bm s (decL s L x0)) := Lib.hid (by have := hst.out; rwa [hkl, List.take_length] at this)
      clear hkl hst
      obtain ⟨x, hx⟩ : ∃ x, x = decL s L x0 := ⟨_, rfl⟩
      rw [← hx] at HF
      have HXE := Lib.hid hx
      clear hx
      obtain ⟨nv, tv, hR, hN, hK⟩ := HF.out.m
      obtain ⟨NA, Nc, rfl, _, _⟩ := hN.lst
      obtain ⟨TA, Tc, rfl, _, _⟩ := hK.lst
      have hRr := HF.out.r
      have y0 := hR.at_ 0 _ rfl
      have y1 := hR.at_ 1 _ rfl
      have y2 := hR.at_ 2 _ rfl
      have y3 := hR.at_ 3 _ rfl
      have y4 := hR.at_ 4 _ rfl
      have y5 := hR.at_ 5 _ rfl
      have y6 := hR.at_ 6 _ rfl
      have y7 := hR.at_ 7 _ rfl
      have y8 := hR.at_ 8 _ rfl
      have y9 := hR.at_ 9 _ rfl
      have y10 := hR.at_ 10 _ rfl
      have y11 := hR.at_ 11 _ rfl
      have y12 := hR.at_ 12 _ rfl
      have y13 := hR.at_ 13 _ rfl
      have y14 := hR.at_ 14 _ rfl
      have r0 := hRr.at_ 0 _ rfl
      have r1 := hRr.at_ 1 _ rfl
      have r2 := hRr.at_ 2 _ rfl
      have r3 := hRr.at_ 3 _ rfl
      have r4 := hRr.at_ 4 _ rfl
      have r5 := hRr.at_ 5 _ rfl
      have r6 := hRr.at_ 6 _ rfl
      have r7 := hRr.at_ 7 _ rfl
      have r8 := hRr.at_ 8 _ rfl
      have r9 := hRr.at_ 9 _ rfl
      have r10 := hRr.at_ 10 _ rfl
      have r11 := hRr.at_ 11 _ rfl
      have r12 := hRr.at_ 12 _ rfl
      have r13 := hRr.at_ 13 _ rfl
      have r14 := hRr.at_ 14 _ rfl
      have rf := hRr.2
      have HTF := Lib.hid (And.intro HF.out.t HF.out.k)
      have HRb : Hid (w.heap.size ≤ r) := Lib.hid (by rw [HEr.out]; exact Nat.le_refl _)
      have HNF := Lib.hid hN
      have HKF := Lib.hid hK
      have hbtr : ¬ bt = r := by omega
      clear hR hN hK hRr HF
      go_wp2_with fail
      refine bodyPost_ret (v := mvv x.1 (.slice NA x.1.ns.length Nc) (.slice TA x.1.tb.length Tc)) (by simp [results, Tryd.results40, go_sem, mvv, r0, r1, r2, r3, r4, r5, r6, r7, r8, r9, r10, r11, r12, r13, r14]) rfl ?_
      rw [← HXE.out]
      refine ⟨_, _, rfl, ?_, ?_, ?_, ?_⟩
      · refine OwnN.mono ?_ (show w.heap.size ≤ bm + 1 by have := HEb.out; omega)
        iterate 15 (refine OwnN.cellFar ?_ (by omega))
        exact HNF.out
      · refine Own.mono ?_ (show w.heap.size ≤ bm + 1 by have := HEb.out; omega)
        iterate 15 (refine Own.cellFar ?_ (by omega))
        exact HKF.out
      · unfold TkAt
        iterate 15 (refine Row.other ?_ hbtr _)
        exact HTF.out.1
      · iterate 15 (refine Kp.set ?_ (.inr HRb.out) _)
        exact HTF.out.2
end Go.Proofs.YtjeepmdklbfgeaaDoor
