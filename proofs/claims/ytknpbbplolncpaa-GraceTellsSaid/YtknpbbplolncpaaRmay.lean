/-
  The walk of the document's May.
-/
import Derived.Test.YtknpbbplolncpaaRipe
namespace Go.Proofs.Ytknpbbplolncpaa
open Go.Sort Go.RowKit Go.Proofs.Ytknpbbplolncpaa.Pure

/-- May the one at a place be? -/
def MayJ (l : List Db) (j : Nat) : Prop := (0 ≤ (db l j).w ∧ (db l j).w ≤ 63 ∧ (0 < j → (db l (j - 1)).w < (db l j).w)) ∧ OkD (db l j).ct
theorem may_all (l : List Db) : mayD (l.map Db.ct) = true ↔ ∀ j, j < l.length → MayJ l j := by
  rw [mayD_iff, riseB_iff]
  simp only [List.length_map, ct_at, whos_len]
  have hw : ∀ j, j < l.length → (whos (l.map Db.ct)).getD j 0 = (db l j).w := fun j hj => by rw [whos_at _ (by rw [List.length_map]; exact hj), ct_at]; rfl
  constructor
  · rintro ⟨h1, h2⟩ j hj
    have := h2 j hj
    rw [hw j hj] at this
    refine ⟨⟨this.1, by omega, fun h0 => ?_⟩, h1 j hj⟩
    have h3 := this.2.2 h0
    rwa [hw (j - 1) (by omega)] at h3
  · intro h
    refine ⟨fun j hj => (h j hj).2, fun j hj => ?_⟩
    have := (h j hj).1
    rw [hw j hj]
    refine ⟨this.1, by omega, fun h0 => ?_⟩
    rw [hw (j - 1) (by omega)]
    exact this.2.2 h0

set_option maxRecDepth 100000 in
set_option maxHeartbeats 4000000 in
theorem rmay_any (A : Option Addr) (c hi : Nat) (l : List Db) (w : World) (hs : Sm l) (h : Ds w hi A l) (hh : hi ≤ w.heap.size) (L : Bool) (hL : mayD (l.map Db.ct) = L) :
    Calls Try.prog 15 #[.slice A l.length c] w fun e w' => e = .returned (.bool L) ∧ Below w.heap.size w w' := by
  have H := Lib.hid h
  have HS := Lib.hid hs
  have HH := Lib.hid hh
  have HL : Hid ((∀ j, j < l.length → MayJ l j) ↔ L = true) := Lib.hid (by rw [← hL, may_all])
  have hl0 := hs.1
  clear h hs hh hL
  go_enter Try.func15, Try.ntmps15
  go_wp2_with fail
  go_loopw [3] (fun i wr => ∃ k : Nat, i = .int .i64 k ∧ k ≤ l.length ∧ Hid (∀ j, j < k → MayJ l j) ∧ Hid (Below w.heap.size w wr)) (fun i _ => l.length - (intOf i).toNat)
  case atStart => exact ⟨0, rfl, Nat.zero_le _, Lib.hid (fun j hj => absurd hj (Nat.not_lt_zero j)), Lib.hid (Below.refl _ _)⟩
  case round =>
    obtain ⟨wq, ewq⟩ : ∃ wq, wq = wr := ⟨_, rfl⟩
    subst ewq
    obtain ⟨k, rfl, hk, HOK, HBq⟩ := hrel
    by_cases hlt : k < l.length
    · have hds := H.out.on HBq.out HH.out
      obtain ⟨ad, rfl, hlo, h1, hrd⟩ := hds k hlt
      obtain ⟨a0, a1, a2, a3⟩ := h1.flat
      have HPV : Hid (0 < k → wq.cell? (ad.add ((k - 1) * 4)) = some (.int .i64 (db l (k - 1)).w)) := Lib.hid (fun h0 => by
        obtain ⟨ad', e, _, h2, _⟩ := hds (k - 1) (by omega)
        obtain rfl := Option.some.inj e
        exact h2.1)
      have k0 : (0 : Int) ≤ (k : Int) := by omega
      have k1 : (k : Int) < (l.length : Int) := by omega
      have HF : Hid (¬MayJ l k → L = false) := Lib.hid (fun hne => by
        rcases L with _ | _
        · rfl
        · exact absurd (HL.out.2 rfl k hlt) hne)
      have HT : Hid (MayJ l k → ∀ j, j < k + 1 → MayJ l j) := Lib.hid (fun he j hj => by
        rcases Nat.lt_or_ge j k with hjk | hjk
        · exact HOK.out j hjk
        · obtain rfl : j = k := by omega
          exact he)
      have HBN := Lib.hid (HS.out.2 _ (db_mem l hlt))
      have HRD := Lib.hid hrd
      have HX : Hid (MayJ l k ↔ ((0 ≤ (db l k).w ∧ (db l k).w ≤ 63 ∧ (0 < k → (db l (k - 1)).w < (db l k).w)) ∧ (0 ≤ (db l k).t ∧ (db l k).t ≤ 1099511627776) ∧ (db l k).b ≠ [] ∧ nodesB (db l k).b = true)) := Lib.hid (by
        rw [rise_nodes]
        exact Iff.rfl)
      clear h1 hrd hds HOK
      generalize hy : (db l (k - 1)).w = yw at *
      clear hy
      generalize hM : MayJ l k = MM at *
      clear hM
      generalize db l k = x at *
      have hw1 : Below wq.heap.size wq (wq.alloc (.cells #[.int .i64 x.w, .int .u64 x.i, .int .i64 x.t, .slice x.A x.b.length x.c] 55)) := (Below.refl _ _).alloc (Nat.le_refl _) _
      have BX : Hid (Bt (wq.alloc (.cells #[.int .i64 x.w, .int .u64 x.i, .int .i64 x.t, .slice x.A x.b.length x.c] 55)) wq.heap.size x) := Lib.hid (Bt.new wq x _)
      have HB1 := Lib.hid (HBq.out.trans (hw1.mono HBq.out.size))
      have HR1 := Lib.hid (HRD.out.on hw1)
      have HPV1 : Hid (0 < k → (wq.alloc (.cells #[.int .i64 x.w, .int .u64 x.i, .int .i64 x.t, .slice x.A x.b.length x.c] 55)).cell? (ad.add ((k - 1) * 4)) = some (.int .i64 yw)) := Lib.hid (fun h0 => cell_on (HPV.out h0) hw1)
      go_upto_region 5 with (fail)
      clear a0 a1 a2 a3 hw1 HBq HRD HPV
      generalize wq.alloc (.cells #[.int .i64 x.w, .int .u64 x.i, .int .i64 x.t, .slice x.A x.b.length x.c] 55) = w1 at *
      generalize wq.heap.size = nb at *
      obtain ⟨b0, b1, b2, b3⟩ := BX.out
      have X0 : ∀ p : Regrown, (grow (redrawn w1 p.d) p.os).cell? ⟨nb, 0, none⟩ = some (.int .i64 x.w) := fun p => cell_regrown b0 p.d p.os
      have X2 : ∀ p : Regrown, (grow (redrawn w1 p.d) p.os).cell? ⟨nb, 2, none⟩ = some (.int .i64 x.t) := fun p => cell_regrown b2 p.d p.os
      have X3 : ∀ p : Regrown, (grow (redrawn w1 p.d) p.os).cell? ⟨nb, 3, none⟩ = some (.slice x.A x.b.length x.c) := fun p => cell_regrown b3 p.d p.os
      obtain ⟨N, hN⟩ : ∃ N, nodesB x.b = N := ⟨_, rfl⟩
      have HNO := Lib.hid (fun p : Regrown => rnodes_t x.A x.c 0 (grow (redrawn w1 p.d) p.os).heap.size x.b (grow (redrawn w1 p.d) p.os) (by have := HBN.out; omega) (HR1.out.on (below_regrown w1 p.d p.os)).1.has N hN)
      rw [hN] at HX
      clear hN b0 b1 b2 b3 BX
      have HZ : Hid (x.b = [] ↔ x.b.length = 0) := Lib.hid List.length_eq_zero_iff.symm
      have hbl0 := HBN.out
      generalize hbl : x.b.length = bl at *
      have HXF : Hid (¬((0 ≤ x.w ∧ x.w ≤ 63 ∧ (0 < k → yw < x.w)) ∧ (0 ≤ x.t ∧ x.t ≤ 1099511627776) ∧ bl ≠ 0 ∧ N = true) → L = false) := Lib.hid (fun hne => HF.out (fun hm => hne (by
        obtain ⟨h1, h2, h3, h4⟩ := HX.out.1 hm
        exact ⟨h1, h2, fun e => h3 (HZ.out.2 e), h4⟩)))
      have HXT : Hid (((0 ≤ x.w ∧ x.w ≤ 63 ∧ (0 < k → yw < x.w)) ∧ (0 ≤ x.t ∧ x.t ≤ 1099511627776) ∧ bl ≠ 0 ∧ N = true) → ∀ j, j < k + 1 → MayJ l j) := Lib.hid (fun ⟨h1, h2, h3, h4⟩ => HT.out (HX.out.2 ⟨h1, h2, fun e => h3 (HZ.out.1 e), h4⟩))
      clear HX HF HT HZ hbl HR1 HBN
      generalize x.w = xw at *
      generalize x.t = xt at *
      generalize x.A = xA at *
      generalize x.c = xc at *
      generalize x.i = xi at *
      clear x
      by_cases c1 : xw < 0
      · have dc1 : decide (xw < 0) = true := by simp; omega
        obtain rfl := HXF.out (by omega)
        clear HXF HXT
        refine q_enter (by kernel_rfl) (by kernel_rfl) ?_
        iterate 45 (refine q_step ?_; intro K hK; go_simp; first | (refine hK _ ?_; clear hK K) | (refine ⟨_, fun p => Calls.regrown_of (by with_reducible exact HNO.out p), hK _ ?_⟩; clear hK K))
        refine q_nil ?_
        intro w3 hb3
        have HB3 : Hid (Below w.heap.size w w3) := Lib.hid (HB1.out.trans (hb3.mono HB1.out.size))
        clear hb3 X0 X2 X3 HNO HPV1 HB1
        go_wp2_with fail
        go_ret
        exact ⟨rfl, HB3.out⟩
      have dc1 : decide (xw < 0) = false := by simp; omega
      by_cases c2 : 63 < xw
      · have dc2 : decide (63 < xw) = true := by simp; omega
        obtain rfl := HXF.out (by omega)
        clear HXF HXT
        refine q_enter (by kernel_rfl) (by kernel_rfl) ?_
        iterate 45 (refine q_step ?_; intro K hK; go_simp; first | (refine hK _ ?_; clear hK K) | (refine ⟨_, fun p => Calls.regrown_of (by with_reducible exact HNO.out p), hK _ ?_⟩; clear hK K))
        refine q_nil ?_
        intro w3 hb3
        have HB3 : Hid (Below w.heap.size w w3) := Lib.hid (HB1.out.trans (hb3.mono HB1.out.size))
        clear hb3 X0 X2 X3 HNO HPV1 HB1
        go_wp2_with fail
        go_ret
        exact ⟨rfl, HB3.out⟩
      have dc2 : decide (63 < xw) = false := by simp; omega
      by_cases hk0 : k = 0
      · have dk : decide ((0 : Int) < (k : Int)) = false := by simp; omega
        have dk' : ¬(0 : Int) < (k : Int) := by omega
        have dk2 : decide (0 < k) = false := by simp; omega
        have dk3 : ¬0 < k := by omega
        by_cases c4 : xt < 0
        · have dc4 : decide (xt < 0) = true := by simp; omega
          obtain rfl := HXF.out (by omega)
          clear HXF HXT
          refine q_enter (by kernel_rfl) (by kernel_rfl) ?_
          iterate 45 (refine q_step ?_; intro K hK; go_simp; first | (refine hK _ ?_; clear hK K) | (refine ⟨_, fun p => Calls.regrown_of (by with_reducible exact HNO.out p), hK _ ?_⟩; clear hK K))
          refine q_nil ?_
          intro w3 hb3
          have HB3 : Hid (Below w.heap.size w w3) := Lib.hid (HB1.out.trans (hb3.mono HB1.out.size))
          clear hb3 X0 X2 X3 HNO HPV1 HB1
          go_wp2_with fail
          go_ret
          exact ⟨rfl, HB3.out⟩
        have dc4 : decide (xt < 0) = false := by simp; omega
        by_cases c5 : 1099511627776 < xt
        · have dc5 : decide (1099511627776 < xt) = true := by simp; omega
          obtain rfl := HXF.out (by omega)
          clear HXF HXT
          refine q_enter (by kernel_rfl) (by kernel_rfl) ?_
          iterate 45 (refine q_step ?_; intro K hK; go_simp; first | (refine hK _ ?_; clear hK K) | (refine ⟨_, fun p => Calls.regrown_of (by with_reducible exact HNO.out p), hK _ ?_⟩; clear hK K))
          refine q_nil ?_
          intro w3 hb3
          have HB3 : Hid (Below w.heap.size w w3) := Lib.hid (HB1.out.trans (hb3.mono HB1.out.size))
          clear hb3 X0 X2 X3 HNO HPV1 HB1
          go_wp2_with fail
          go_ret
          exact ⟨rfl, HB3.out⟩
        have dc5 : decide (1099511627776 < xt) = false := by simp; omega
        by_cases c6 : bl = 0
        · have dc6 : ((bl : Int) == 0) = true := by simp; omega
          subst c6
          obtain rfl := HXF.out (by omega)
          clear HXF HXT
          refine q_enter (by kernel_rfl) (by kernel_rfl) ?_
          iterate 45 (refine q_step ?_; intro K hK; go_simp; first | (refine hK _ ?_; clear hK K) | (refine ⟨_, fun p => Calls.regrown_of (by with_reducible exact HNO.out p), hK _ ?_⟩; clear hK K))
          refine q_nil ?_
          intro w3 hb3
          have HB3 : Hid (Below w.heap.size w w3) := Lib.hid (HB1.out.trans (hb3.mono HB1.out.size))
          clear hb3 X0 X2 X3 HNO HPV1 HB1
          go_wp2_with fail
          go_ret
          exact ⟨rfl, HB3.out⟩
        have dc6 : ((bl : Int) == 0) = false := by simp; omega
        have c6' : ¬(bl : Int) = 0 := by omega
        rcases N with _ | _
        · obtain rfl := HXF.out (by simp)
          clear HXF HXT
          refine q_enter (by kernel_rfl) (by kernel_rfl) ?_
          iterate 45 (refine q_step ?_; intro K hK; go_simp; first | (refine hK _ ?_; clear hK K) | (refine ⟨_, fun p => Calls.regrown_of (by with_reducible exact HNO.out p), hK _ ?_⟩; clear hK K))
          refine q_nil ?_
          intro w3 hb3
          have HB3 : Hid (Below w.heap.size w w3) := Lib.hid (HB1.out.trans (hb3.mono HB1.out.size))
          clear hb3 X0 X2 X3 HNO HPV1 HB1
          go_wp2_with fail
          go_ret
          exact ⟨rfl, HB3.out⟩
        · have HT' := Lib.hid (HXT.out (by refine ⟨⟨by omega, by omega, by omega⟩, ⟨by omega, by omega⟩, by omega, rfl⟩))
          clear HXF HXT
          refine q_enter (by kernel_rfl) (by kernel_rfl) ?_
          iterate 45 (refine q_step ?_; intro K hK; go_simp; first | (refine hK _ ?_; clear hK K) | (refine ⟨_, fun p => Calls.regrown_of (by with_reducible exact HNO.out p), hK _ ?_⟩; clear hK K))
          refine q_nil ?_
          intro w3 hb3
          have HB3 : Hid (Below w.heap.size w w3) := Lib.hid (HB1.out.trans (hb3.mono HB1.out.size))
          clear hb3 X0 X2 X3 HNO HPV1 HB1
          go_wp2_with fail
          go_roundw
          case rel => exact ⟨k + 1, by go_num, by omega, HT', HB3⟩
          case measure => simp [intOf]; omega
      · have dk : decide ((0 : Int) < (k : Int)) = true := by simp; omega
        have dk' : (0 : Int) < (k : Int) := by omega
        have dk2 : decide (0 < k) = true := by simp; omega
        have dk3 : 0 < k := by omega
        have p0 := HPV1.out (by omega)
        obtain ⟨m, hm⟩ : ∃ m : Nat, m = k - 1 := ⟨_, rfl⟩
        have hkm : IntKind.i64.wrap ((k : Int) - 1) = (m : Int) := by rw [IntWalk.i64_in _ (by omega)]; omega
        rw [← hm] at p0
        have g0 : (0 : Int) ≤ (m : Int) := by omega
        have g1 : (m : Int) < (l.length : Int) := by omega
        have P0 : ∀ p : Regrown, (grow (redrawn w1 p.d) p.os).cell? (ad.add (m * 4)) = some (.int .i64 yw) := fun p => cell_regrown p0 p.d p.os
        clear p0 hm
        by_cases c3 : xw ≤ yw
        · have dc3 : decide (xw ≤ yw) = true := by simp; omega
          obtain rfl := HXF.out (by omega)
          clear HXF HXT
          refine q_enter (by kernel_rfl) (by kernel_rfl) ?_
          iterate 45 (refine q_step ?_; intro K hK; go_simp; first | (refine hK _ ?_; clear hK K) | (refine ⟨_, fun p => Calls.regrown_of (by with_reducible exact HNO.out p), hK _ ?_⟩; clear hK K))
          refine q_nil ?_
          intro w3 hb3
          have HB3 : Hid (Below w.heap.size w w3) := Lib.hid (HB1.out.trans (hb3.mono HB1.out.size))
          clear hb3 X0 X2 X3 HNO HPV1 HB1
          go_wp2_with fail
          go_ret
          exact ⟨rfl, HB3.out⟩
        have dc3 : decide (xw ≤ yw) = false := by simp; omega
        by_cases c4 : xt < 0
        · have dc4 : decide (xt < 0) = true := by simp; omega
          obtain rfl := HXF.out (by omega)
          clear HXF HXT
          refine q_enter (by kernel_rfl) (by kernel_rfl) ?_
          iterate 45 (refine q_step ?_; intro K hK; go_simp; first | (refine hK _ ?_; clear hK K) | (refine ⟨_, fun p => Calls.regrown_of (by with_reducible exact HNO.out p), hK _ ?_⟩; clear hK K))
          refine q_nil ?_
          intro w3 hb3
          have HB3 : Hid (Below w.heap.size w w3) := Lib.hid (HB1.out.trans (hb3.mono HB1.out.size))
          clear hb3 X0 X2 X3 HNO HPV1 HB1
          go_wp2_with fail
          go_ret
          exact ⟨rfl, HB3.out⟩
        have dc4 : decide (xt < 0) = false := by simp; omega
        by_cases c5 : 1099511627776 < xt
        · have dc5 : decide (1099511627776 < xt) = true := by simp; omega
          obtain rfl := HXF.out (by omega)
          clear HXF HXT
          refine q_enter (by kernel_rfl) (by kernel_rfl) ?_
          iterate 45 (refine q_step ?_; intro K hK; go_simp; first | (refine hK _ ?_; clear hK K) | (refine ⟨_, fun p => Calls.regrown_of (by with_reducible exact HNO.out p), hK _ ?_⟩; clear hK K))
          refine q_nil ?_
          intro w3 hb3
          have HB3 : Hid (Below w.heap.size w w3) := Lib.hid (HB1.out.trans (hb3.mono HB1.out.size))
          clear hb3 X0 X2 X3 HNO HPV1 HB1
          go_wp2_with fail
          go_ret
          exact ⟨rfl, HB3.out⟩
        have dc5 : decide (1099511627776 < xt) = false := by simp; omega
        by_cases c6 : bl = 0
        · have dc6 : ((bl : Int) == 0) = true := by simp; omega
          subst c6
          obtain rfl := HXF.out (by omega)
          clear HXF HXT
          refine q_enter (by kernel_rfl) (by kernel_rfl) ?_
          iterate 45 (refine q_step ?_; intro K hK; go_simp; first | (refine hK _ ?_; clear hK K) | (refine ⟨_, fun p => Calls.regrown_of (by with_reducible exact HNO.out p), hK _ ?_⟩; clear hK K))
          refine q_nil ?_
          intro w3 hb3
          have HB3 : Hid (Below w.heap.size w w3) := Lib.hid (HB1.out.trans (hb3.mono HB1.out.size))
          clear hb3 X0 X2 X3 HNO HPV1 HB1
          go_wp2_with fail
          go_ret
          exact ⟨rfl, HB3.out⟩
        have dc6 : ((bl : Int) == 0) = false := by simp; omega
        have c6' : ¬(bl : Int) = 0 := by omega
        rcases N with _ | _
        · obtain rfl := HXF.out (by simp)
          clear HXF HXT
          refine q_enter (by kernel_rfl) (by kernel_rfl) ?_
          iterate 45 (refine q_step ?_; intro K hK; go_simp; first | (refine hK _ ?_; clear hK K) | (refine ⟨_, fun p => Calls.regrown_of (by with_reducible exact HNO.out p), hK _ ?_⟩; clear hK K))
          refine q_nil ?_
          intro w3 hb3
          have HB3 : Hid (Below w.heap.size w w3) := Lib.hid (HB1.out.trans (hb3.mono HB1.out.size))
          clear hb3 X0 X2 X3 HNO HPV1 HB1
          go_wp2_with fail
          go_ret
          exact ⟨rfl, HB3.out⟩
        · have HT' := Lib.hid (HXT.out (by refine ⟨⟨by omega, by omega, by omega⟩, ⟨by omega, by omega⟩, by omega, rfl⟩))
          clear HXF HXT
          refine q_enter (by kernel_rfl) (by kernel_rfl) ?_
          iterate 45 (refine q_step ?_; intro K hK; go_simp; first | (refine hK _ ?_; clear hK K) | (refine ⟨_, fun p => Calls.regrown_of (by with_reducible exact HNO.out p), hK _ ?_⟩; clear hK K))
          refine q_nil ?_
          intro w3 hb3
          have HB3 : Hid (Below w.heap.size w w3) := Lib.hid (HB1.out.trans (hb3.mono HB1.out.size))
          clear hb3 X0 X2 X3 HNO HPV1 HB1
          go_wp2_with fail
          go_roundw
          case rel => exact ⟨k + 1, by go_num, by omega, HT', HB3⟩
          case measure => simp [intOf]; omega
    · obtain rfl : k = l.length := by omega
      obtain rfl : L = true := HL.out.1 HOK.out
      go_wp2_with fail
      go_ret
      exact ⟨rfl, HBq.out⟩
end Go.Proofs.Ytknpbbplolncpaa
