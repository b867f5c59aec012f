/-
  The walks of the two orders, of what may be told, of Check; the document's One and May.
-/
import Derived.Test.YtipepmnnjhhjbaaRow
import Derived.Test.YtipepmnnjhhjbaaPlan
namespace Go.Proofs.Ytipepmnnjhhjbaa
open Go.Sort Go.RowKit Go.Proofs.Ytipepmnnjhhjbaa.Pure

/-- Some draws, and some blocks behind, and nothing else. -/
def Grew (w w' : World) : Prop := ∃ q os', w' = grow (w.drewN q) os'
theorem Grew.refl (w : World) : Grew w w := ⟨0, #[], by rw [grow_empty]; rfl⟩
theorem Grew.trans {a b c : World} (h : Grew a b) (k : Grew b c) : Grew a c := by
  obtain ⟨q, os, rfl⟩ := h
  obtain ⟨q', os', rfl⟩ := k
  exact ⟨q + q', os ++ os', by show grow (grow ((a.drewN q).drewN q') os) os' = _; rw [grow_grow, World.drewN_drewN]⟩
theorem Grew.alloc {a b : World} (h : Grew a b) (o : Obj) : Grew a (b.alloc o) := h.trans ⟨0, #[o], by rw [alloc_eq_grow]; rfl⟩
theorem Grew.drew {a b : World} (h : Grew a b) : Grew a b.drew := h.trans ⟨1, #[], by rw [grow_empty]; rfl⟩
theorem Grew.below {a b : World} (h : Grew a b) : Below a.heap.size a b := by
  obtain ⟨q, os, rfl⟩ := h
  exact ⟨rfl, rfl, rfl, by simp, fun k hk => heap_grow_old _ _ (by simpa using hk)⟩

/-- By whom, and by turn. -/
def cfW (x y : Td) : Int := cmpI x.w y.w
def cfT (x y : Td) : Int := firstN [cmpI y.l x.l, cmpI x.w y.w]
/-- What is told, as a value. -/
def tv (x : Td) : Value := .agg #[.int .i64 x.w, .int .u64 x.i, .int .i64 x.s, .int .i64 x.l]

set_option maxRecDepth 100000 in
set_option maxHeartbeats 1000000 in
theorem who_grew (x y : Td) (w : World) : Calls Try.prog 29 #[.agg #[.int .i64 x.w, .int .u64 x.i, .int .i64 x.s, .int .i64 x.l], .agg #[.int .i64 y.w, .int .u64 y.i, .int .i64 y.s, .int .i64 y.l]] w fun e w' => e = .returned (.int .i64 (cfW x y)) ∧ Grew w w' := by
  have HC := Lib.hid (fun W => cmpInt x.w y.w W)
  have HG : Hid (Grew w ((w.alloc (.cells #[.int .i64 x.w, .int .u64 x.i, .int .i64 x.s, .int .i64 x.l] 59)).alloc (.cells #[.int .i64 y.w, .int .u64 y.i, .int .i64 y.s, .int .i64 y.l] 59))) := Lib.hid (((Grew.refl w).alloc _).alloc _)
  unfold cfW
  generalize cmpI x.w y.w = r at *
  go_enter Try.func29, Try.ntmps29
  go_wp2_with (go_at_call 41; refine (HC.out _).mono ?_; rintro e w' ⟨rfl, rfl⟩)
  go_ret
  exact ⟨rfl, HG.out⟩

set_option maxRecDepth 100000 in
set_option maxHeartbeats 1000000 in
theorem left_grew (x : Td) (w : World) : Calls Try.prog 35 #[.agg #[.int .i64 x.w, .int .u64 x.i, .int .i64 x.s, .int .i64 x.l]] w fun e w' => e = .returned (.bool (x.l == 0)) ∧ Grew w w' := by
  have HG : Hid (Grew w (w.alloc (.cells #[.int .i64 x.w, .int .u64 x.i, .int .i64 x.s, .int .i64 x.l] 59))) := Lib.hid ((Grew.refl w).alloc _)
  go_enter Try.func35, Try.ntmps35
  go_wp2_with fail
  go_ret
  exact ⟨rfl, HG.out⟩

/-- The cells of block b hold x. -/
def Bt (w : World) (b : Nat) (x : Td) : Prop := w.cell? ⟨b, 0, none⟩ = some (.int .i64 x.w) ∧ w.cell? ⟨b, 1, none⟩ = some (.int .u64 x.i) ∧ w.cell? ⟨b, 2, none⟩ = some (.int .i64 x.s) ∧ w.cell? ⟨b, 3, none⟩ = some (.int .i64 x.l)
section
variable {w w' : World} {b : Nat} {x : Td}
theorem Bt.lt (h : Bt w b x) : b < w.heap.size := World.block_lt_of_cell? w _ h.1
theorem Bt.on (h : Bt w b x) (hb : Below w.heap.size w w') : Bt w' b x := ⟨(hb.cell h.lt).trans h.1, (hb.cell h.lt).trans h.2.1, (hb.cell h.lt).trans h.2.2.1, (hb.cell h.lt).trans h.2.2.2⟩
theorem Bt.new (w : World) (x : Td) (t : TypeId) : Bt (w.alloc (.cells #[.int .i64 x.w, .int .u64 x.i, .int .i64 x.s, .int .i64 x.l] t)) w.heap.size x := ⟨by go_simp, by go_simp, by go_simp, by go_simp⟩
theorem Bt.alloc (h : Bt w b x) (o : Obj) : Bt (w.alloc o) b x := h.on ((Below.refl _ _).alloc (Nat.le_refl _) o)
end

set_option maxRecDepth 100000 in
set_option maxHeartbeats 1000000 in
theorem checkT_any (x : Td) (w : World) : Calls Try.prog 27 #[.agg #[.int .i64 x.w, .int .u64 x.i, .int .i64 x.s, .int .i64 x.l]] w fun e w' => e = .returned (.int .i64 (okE (mayT x))) ∧ Below w.heap.size w w' := by
  have HM : Hid (mayT x = (decide (0 ≤ x.w) && decide (x.w < 64) && mayL [x.k] && decide (1 ≤ x.l) && decide (x.l ≤ 64))) := Lib.hid (by rw [show mayL [x.k] = mayK x.k by simp [mayL]]; rfl)
  have HC : Hid (∀ (W : World) (g : Nat), Lst W (some ⟨g, 0, none⟩) [x.k] → Calls Try.prog 40 #[.slice (some ⟨g, 0, none⟩) 1 1] W fun e w' => e = .returned (.int .i64 (okE (mayL [x.k]))) ∧ Below W.heap.size W w') :=
    Lib.hid fun W g h => check_any (some ⟨g, 0, none⟩) 1 [x.k] W (Nat.le_of_ble_eq_true rfl) h _ rfl
  have H1 : Hid (∀ W : World, Lst (W.alloc (.cells #[.int .u64 x.i, .int .i64 x.s] 25)) (some ⟨W.heap.size, 0, none⟩) [x.k]) := Lib.hid (fun W => Lst.one W x.k 25)
  have HB : Hid (Below w.heap.size w (w.alloc (.cells #[.int .i64 x.w, .int .u64 x.i, .int .i64 x.s, .int .i64 x.l] 59))) := Lib.hid ((Below.refl _ w).alloc (Nat.le_refl _) _)
  have HR : Hid (mayT x = true ↔ 0 ≤ x.w ∧ x.w < 64 ∧ mayL [x.k] = true ∧ 1 ≤ x.l ∧ x.l ≤ 64) := Lib.hid (by
    rw [HM.out]
    simp only [Bool.and_eq_true, decide_eq_true_iff, and_assoc])
  clear HM
  generalize mayT x = R at *
  generalize mayL [x.k] = L at *
  generalize x.k = xk at *
  generalize x.w = xw at *
  generalize x.i = xi at *
  generalize x.s = xs at *
  generalize x.l = xl at *
  have ho : okE false = 1 := rfl
  have HRF : Hid (¬(0 ≤ xw ∧ xw < 64 ∧ L = true ∧ 1 ≤ xl ∧ xl ≤ 64) → R = false) := Lib.hid (fun h => by
    rcases R with _ | _
    · rfl
    · exact absurd (HR.out.1 rfl) h)
  go_enter Try.func27, Try.ntmps27
  by_cases b1 : xw < 0
  · have e1 : decide (xw < 0) = true := by simpa using b1
    obtain rfl := HRF.out (by omega)
    rw [ho]
    clear b1
    go_wp2_with fail
    go_ret
    exact ⟨rfl, HB.out⟩
  have e1 : decide (xw < 0) = false := by simpa using b1
  by_cases b2 : 64 ≤ xw
  · have e2 : decide (64 ≤ xw) = true := by simpa using b2
    obtain rfl := HRF.out (by omega)
    rw [ho]
    clear b1 b2
    go_wp2_with fail
    go_ret
    exact ⟨rfl, HB.out⟩
  have e2 : decide (64 ≤ xw) = false := by simpa using b2
  by_cases b3 : xl < 1
  · have e3 : decide (xl < 1) = true := by simpa using b3
    obtain rfl := HRF.out (by omega)
    rw [ho]
    clear b1 b2 b3
    go_wp2_with fail
    go_ret
    exact ⟨rfl, HB.out⟩
  have e3 : decide (xl < 1) = false := by simpa using b3
  by_cases b4 : 64 < xl
  · have e4 : decide (64 < xl) = true := by simpa using b4
    obtain rfl := HRF.out (by omega)
    rw [ho]
    clear b1 b2 b3 b4
    go_wp2_with fail
    go_ret
    exact ⟨rfl, HB.out⟩
  have e4 : decide (64 < xl) = false := by simpa using b4
  obtain rfl : R = L := by
    rcases L with _ | _
    · exact HRF.out (by simp)
    · exact HR.out.2 ⟨by omega, by omega, rfl, by omega, by omega⟩
  clear b1 b2 b3 b4 HR HRF
  have BT : Hid (Bt (w.alloc (.cells #[.int .i64 xw, .int .u64 xi, .int .i64 xs, .int .i64 xl] 59)) w.heap.size ⟨xw, xi, xs, xl⟩) := Lib.hid (Bt.new w ⟨xw, xi, xs, xl⟩ _)
  go_upto_region 3 with (fail)
  generalize w.alloc (.cells #[.int .i64 xw, .int .u64 xi, .int .i64 xs, .int .i64 xl] 59) = w1 at *
  obtain ⟨u0, u1, u2, u3⟩ := BT.out
  have hz1 := HB.out.size
  go_wp2_with fail
  refine (HC.out _ _ (H1.out _)).mono ?_
  rintro e w2 ⟨rfl, hb2⟩
  have hb3 : Below w1.heap.size w1 w2 := ((Below.refl _ _).alloc (Nat.le_refl _) _).trans (hb2.mono (by simp))
  have HB1 : Hid (Below w.heap.size w w2) := Lib.hid (HB.out.trans (hb3.mono hz1))
  clear hb2 hb3 HB HC H1 u0 u1 u2 u3 BT
  go_wp2_with fail
  go_ret
  exact ⟨rfl, HB1.out⟩

set_option maxRecDepth 100000 in
set_option maxHeartbeats 1000000 in
theorem checkQ_any (A : Option Addr) (c : Nat) (q : List Td) (w : World) (hn : q.length ≤ 1000) (h : Ts w A q) (L : Bool) (hL : mayQ q = L) :
    Calls Try.prog 14 #[.slice A q.length c] w fun e w' => e = .returned (.int .i64 (okE L)) ∧ Below w.heap.size w w' := by
  have H := Lib.hid h
  have HL : Hid (L = true ↔ (∀ j, j < q.length → mayT (td q j) = true) ∧ ∀ j, j + 1 < q.length → (td q j).w < (td q (j + 1)).w) := Lib.hid (by rw [← hL]; exact mayQ_iff q)
  clear h hL
  have ho : okE true = 0 := rfl
  have hz : okE false = 1 := rfl
  go_enter Try.func14, Try.ntmps14
  go_wp2_with fail
  go_loopw [8] (fun i wr => ∃ k : Nat, i = .int .i64 k ∧ k ≤ q.length ∧ Hid ((∀ j, j < k → mayT (td q j) = true) ∧ ∀ j, j + 1 < k → (td q j).w < (td q (j + 1)).w) ∧ Hid (Below w.heap.size w wr)) (fun i _ => q.length - (intOf i).toNat)
  case atStart => exact ⟨0, rfl, Nat.zero_le _, Lib.hid ⟨fun j hj => absurd hj (Nat.not_lt_zero j), fun j hj => absurd hj (Nat.not_lt_zero _)⟩, Lib.hid (Below.refl _ _)⟩
  case round =>
    obtain ⟨k, rfl, hk, hok, hb⟩ := hrel
    by_cases hlt : k < q.length
    · obtain ⟨ad, rfl, hlo, h1⟩ := (H.out.on hb.out) k hlt
      obtain ⟨a0, a1, a2, a3⟩ := h1.flat
      have k0 : (0 : Int) ≤ (k : Int) := by omega
      have k1 : (k : Int) < (q.length : Int) := by omega
      have e0 : decide ((k : Int) < (q.length : Int)) = true := by simpa using k1
      have hsz := hb.out.size
      have HC := Lib.hid (fun W => checkT_any (td q k) W)
      have HB1 : Hid (Below w.heap.size w (wr.alloc (.cells #[.int .i64 (td q k).w, .int .u64 (td q k).i, .int .i64 (td q k).s, .int .i64 (td q k).l] 59))) := Lib.hid (hb.out.alloc hsz _)
      have BT : Hid (Bt (wr.alloc (.cells #[.int .i64 (td q k).w, .int .u64 (td q k).i, .int .i64 (td q k).s, .int .i64 (td q k).l] 59)) wr.heap.size (td q k)) := Lib.hid (Bt.new wr _ _)
      have HW := Lib.hid (fun W => who_grew (td q (k - 1)) (td q k) W)
      have HF : Hid (mayT (td q k) = false → L = false) := Lib.hid (fun h => by
        rcases L with _ | _
        · rfl
        · have := (HL.out.1 rfl).1 k hlt
          rw [h] at this; cases this)
      have HN : Hid (0 < k → 0 ≤ cfW (td q (k - 1)) (td q k) → L = false) := Lib.hid (fun hp h => by
        rcases L with _ | _
        · rfl
        · have := (HL.out.1 rfl).2 (k - 1) (by omega)
          rw [show k - 1 + 1 = k by omega] at this
          rcases cmp_cases (td q (k - 1)).w (td q k).w with c | c | c
          · unfold cfW at h; rw [c.2] at h; omega
          · omega
          · omega)
      have HS : Hid (mayT (td q k) = true → (k = 0 ∨ cfW (td q (k - 1)) (td q k) < 0) → (∀ j, j < k + 1 → mayT (td q j) = true) ∧ ∀ j, j + 1 < k + 1 → (td q j).w < (td q (j + 1)).w) := Lib.hid (fun h h2 => by
        constructor
        · intro j hj
          rcases Nat.lt_or_ge j k with hjk | hjk
          · exact hok.out.1 j hjk
          · obtain rfl : j = k := by omega
            exact h
        · intro j hj
          rcases Nat.lt_or_ge (j + 1) k with hjk | hjk
          · exact hok.out.2 j hjk
          · obtain rfl : k = j + 1 := by omega
            rcases h2 with h2 | h2
            · omega
            · rw [show j + 1 - 1 = j by omega] at h2
              rcases cmp_cases (td q j).w (td q (j + 1)).w with c | c | c
              · exact c.1
              · unfold cfW at h2; rw [c.2] at h2; omega
              · unfold cfW at h2; rw [c.2] at h2; omega)
      have HP : Hid (0 < k → ∀ w', Below w.heap.size w w' → TAt w' (ad.add ((k - 1) * 4)) (td q (k - 1))) := Lib.hid (fun hp w' hb' => by
        obtain ⟨ad', e, _, h4⟩ := (H.out.on hb') (k - 1) (by omega)
        obtain rfl := Option.some.inj e
        exact h4)
      generalize hM : mayT (td q k) = M at *
      generalize hx : td q k = x at *
      generalize hy : td q (k - 1) = y at *
      clear h1 hM hx hy hok hb
      go_upto_region 4 with (fail)
      generalize wr.alloc (.cells #[.int .i64 x.w, .int .u64 x.i, .int .i64 x.s, .int .i64 x.l] 59) = w1 at *
      clear a0 a1 a2 a3
      obtain ⟨b0, b1, b2, b3⟩ := BT.out
      go_wp2_with fail
      refine (HC.out _).mono ?_
      rintro e w2 ⟨rfl, hb2⟩
      have HB2 : Hid (Below w.heap.size w w2) := Lib.hid (HB1.out.trans (hb2.mono HB1.out.size))
      have BT2 := Lib.hid (BT.out.on hb2)
      clear b0 b1 b2 b3 hb2 HC BT HB1
      obtain ⟨b0, b1, b2, b3⟩ := BT2.out
      have hz2 := BT2.out.lt
      rcases M with _ | _
      · obtain rfl := HF.out rfl
        rw [hz]
        go_wp2_with fail
        go_ret
        exact ⟨rfl, HB2.out⟩
      rw [ho]
      go_upto_region 7 with (fail)
      by_cases hk0 : k = 0
      · have eg : decide ((0 : Int) < (k : Int)) = false := by simp; omega
        have en : ¬0 < k := by omega
        have HS' := Lib.hid (HS.out trivial (.inl hk0))
        clear hk0 HS HF HN HP
        refine q_enter (by kernel_rfl) (by kernel_rfl) ?_
        iterate 12 (refine q_step ?_; intro K hK; go_simp; refine hK _ ?_; clear hK K)
        refine q_nil ?_
        intro w3 hb3
        have HB3 : Hid (Below w.heap.size w w3) := Lib.hid (HB2.out.trans (hb3.mono HB2.out.size))
        clear hb3
        go_wp2_with fail
        go_roundw
        case rel => exact ⟨k + 1, by go_num, by omega, HS', HB3⟩
        case measure => simp [intOf]; omega
      · have eg : decide ((0 : Int) < (k : Int)) = true := by simp; omega
        have en : 0 < k := by omega
        obtain ⟨p0, p1, p2, p3⟩ := (HP.out (by omega) w2 HB2.out).flat
        have hkm : IntKind.i64.wrap ((k : Int) - 1) = ((k - 1 : Nat) : Int) := by rw [IntWalk.i64_in _ (by omega)]; omega
        have g0 : (0 : Int) ≤ ((k - 1 : Nat) : Int) := by omega
        have g1 : ((k - 1 : Nat) : Int) < (q.length : Int) := by omega
        have g1' : k - 1 < q.length := by omega
        have HN' := Lib.hid (HN.out (by omega))
        have HS' : Hid (cfW y x < 0 → _) := Lib.hid (fun h => HS.out trivial (.inr h))
        generalize k - 1 = km at *
        clear hk0 HS HF HN HP
        have P0 : ∀ p : Regrown, (grow (redrawn w2 p.d) p.os).cell? (ad.add (km * 4)) = some (.int .i64 y.w) := fun p => cell_regrown p0 p.d p.os
        have P1 : ∀ p : Regrown, (grow (redrawn w2 p.d) p.os).cell? ⟨(ad.add (km * 4)).block, (ad.add (km * 4)).off + 1, none⟩ = some (.int .u64 y.i) := fun p => cell_regrown p1 p.d p.os
        have P2 : ∀ p : Regrown, (grow (redrawn w2 p.d) p.os).cell? ⟨(ad.add (km * 4)).block, (ad.add (km * 4)).off + 2, none⟩ = some (.int .i64 y.s) := fun p => cell_regrown p2 p.d p.os
        have P3 : ∀ p : Regrown, (grow (redrawn w2 p.d) p.os).cell? ⟨(ad.add (km * 4)).block, (ad.add (km * 4)).off + 3, none⟩ = some (.int .i64 y.l) := fun p => cell_regrown p3 p.d p.os
        have B0 : ∀ p : Regrown, (grow (redrawn w2 p.d) p.os).cell? ⟨wr.heap.size, 0, none⟩ = some (.int .i64 x.w) := fun p => cell_regrown b0 p.d p.os
        have B1 : ∀ p : Regrown, (grow (redrawn w2 p.d) p.os).cell? ⟨wr.heap.size, 1, none⟩ = some (.int .u64 x.i) := fun p => cell_regrown b1 p.d p.os
        have B2 : ∀ p : Regrown, (grow (redrawn w2 p.d) p.os).cell? ⟨wr.heap.size, 2, none⟩ = some (.int .i64 x.s) := fun p => cell_regrown b2 p.d p.os
        have B3 : ∀ p : Regrown, (grow (redrawn w2 p.d) p.os).cell? ⟨wr.heap.size, 3, none⟩ = some (.int .i64 x.l) := fun p => cell_regrown b3 p.d p.os
        have HWp := Lib.hid (fun p : Regrown => (HW.out (grow (redrawn w2 p.d) p.os)).mono fun _ _ ⟨he, hg⟩ => (⟨he, hg.below⟩ : _ ∧ Below _ _ _))
        clear p0 p1 p2 p3 b0 b1 b2 b3 HW
        generalize hcf : cfW y x = cf at *
        clear hcf
        by_cases hc0 : 0 ≤ cf
        · have ec : decide (0 ≤ cf) = true := by simpa using hc0
          obtain rfl := HN'.out hc0
          clear hc0
          refine q_enter (by kernel_rfl) (by kernel_rfl) ?_
          iterate 12 (refine q_step ?_; intro K hK; go_simp; first | (refine hK _ ?_; clear hK K) | (refine ⟨_, fun p => Calls.regrown_of (by with_reducible exact HWp.out p), hK _ ?_⟩; clear hK K))
          refine q_nil ?_
          intro w3 hb3
          have HB3 : Hid (Below w.heap.size w w3) := Lib.hid (HB2.out.trans (hb3.mono HB2.out.size))
          clear hb3
          go_wp2_with fail
          go_ret
          exact ⟨rfl, HB3.out⟩
        · have ec : decide (0 ≤ cf) = false := by simpa using hc0
          have HS2 := Lib.hid (HS'.out (by omega))
          clear hc0
          refine q_enter (by kernel_rfl) (by kernel_rfl) ?_
          iterate 12 (refine q_step ?_; intro K hK; go_simp; first | (refine hK _ ?_; clear hK K) | (refine ⟨_, fun p => Calls.regrown_of (by with_reducible exact HWp.out p), hK _ ?_⟩; clear hK K))
          refine q_nil ?_
          intro w3 hb3
          have HB3 : Hid (Below w.heap.size w w3) := Lib.hid (HB2.out.trans (hb3.mono HB2.out.size))
          clear hb3
          go_wp2_with fail
          go_roundw
          case rel => exact ⟨k + 1, by go_num, by omega, HS2, HB3⟩
          case measure => simp [intOf]; omega
    · have hk' : k = q.length := by omega
      have hLt : L = true := HL.out.2 ⟨fun i hi => hok.out.1 i (by omega), fun i hi => hok.out.2 i (by omega)⟩
      subst hLt
      have e0 : decide ((k : Int) < (q.length : Int)) = false := by simp; omega
      clear hk'
      go_wp2_with fail
      go_ret
      exact ⟨rfl, hb.out⟩
end Go.Proofs.Ytipepmnnjhhjbaa
