/-
  The walk of Check.
-/
import Derived.Test.YtmbapcdchaamfaaOwn
import Derived.Test.YtmbapcdchaamfaaLast
namespace Go.Proofs.Ytmbapcdchaamfaa
open Go.Sort Go.RowKit Go.Proofs.Ytmbapcdchaamfaa.Pure

theorem Try.infoNow : (Try.prog.info? 57).map (fun i => (i.zero, i.size, i.bytes)) = some (some (.agg (cts (List.replicate 64 zc)).toArray), 192, 1536) := by kernel_rfl
theorem zero_now : ∃ zs : Array Value, zs.toList = cts (List.replicate 64 zc) ∧ zs.size = 192 ∧ ¬ zs = #[] ∧ ∀ w : World, (zeroValue 57).run Try.prog w = .ok (.agg zs) w := by
  obtain ⟨i, hi, hz, _, _⟩ := info_parts Try.infoNow
  refine ⟨(cts (List.replicate 64 zc)).toArray, rfl, by kernel_rfl, ?_, fun w => by simp [zeroValue, typeInfo, hi, hz]⟩
  intro h
  have := congrArg Array.size h
  simp [cts_len] at this
/-- A new array of counts, none of which is more than nothing. -/
theorem own_now (w : World) (l : List Bt) (zs : Array Value) (h : zs.toList = cts (List.replicate 64 zc)) (e : TypeId) : Own e (w.alloc (.cells zs e)) w.heap.size (.slice (some ⟨w.heap.size, 0, none⟩) 64 64) (rowL 64 l 0) := by
  have hr : rowL 64 l 0 = List.replicate 64 zc := by
    unfold rowL
    rw [List.eq_replicate_iff]
    exact ⟨by simp, fun b hb => by
      obtain ⟨v, _, rfl⟩ := List.mem_map.1 hb
      rfl⟩
  rw [hr]
  refine ⟨by rw [cts_len], .inr ⟨w.heap.size, 64, zs, by simp, Nat.le_refl _, heap_alloc_new w _, by simp, by unfold maxLen; omega, ?_, ?_⟩⟩
  · have := congrArg List.length h
    rw [cts_len] at this
    simpa using this
  · rw [h, List.take_of_length_le]
    simp [cts_len]

set_option maxRecDepth 100000 in
set_option maxHeartbeats 4000000 in
theorem check_any (A : Option Addr) (c : Nat) (n : Int) (l : List Bt) (w : World) (hn : l.length ≤ 1000) (h : Lst w A l) (L : Bool) (hL : mayB n l = L) :
    Calls Try.prog 13 #[.int .i64 n, .slice A l.length c] w fun e w' => e = .returned (.int .i64 (okE L)) ∧ Below w.heap.size w w' := by
  have H := Lib.hid h
  have HL : Hid (L = true ↔ May n l) := Lib.hid (by rw [← hL]; exact mayB_iff n l)
  have HF : Hid (¬ May n l → L = false) := Lib.hid (fun hm => by
    rcases L with _ | _
    · rfl
    · exact absurd (HL.out.1 rfl) hm)
  clear h hL
  have hz : okE false = 1 := rfl
  have ho : okE true = 0 := rfl
  by_cases g1 : n < 1
  · have hb : L = false := HF.out fun h => by have := h.1; omega
    subst hb
    have d1 : decide (n < 1) = true := by simpa using g1
    go_enter Try.func13, Try.ntmps13
    go_wp2_with fail
    go_ret
    exact ⟨rfl, Below.refl _ _⟩
  have d1 : decide (n < 1) = false := by simpa using g1
  by_cases g2 : 64 < n
  · have hb : L = false := HF.out fun h => by have := h.2.1; omega
    subst hb
    have d2 : decide (64 < n) = true := by simpa using g2
    go_enter Try.func13, Try.ntmps13
    go_wp2_with fail
    go_ret
    exact ⟨rfl, Below.refl _ _⟩
  have d2 : decide (64 < n) = false := by simpa using g2
  by_cases g3 : 400 < l.length
  · have hb : L = false := HF.out fun h => by have := h.2.2.1; omega
    subst hb
    have d3 : decide ((400 : Int) < (l.length : Int)) = true := by simp; omega
    go_enter Try.func13, Try.ntmps13
    go_wp2_with fail
    go_ret
    exact ⟨rfl, Below.refl _ _⟩
  have d3 : decide ((400 : Int) < (l.length : Int)) = false := by simp; omega
  have HM : Hid ((∀ i, i < l.length → okAt n l i = true) → May n l) := Lib.hid (fun h => ⟨by omega, by omega, by omega, h⟩)
  obtain ⟨zs, hzs, hzn, hze, hzv⟩ := zero_now
  have HO := Lib.hid (own_now w l zs hzs 57)
  have hbw : Hid (Below w.heap.size w (w.alloc (.cells zs 57))) := Lib.hid ((Below.refl _ _).alloc (Nat.le_refl _) _)
  have hl4 : l.length ≤ 400 := by omega
  have n1 : 1 ≤ n := by omega
  have n2 : n ≤ 64 := by omega
  clear hzs g1 g2 g3
  go_enter Try.func13, Try.ntmps13
  go_upto_region 4 with (fail)
  generalize w.alloc (.cells zs 57) = w0 at *
  clear hzv hze hzn d1 d2 d3
  go_wp2_with fail
  go_loopw [21] (fun i wr => ∃ k : Nat, i = .int .i64 k ∧ k ≤ l.length ∧ Hid (∀ j, j < k → okAt n l j = true) ∧ Hid (Own 57 wr w.heap.size (.slice (some ⟨w.heap.size, 0, none⟩) 64 64) (rowL 64 l k)) ∧ Hid (Below w.heap.size w wr)) (fun i _ => l.length - (intOf i).toNat)
  case atStart => exact ⟨0, rfl, Nat.zero_le _, Lib.hid (fun j hj => absurd hj (Nat.not_lt_zero j)), HO, hbw⟩
  case round =>
    clear HO hbw
    obtain ⟨k, rfl, hk, hok, how, hb⟩ := hrel
    by_cases hlt : k < l.length
    · have HK := Lib.hid (H.out.on hb.out)
      obtain ⟨ad, rfl, hlo, h1⟩ := HK.out k hlt
      obtain ⟨a0, a1⟩ := h1.flat
      have HB : Hid (okAt n l k = false → L = false) := Lib.hid (fun h => HF.out fun hm => by rw [hm.2.2.2 k hlt] at h; cases h)
      have HS : Hid (okAt n l k = true → ∀ j, j < k + 1 → okAt n l j = true) := Lib.hid (fun h j hj => by
        rcases Nat.lt_or_ge j k with hjk | hjk
        · exact hok.out j hjk
        · obtain rfl : j = k := by omega
          exact h)
      have HKI := Lib.hid (okAt_iff n l k)
      have hcs := fun v => cnt_small l v k
      have HSU := Lib.hid (fun v => rowL_succ 64 l k v)
      have HNT : Hid (∀ v : Nat, v < 64 → nth (rowL 64 l k) v = cntAt l k v) := Lib.hid (fun v hv => rowL_at 64 l k v hv)
      have k0 : (0 : Int) ≤ (k : Int) := by omega
      have k1 : (k : Int) < (l.length : Int) := by omega
      generalize hxn : (bt l k).n = xn at *
      generalize hxk : (bt l k).k = xk at *
      clear h1 hxn hxk
      have hlt' : decide ((k : Int) < (l.length : Int)) = true := by simp; omega
      go_upto_region 7 with (fail)
      have hsz := hb.out.size
      have HB1 : Hid (Below w.heap.size w (wr.alloc (.cells #[.int .i64 xn, .int .i64 xk] 59))) := Lib.hid (hb.out.alloc hsz _)
      have HW1 := Lib.hid (how.out.alloc (.cells #[.int .i64 xn, .int .i64 xk] 59))
      have c0 : (wr.alloc (.cells #[.int .i64 xn, .int .i64 xk] 59)).cell? ⟨wr.heap.size, 0, none⟩ = some (.int .i64 xn) := by go_simp
      have c1 : (wr.alloc (.cells #[.int .i64 xn, .int .i64 xk] 59)).cell? ⟨wr.heap.size, 1, none⟩ = some (.int .i64 xk) := by go_simp
      have hne : w.heap.size ≠ wr.heap.size := by have := (how.out.ge w.heap.size rfl).2; omega
      generalize wr.alloc (.cells #[.int .i64 xn, .int .i64 xk] 59) = w1 at *
      generalize wr.heap.size = nb at *
      clear a0 a1 hb how HK hsz hlt'
      have C0 := fun d os => cell_regrown c0 d os
      have C1 := fun d os => cell_regrown c1 d os
      by_cases b1 : xn < 0
      · have e1 : decide (xn < 0) = true := by simpa using b1
        have hL : L = false := HB.out (by
          rcases hh : okAt n l k with _ | _
          · rfl
          · have := (HKI.out.1 hh).1; omega)
        subst hL
        refine q_enter (by kernel_rfl) (by kernel_rfl) ?_
        iterate 19 (refine q_step ?_; intro K hK; go_simp; refine hK _ ?_; clear hK K)
        refine q_nil ?_
        intro wz hbz
        have HZ : Hid (Below w.heap.size w wz) := Lib.hid (HB1.out.trans (hbz.mono HB1.out.size))
        clear hbz
        go_wp2_with fail
        go_ret
        exact ⟨rfl, HZ.out⟩
      have e1 : decide (xn < 0) = false := by simpa using b1
      by_cases b2 : n ≤ xn
      · have e2 : decide (n ≤ xn) = true := by simpa using b2
        have hL : L = false := HB.out (by
          rcases hh : okAt n l k with _ | _
          · rfl
          · have := (HKI.out.1 hh).2.1; omega)
        subst hL
        refine q_enter (by kernel_rfl) (by kernel_rfl) ?_
        iterate 19 (refine q_step ?_; intro K hK; go_simp; refine hK _ ?_; clear hK K)
        refine q_nil ?_
        intro wz hbz
        have HZ : Hid (Below w.heap.size w wz) := Lib.hid (HB1.out.trans (hbz.mono HB1.out.size))
        clear hbz
        go_wp2_with fail
        go_ret
        exact ⟨rfl, HZ.out⟩
      have e2 : decide (n ≤ xn) = false := by simpa using b2
      obtain ⟨v, rfl⟩ := Int.eq_ofNat_of_zero_le (show 0 ≤ xn by omega)
      have hv : v < 64 := by omega
      have HSU' := Lib.hid (HSU v rfl hv)
      have HAT : Hid (CAt w1 w.heap.size (v * 3) (cntAt l k v)) := Lib.hid (by
        have := HW1.out.at_ v hv
        rwa [HNT.out v hv] at this)
      have hcv := hcs v
      have HOK : Hid (okAt n l k = mayAt (cntAt l k v) xk) := Lib.hid (by
        rw [Bool.eq_iff_iff, HKI.out]
        exact ⟨fun h => h.2.2, fun h => ⟨by omega, by omega, h⟩⟩)
      clear HSU hcs HNT HKI b1 b2
      generalize hcc : cntAt l k v = cc at *
      clear hcc
      obtain ⟨ct, cf, cd⟩ := cc
      obtain ⟨m0, m1, m2⟩ := HAT.out
      simp only at m0 m1 m2 hcv
      have M0 := fun d os => cell_regrown m0 d os
      have M1 := fun d os => cell_regrown m1 d os
      have M2 := fun d os => cell_regrown m2 d os
      have v0 : (0 : Int) ≤ (v : Int) := by omega
      have v1 : (v : Int) < 64 := by omega
      have HC := Lib.hid (fun p : Regrown => may_any ct cf cd xk (grow (redrawn w1 p.d) p.os))
      rcases hmm : mayAt ⟨ct, cf, cd⟩ xk with _ | _
      · have hL : L = false := HB.out (by rw [HOK.out, hmm])
        subst hL
        rw [hmm] at HC
        clear hmm
        refine q_enter (by kernel_rfl) (by kernel_rfl) ?_
        iterate 19 (refine q_step ?_; intro K hK; go_simp; first | (refine hK _ ?_; clear hK K) | (refine ⟨_, fun p => Calls.regrown_of (by with_reducible exact HC.out p), hK _ ?_⟩; clear hK K))
        refine q_nil ?_
        intro wz hbz
        have HZ : Hid (Below w.heap.size w wz) := Lib.hid (HB1.out.trans (hbz.mono HB1.out.size))
        clear hbz
        go_wp2_with fail
        go_ret
        exact ⟨rfl, HZ.out⟩
      · have HS' := Lib.hid (HS.out (by rw [HOK.out, hmm]))
        rw [hmm] at HC
        clear hmm
        refine q_enter (by kernel_rfl) (by kernel_rfl) ?_
        iterate 19 (refine q_step ?_; intro K hK; go_simp; first | (refine hK _ ?_; clear hK K) | (refine ⟨_, fun p => Calls.regrown_of (by with_reducible exact HC.out p), hK _ ?_⟩; clear hK K))
        refine q_nil ?_
        intro wz hbz
        have HZ : Hid (Below w.heap.size w wz) := Lib.hid (HB1.out.trans (hbz.mono HB1.out.size))
        have HWZ := Lib.hid (HW1.out.on hbz)
        have c0' := (hbz.cell (p := ⟨nb, 0, none⟩) (World.block_lt_of_cell? w1 _ c0)).trans c0
        have c1' := (hbz.cell (p := ⟨nb, 1, none⟩) (World.block_lt_of_cell? w1 _ c1)).trans c1
        have m0' := (hbz.cell (p := ⟨w.heap.size, v * 3, none⟩) (World.block_lt_of_cell? w1 _ m0)).trans m0
        have m1' := (hbz.cell (p := ⟨w.heap.size, v * 3 + 1, none⟩) (World.block_lt_of_cell? w1 _ m1)).trans m1
        have m2' := (hbz.cell (p := ⟨w.heap.size, v * 3 + 2, none⟩) (World.block_lt_of_cell? w1 _ m2)).trans m2
        have f0 := HWZ.out.frozen (v * 3)
        have f1 := HWZ.out.frozen (v * 3 + 1)
        have f2 := HWZ.out.frozen (v * 3 + 2)
        have HWT : Hid (∀ W : World, Calls Try.prog 26 #[.agg #[.int .i64 ct, .int .i64 cf, .bool cd], .int .i64 xk] W fun e w' => e = .returned (.agg #[.int .i64 (wth ⟨ct, cf, cd⟩ xk).t, .int .i64 (wth ⟨ct, cf, cd⟩ xk).f, .bool (wth ⟨ct, cf, cd⟩ xk).d]) ∧ Below W.heap.size W w') :=
          Lib.hid (fun W : World => with_any ct cf cd xk W (by omega) (by omega))
        have HPUT := Lib.hid (fun (W : World) (hW : Below wz.heap.size wz W) => (HWZ.out.on hW).put v hv (wth ⟨ct, cf, cd⟩ xk))
        generalize wth ⟨ct, cf, cd⟩ xk = x at *
        obtain ⟨xt, xf, xd⟩ := x
        clear hbz C0 C1 M0 M1 M2 c0 c1 m0 m1 m2 HC HAT HOK HB1 HW1
        go_upto_region 9 with (fail)
        have C0 := fun d os => cell_regrown c0' d os
        have C1 := fun d os => cell_regrown c1' d os
        have M0 := fun d os => cell_regrown m0' d os
        have M1 := fun d os => cell_regrown m1' d os
        have M2 := fun d os => cell_regrown m2' d os
        refine t_region 10 (by kernel_rfl) (by kernel_rfl) ?_
        simp only [List.take_succ_cons, List.take_zero, List.drop_succ_cons, List.drop_zero]
        iterate 10 (refine q_step ?_; intro K hK; go_simp; first | (refine hK _ ?_; clear hK K) | (refine ⟨_, fun p => Calls.regrown_of (HWT.out _), hK _ ?_⟩; clear hK K))
        refine q_nil ?_
        intro wy hby
        have m0 := (hby.cell (p := ⟨w.heap.size, v * 3, none⟩) (World.block_lt_of_cell? wz _ m0')).trans m0'
        have m1 := (hby.cell (p := ⟨w.heap.size, v * 3 + 1, none⟩) (World.block_lt_of_cell? wz _ m1')).trans m1'
        have m2 := (hby.cell (p := ⟨w.heap.size, v * 3 + 2, none⟩) (World.block_lt_of_cell? wz _ m2')).trans m2'
        have g0 := (HWZ.out.on hby).frozen (v * 3)
        have g1 := (HWZ.out.on hby).frozen (v * 3 + 1)
        have g2 := (HWZ.out.on hby).frozen (v * 3 + 2)
        have HP := HPUT.out wy hby
        rw [← HSU'.out] at HP
        have HP' : Hid (_ ∧ _) := Lib.hid HP
        have HBY : Hid (Below w.heap.size w wy) := Lib.hid (HZ.out.trans (hby.mono HZ.out.size))
        clear C0 C1 M0 M1 M2 c0' c1' m0' m1' m2' f0 f1 f2 hby HP HPUT HWT HWZ HZ HSU'
        go_wp2_with fail
        go_roundw
        case rel => exact ⟨k + 1, by go_num, by omega, HS', Lib.hid HP'.out.1, Lib.hid (HBY.out.grown HP'.out.2 HBY.out.size (fun k h => by cases h; exact Nat.le_refl _))⟩
        case measure => simp [intOf]; omega
    · have hk' : k = l.length := by omega
      have hL : L = true := HL.out.2 (HM.out fun i hi => hok.out i (by omega))
      subst hL
      have e0 : decide ((k : Int) < (l.length : Int)) = false := by simp; omega
      clear hk'
      go_wp2_with fail
      go_ret
      exact ⟨rfl, hb.out⟩
end Go.Proofs.Ytmbapcdchaamfaa
