/-
  GraceConfirms: a doubt that is confirmed stays as old as it was; by the same node again nothing changes; in whatever order nodes confirm, it is the same: the law returns true for every input.
-/
import Derived.Test.YtknpbbplolncpaaMaps
import Derived.Test.YtknpbbplolncpaaConfMath
namespace Go.Proofs.Ytknpbbplolncpaa.lawConfirms
open Go.Sort Go.ChangeShapes Go.WideShapes Go.ChangeAt Go.RowKit Go.Proofs.Ytknpbbplolncpaa.Pure

theorem conf_raise {inc b t : Int} {B : List Int} (v : Value) (W : World) (h : riseB B = true) (h0 : B = [] → t = 0) (hb : 0 ≤ b ∧ b < 64) (ht : 0 ≤ t ∧ t ≤ 1099511627776) (hv : Va W v (Sd inc B)) :
    Calls Try.prog 16 #[v, .int .i64 3, .int .u64 inc, .int .i64 b, .int .i64 t] W (GivesR W (Sd inc (insN b B)) 0) := by
  have := l_raise v (Sd inc B) W 3 inc b t (conf_sm h) hv
  rwa [conf_step h h0 hb ht] at this
/-- One doubt, as it lies. -/
theorem va_one {w : World} {v : Value} {inc : Int} {B : List Int} (h : Va w v (Sd inc B)) (hB : B ≠ []) : ∃ (ad : Addr) (c : Nat) (A : Option Addr) (cb : Nat), v = .slice (some ad) 1 c ∧ w.cell? ad = some (.int .i64 3) ∧ w.cell? ⟨ad.block, ad.off + 1, none⟩ = some (.int .u64 inc) ∧ w.cell? ⟨ad.block, ad.off + 2, none⟩ = some (.int .i64 0) ∧ w.cell? ⟨ad.block, ad.off + 3, none⟩ = some (.slice A B.length cb) ∧ Has w 0 w.heap.size A B := by
  obtain ⟨A, c, ys, rfl, _, _, h3, h4⟩ := h
  unfold Sd at h4
  rw [if_neg hB] at h4
  have hl : ys.length = 1 := by have := congrArg List.length h4; simpa using this
  obtain ⟨ad, rfl, _, h5, h6⟩ := h3 0 (by omega)
  have e : (db ys 0).ct = ⟨3, inc, 0, B⟩ := by
    rw [← ct_at, h4]
    rfl
  have e1 : (db ys 0).w = 3 := congrArg Dt.w e
  have e2 : (db ys 0).i = inc := congrArg Dt.i e
  have e3 : (db ys 0).t = 0 := congrArg Dt.t e
  have e4 : (db ys 0).b = B := congrArg Dt.b e
  obtain ⟨c0, c1, c2, c3⟩ := h5
  rw [Nat.zero_mul] at c0 c1 c2 c3
  have ha : ad.add 0 = ad := rfl
  rw [ha] at c0 c1 c2 c3
  rw [e1] at c0
  rw [e2] at c1
  rw [e3] at c2
  rw [e4] at c3
  refine ⟨ad, c, (db ys 0).A, (db ys 0).c, by rw [hl], c0, c1, c2, c3, ?_⟩
  have := h6.1.has
  rwa [e4] at this

set_option maxRecDepth 100000 in
set_option maxHeartbeats 8000000 in
theorem walk (inc : Int) (A : Option Addr) (c : Nat) (is : List Int) (w : World) (h1 : is.length ≤ c) (h2 : c ≤ maxLen) (h3 : Octs w A is) :
    Calls Try.prog 7 #[.int .u64 inc, .slice A is.length c] w fun e w' => e = .returned (.bool true) ∧ Below w.heap.size w w' := by
  unfold maxLen at h2
  by_cases hn0 : is.length = 0
  · have e0 : ((is.length : Int) == 0) = true := by rw [hn0]; rfl
    have e0' : is = [] := List.length_eq_zero_iff.1 hn0
    go_enter Try.func7, Try.ntmps7
    go_wp2_with fail
    refine (awake_any _).mono ?_
    rintro e wE ⟨rfl, hbE⟩
    have HE := Lib.hid hbE
    clear hbE
    go_wp2_with fail
    go_ret
    exact ⟨rfl, HE.out⟩
  have e0 : ((is.length : Int) == 0) = false := by rw [beq_eq_false_iff_ne]; omega
  have e0' : ¬is = [] := fun e => hn0 (by rw [e]; rfl)
  obtain ⟨l, hl⟩ : ∃ l, l = is.take 20 := ⟨_, rfl⟩
  have hll : l.length = min 20 is.length := by rw [hl, List.length_take]
  obtain ⟨xs, hxs⟩ : ∃ xs, xs = l.map (· % 16) := ⟨_, rfl⟩
  obtain ⟨N, hN⟩ : ∃ N, N = l.length := ⟨_, rfl⟩
  have hxl : xs.length = N := by rw [hxs, List.length_map, hN]
  have hN1 : 1 ≤ N ∧ N ≤ 20 := by omega
  have HXS : Hid (∀ x ∈ xs, 0 ≤ x ∧ x < 64) := Lib.hid (fun x hx => by
    rw [hxs] at hx
    obtain ⟨y, _, rfl⟩ := List.mem_map.1 hx
    omega)
  have HCE : Hid (∀ j, j < N → ∃ ad, A = some ad ∧ ad.block < w.heap.size ∧ ∃ y : Nat, w.cell? (ad.add j) = some (.int .u8 (y : Int)) ∧ y ≤ 255 ∧ (y : Int) % 16 = xs.getD j 0) := Lib.hid (fun j hj => by
    obtain ⟨ad, e, h5, h6⟩ := h3.1 j (by omega)
    have h7 := h3.2 _ (getD_mem is j (by omega))
    obtain ⟨y, hy⟩ := Int.eq_ofNat_of_zero_le h7.1
    refine ⟨ad, e, h5, y, by rw [h6, hy], by omega, ?_⟩
    rw [← hy, hxs, hl]
    simp [List.getD, show j < 20 by omega, show j < is.length by omega])
  have HSN1 : Hid (∀ k, k < N → Bf (xs.take (k + 1)) = insN (xs.getD k 0) (Bf (xs.take k))) := Lib.hid (fun k hk => Bf_snoc xs k (by omega))
  have HSN2 : Hid (∀ k, k < N → Bf (xs.reverse.take (k + 1)) = insN (xs.getD (N - 1 - k) 0) (Bf (xs.reverse.take k))) := Lib.hid (fun k hk => by
    rw [Bf_snoc xs.reverse k (by rw [List.length_reverse]; omega)]
    congr 1
    simp [List.getD, List.getElem?_reverse (show k < xs.length by omega), hxl])
  have HR1 : Hid (∀ k, riseB (Bf (xs.take k)) = true) := Lib.hid (fun k => Bf_rise _ fun x hx => HXS.out x (List.mem_of_mem_take hx))
  have HR2 : Hid (∀ k, riseB (Bf (xs.reverse.take k)) = true) := Lib.hid (fun k => Bf_rise _ fun x hx => HXS.out x (List.mem_reverse.1 (List.mem_of_mem_take hx)))
  have HZ1 : Hid (∀ k, k ≤ N → Bf (xs.take k) = [] → (k : Int) = 0) := Lib.hid (fun k hk h => by have := congrArg List.length (Bf_nil h); rw [List.length_take, hxl] at this; simp at this; omega)
  have HZ2 : Hid (∀ k, k ≤ N → Bf (xs.reverse.take k) = [] → (k : Int) = 0) := Lib.hid (fun k hk h => by have := congrArg List.length (Bf_nil h); rw [List.length_take, List.length_reverse, hxl] at this; simp at this; omega)
  have HE1 : Hid (Bf (xs.take N) = Bf xs) := Lib.hid (by rw [List.take_of_length_le (by omega)])
  have HE2 : Hid (Bf (xs.reverse.take N) = Bf xs) := Lib.hid (by rw [List.take_of_length_le (by rw [List.length_reverse]; omega), Bf_reverse])
  have HE0 : Hid (Bf xs ≠ [] ∧ riseB (Bf xs) = true ∧ insN (xs.getD 0 0) (Bf xs) = Bf xs) := Lib.hid (by
    refine ⟨fun h => by have := Bf_nil h; rw [this] at hxl; simp at hxl; omega, Bf_rise _ HXS.out, ins_same _ _ (Bf_pair _) ((Bf_mem _ _).2 (getD_mem xs 0 (by omega)))⟩)
  have HXB : Hid (∀ j, j < N → 0 ≤ xs.getD j 0 ∧ xs.getD j 0 < 64) := Lib.hid (fun j hj => HXS.out _ (getD_mem xs j (by omega)))
  have HA0 : Hid (A ≠ none) := Lib.hid (fun e => by obtain ⟨ad, e2, _⟩ := HCE.out 0 (by omega); rw [e] at e2; cases e2)
  have HB00 : Hid (Bf (xs.take 0) = [] ∧ Bf (xs.reverse.take 0) = []) := Lib.hid ⟨rfl, rfl⟩
  generalize hB1 : (fun k => Bf (xs.take k)) = B1 at *
  generalize hB2 : (fun k => Bf (xs.reverse.take k)) = B2 at *
  have HQ1 : Hid (∀ k, Bf (xs.take k) = B1 k) := Lib.hid (fun k => by rw [← hB1])
  have HQ2 : Hid (∀ k, Bf (xs.reverse.take k) = B2 k) := Lib.hid (fun k => by rw [← hB2])
  simp only [HQ1.out, HQ2.out] at HSN1 HSN2 HR1 HR2 HZ1 HZ2 HE1 HE2 HB00
  clear hB1 hB2 HQ1 HQ2
  generalize Bf xs = BB at *
  have HSI : Hid (∀ k, k < N → (if xs.getD k 0 ∈ B1 k then B1 k else insN (xs.getD k 0) (B1 k)) = B1 (k + 1)) := Lib.hid (fun k hk => by
    rw [HSN1.out k hk]
    split
    · rename_i hm
      rw [ins_same _ _ ((rise_pair _).1 (HR1.out k)).2 hm]
    · rfl)
  generalize hX : (fun j => xs.getD j 0) = X at *
  have HQX : Hid (∀ j, xs.getD j 0 = X j) := Lib.hid (fun j => by rw [← hX])
  simp only [HQX.out] at HCE HSN1 HSN2 HE0 HXB HSI
  clear hX HQX HXS hxl hxs
  have hNl : N = min 20 is.length := by omega
  clear hll hl
  clear hN
  obtain ⟨T, hT⟩ : ∃ T, decide (20 < (is.length : Int)) = T := ⟨_, rfl⟩
  go_enter Try.func7, Try.ntmps7
  go_upto_if 21 with (fail)
  go_cut [1] from 22 to 23 (fun s wx => s = .slice A N c ∧ w = wx)
  case first =>
    rcases T with _ | _
    · have hn : ¬(20 : Int) < (is.length : Int) := by simpa using hT
      have HNe : Hid (N = is.length) := Lib.hid (by omega)
      clear HSN1 HSN2 HCE HR1 HR2 HZ1 HZ2 HE1 HE2 HE0 HXB HSI HB00 h3 hNl hN1 hT
      go_wp2_with fail
      go_meet
      exact ⟨by rw [HNe.out], rfl⟩
    · have hn : (20 : Int) < (is.length : Int) := by simpa using hT
      obtain ⟨ad, rfl⟩ := Option.ne_none_iff_exists'.1 HA0.out
      have hc20 : 20 ≤ c := by omega
      have HNe : Hid (N = 20) := Lib.hid (by omega)
      clear HSN1 HSN2 HCE HR1 HR2 HZ1 HZ2 HE1 HE2 HE0 HXB HSI HB00 h3 hNl hN1 hT
      go_wp2_with fail
      go_meet
      exact ⟨by rw [HNe.out], rfl⟩
  obtain ⟨rfl, rfl⟩ := hcut
  clear h3 hNl h1 hT
  have hmk := @run_makeMap Try.prog
  have HMM : Hid (Ms (w.alloc (.map #[] 0)) w.heap.size 0 []) := Lib.hid (Ms.made w)
  have HB0 : Hid (Below w.heap.size w (w.alloc (.map #[] 0))) := Lib.hid ((Below.refl _ _).alloc (Nat.le_refl _) _)
  go_upto_region 7 with (fail)
  clear hmk
  generalize w.alloc (.map #[] 0) = w1 at *
  go_wp2_with fail
  go_loopw [5, 6, 8] (fun va vb i wr => ∃ k : Nat, i = .int .i64 k ∧ k ≤ N ∧ Hid (Va wr va (Sd inc (B1 k))) ∧ Hid (Va wr vb (Sd inc (B2 k))) ∧ Hid (Ms wr w.heap.size k (B1 k)) ∧ Hid (Below w.heap.size w wr)) (fun _ _ i _ => N - (intOf i).toNat)
  case atStart => exact ⟨0, rfl, Nat.zero_le _, Lib.hid (by rw [HB00.out.1]; exact Va.nil _), Lib.hid (by rw [HB00.out.2]; exact Va.nil _), Lib.hid (by rw [HB00.out.1]; exact HMM.out), HB0⟩
  case round =>
    obtain ⟨wq, ewq⟩ : ∃ wq, wq = wr := ⟨_, rfl⟩
    subst ewq
    obtain ⟨k, rfl, hk, HV1, HV2, HM, HBq⟩ := hrel
    by_cases hlt : k < N
    · have q0 : decide ((k : Int) < (N : Int)) = true := by simp; omega
      have q1 : (k : Int) < (N : Int) := by omega
      have q2 : (0 : Int) ≤ (k : Int) := by omega
      obtain ⟨ad, rfl, hlo, y, hy, hy1, hy2⟩ := HCE.out k hlt
      obtain ⟨m, hm⟩ : ∃ m : Nat, m = N - 1 - k := ⟨_, rfl⟩
      obtain ⟨ad', ee, _, z, hz, hz1, hz2⟩ := HCE.out m (by omega)
      obtain rfl := Option.some.inj ee
      obtain ⟨N1, hN1'⟩ : ∃ N1 : Nat, N1 = N - 1 := ⟨_, rfl⟩
      have v1 : IntKind.i64.wrap ((N : Int) - 1) = (N1 : Int) := by rw [IntWalk.i64_in _ (by omega)]; omega
      have v2 : IntKind.i64.wrap ((N1 : Int) - (k : Int)) = (m : Int) := by rw [IntWalk.i64_in _ (by omega)]; omega
      have m0 : (0 : Int) ≤ (m : Int) := by omega
      have m1 : (m : Int) < (N : Int) := by omega
      have b1 := HXB.out k hlt
      have b2 := HXB.out m (by omega)
      have S1 := Lib.hid (HSN1.out k hlt)
      have S2 := Lib.hid (HSN2.out k hlt)
      rw [← hm] at S2
      have S3 := Lib.hid (HSI.out k hlt)
      generalize X k = xk at *
      generalize X m = xm at *
      have HK1 := Lib.hid (fun (v : Value) (W : World) (h : Va W v (Sd inc (B1 k))) => conf_raise v W (HR1.out k) (HZ1.out k hk) b1 (by omega : 0 ≤ (k : Int) ∧ (k : Int) ≤ 1099511627776) h)
      have HK2 := Lib.hid (fun (v : Value) (W : World) (h : Va W v (Sd inc (B2 k))) => conf_raise v W (HR2.out k) (HZ2.out k hk) b2 (by omega : 0 ≤ (k : Int) ∧ (k : Int) ≤ 1099511627776) h)
      rw [← S1.out] at HK1
      rw [← S2.out] at HK2
      have y0 := HBq.out.cell (p := ad.add k) (by rw [block_add]; exact hlo)
      rw [hy] at y0
      have z0 := HBq.out.cell (p := ad.add m) (by rw [block_add]; exact hlo)
      rw [hz] at z0
      clear hm hN1' hz S1 S2
      go_wp2_with fail
      refine (HK1.out _ _ HV1.out).mono ?_
      rintro e w2 ⟨v1', rfl, hv, hb⟩
      have HV3 := Lib.hid hv
      have HV4 := Lib.hid (HV2.out.on hb)
      have HM2 := Lib.hid (HM.out.on hb)
      have HB2 : Hid (Below w.heap.size w w2) := Lib.hid (HBq.out.trans (hb.mono HBq.out.size))
      have y1 := cell_on y0 hb
      have z1 := cell_on z0 hb
      clear hb hv y0 z0 HV1 HV2 HM HBq HK1
      go_wp2_with fail
      refine (HK2.out _ _ HV4.out).mono ?_
      rintro e w3 ⟨v2', rfl, hv, hb⟩
      have HV5 := Lib.hid hv
      have HV6 := Lib.hid (HV3.out.on hb)
      have HM3 := Lib.hid (HM2.out.on hb)
      have HB3 : Hid (Below w.heap.size w w3) := Lib.hid (HB2.out.trans (hb.mono HB2.out.size))
      have y2 := cell_on y1 hb
      clear hb hv y1 z1 HV3 HV4 HM2 HB2 HK2
      obtain ⟨w4, hrun, hm4, hg4⟩ := HM3.out.put (by omega) xk b1
      rw [S3.out] at hm4
      have HV7 := Lib.hid (va_apart (fun a u hc => HM3.out.apart hc) HV6.out hg4)
      have HV8 := Lib.hid (va_apart (fun a u hc => HM3.out.apart hc) HV5.out hg4)
      have HM4 := Lib.hid hm4
      have HB4 : Hid (Below w.heap.size w w4) := Lib.hid (HB3.out.grown hg4 HB3.out.size (by intro j hj; injection hj with hj; omega))
      clear hm4 hg4 HV5 HV6 HM3 HB3 S3
      go_wp2_with fail
      clear hrun y2
      go_roundw
      case rel => exact ⟨k + 1, by go_num, by omega, HV7, HV8, HM4, HB4⟩
      case measure => simp [intOf]; omega
    · obtain rfl : k = N := by omega
      have q0 : decide ((k : Int) < (k : Int)) = false := by simp
      rw [HE1.out] at HV1 HM
      rw [HE2.out] at HV2
      obtain ⟨ad, rfl, hlo, y, hy, hy1, hy2⟩ := HCE.out 0 (by omega)
      have b1 := HXB.out 0 (by omega)
      obtain ⟨hne, hrs, hsm⟩ := HE0.out
      have HK := Lib.hid (fun (v : Value) (W : World) (h : Va W v (Sd inc BB)) => conf_raise v W hrs (fun e => absurd e hne) b1 (by omega : (0 : Int) ≤ 99 ∧ (99 : Int) ≤ 1099511627776) h)
      rw [hsm] at HK
      have HRS := Lib.hid (fun (v v' : Value) (W : World) (h : Va W v (Sd inc BB)) (h' : Va W v' (Sd inc BB)) => l_rsame v v' _ _ W (conf_sm hrs) h h' true (by simp))
      have HNE := Lib.hid hne
      have hbl := riseB_len hrs
      generalize X 0 = x0 at *
      have y0 := HBq.out.cell (p := ad.add 0) (by rw [block_add]; exact hlo)
      rw [hy] at y0
      have y0' : wq.cell? ad = some (.int .u8 (y : Int)) := y0
      have hk0 : (0 : Int) < (k : Int) := by omega
      clear hne hrs hsm hy HCE HSN1 HSN2 HR1 HR2 HZ1 HZ2 HSI HE1 HE2 HB00 HE0 HXB
      go_wp2_with fail
      refine (HK.out _ _ HV1.out).mono ?_
      rintro e w2 ⟨vg, rfl, hv, hb⟩
      have HV3 := Lib.hid hv
      have HV4 := Lib.hid (HV1.out.on hb)
      have HV5 := Lib.hid (HV2.out.on hb)
      have HM2 := Lib.hid (HM.out.on hb)
      have HB2 : Hid (Below w.heap.size w w2) := Lib.hid (HBq.out.trans (hb.mono HBq.out.size))
      clear hb hv y0 y0' HV1 HV2 HM HBq HK
      obtain ⟨aa, ca, Aa, cba, rfl, _⟩ := va_one HV4.out HNE.out
      obtain ⟨ab, cb, Ab, cbb, rfl, _⟩ := va_one HV5.out HNE.out
      go_wp2_with fail
      refine (HRS.out _ _ _ HV3.out HV4.out).mono ?_
      rintro e w3 ⟨rfl, hb⟩
      have HV6 := Lib.hid (HV4.out.on hb)
      have HV7 := Lib.hid (HV5.out.on hb)
      have HM3 := Lib.hid (HM2.out.on hb)
      have HB3 : Hid (Below w.heap.size w w3) := Lib.hid (HB2.out.trans (hb.mono HB2.out.size))
      clear hb HV3 HV4 HV5 HM2 HB2 HRS
      obtain ⟨aa', ca', Aa, cba, ea, a0, a1, a2, a3, ha⟩ := va_one HV6.out HNE.out
      obtain ⟨rfl, rfl⟩ : aa = aa' ∧ ca = ca' := by simpa using ea
      obtain ⟨ab', cb', Ab, cbb, eb, b0, b1', b2, b3, hb⟩ := va_one HV7.out HNE.out
      obtain ⟨rfl, rfl⟩ : ab = ab' ∧ cb = cb' := by simpa using eb
      have HHA := Lib.hid ha
      have HHB := Lib.hid hb
      have AA1 : ∀ p : Regrown, (grow (redrawn w3 p.d) p.os).cell? ⟨aa.block, aa.off + 1, none⟩ = some (.int .u64 inc) := fun p => cell_regrown a1 p.d p.os
      have AA2 : ∀ p : Regrown, (grow (redrawn w3 p.d) p.os).cell? ⟨aa.block, aa.off + 2, none⟩ = some (.int .i64 0) := fun p => cell_regrown a2 p.d p.os
      have AA3 : ∀ p : Regrown, (grow (redrawn w3 p.d) p.os).cell? ⟨aa.block, aa.off + 3, none⟩ = some (.slice Aa BB.length cba) := fun p => cell_regrown a3 p.d p.os
      have BB3 : ∀ p : Regrown, (grow (redrawn w3 p.d) p.os).cell? ⟨ab.block, ab.off + 3, none⟩ = some (.slice Ab BB.length cbb) := fun p => cell_regrown b3 p.d p.os
      have MM : ∀ p : Regrown, (Builtin.len_ #[59] 3 #[.map (some w.heap.size)]).run Try.prog (grow (redrawn w3 p.d) p.os) = .ok (.int .i64 (BB.length : Nat)) (grow (redrawn w3 p.d) p.os) := fun p => (HM3.out.on (below_regrown w3 p.d p.os)).len _
      have C1 := Lib.hid (fun p : Regrown => same2_any Aa Ab cba cbb 0 (grow (redrawn w3 p.d) p.os).heap.size 0 (grow (redrawn w3 p.d) p.os).heap.size BB BB (grow (redrawn w3 p.d) p.os) (by omega) ((HHA.out.wide (Nat.le_refl _) (Nat.le_refl _)).on (below_regrown w3 p.d p.os) (Nat.le_refl _) |>.wide (Nat.le_refl _) (below_regrown w3 p.d p.os).size) ((HHB.out.wide (Nat.le_refl _) (Nat.le_refl _)).on (below_regrown w3 p.d p.os) (Nat.le_refl _) |>.wide (Nat.le_refl _) (below_regrown w3 p.d p.os).size) true (by simp))
      have C2 := Lib.hid (fun p : Regrown => awake_any (grow (redrawn w3 p.d) p.os))
      generalize BB.length = bl at *
      clear a0 a1 a2 a3 b0 b1' b2 b3 ha hb ea eb HV6 HV7 HM3 HHA HHB
      go_upto_region 19 with (fail)
      refine q_enter (by kernel_rfl) (by kernel_rfl) ?_
      iterate 38 (refine q_step ?_; intro K hK; go_simp; first | (refine hK _ ?_; clear hK K) | (refine ⟨_, fun p => Calls.regrown_of (by with_reducible exact C1.out p), hK _ ?_⟩; clear hK K) | (refine ⟨_, fun p => Calls.regrown_of (by with_reducible exact C2.out p), hK _ ?_⟩; clear hK K))
      refine q_nil ?_
      intro wz hbz
      have HBE : Hid (Below w.heap.size w wz) := Lib.hid (HB3.out.trans (hbz.mono HB3.out.size))
      clear hbz
      go_wp2_with fail
      go_ret
      exact ⟨rfl, HBE.out⟩

/-! ### the statement -/
theorem parOk : ∀ t ∈ (#[25, 58] : Array TypeId).toList, Try.prog.readableRec t = true ∧ t < Try.prog.types.size := by
  have hall : ([25, 58].all fun t => Try.prog.readableRec t && decide (t < Try.prog.types.size)) = true := by kernel_rfl
  intro t ht
  simpa using List.all_eq_true.1 hall t ht

set_option maxRecDepth 100000 in
/-- What the walk gives, for every argument. -/
theorem contract (H : Type) (enc : TypeId × Value → H) (W : World) (base : Nat) (args : Array Value) (ds gs : List (DataW H)) (before : List MemPlace)
    (hval : ∀ (j : Nat) t v, Try.f7.params[j]? = some t → args[j]? = some v → Value.okWide Try.prog W .any base t v)
    (hW : DataW.Whole enc Try.prog Try.f7.params.toList Rows.graceConfirmsSpec.vars false W args.toList ds gs before) :
    Calls Try.prog 7 args W fun e W' => ∃ v, e = .returned v ∧ Rows.graceConfirmsSpec.post enc Try.prog Try.f7 false true false false W args v W' := by
  have hW' := hW
  obtain ⟨p, q, hA0, hV, rfl, hfz, hnd⟩ := hW
  have hA : DataW.TrodAll enc Try.prog W 0 (fun _ => true) true Try.f7.params.toList args.toList ds p := hA0
  rw [Try.params7] at hA hval
  obtain ⟨v0, vs0, d0, ds0, p0, q0, hargs, rfl, rfl, h0, r0⟩ := trodAll_cons hA
  obtain ⟨v1, vs1, d1, ds1, p1, q1, rfl, rfl, rfl, h1, r1⟩ := trodAll_cons r0
  obtain ⟨rfl, rfl, rfl⟩ := trodAll_nil r1
  obtain rfl : args = #[v0, v1] := by cases args; simp_all
  obtain ⟨rfl, rfl⟩ := trodVars_none hV
  obtain ⟨inc, rfl, _, _⟩ := open_u64 (hval 0 25 v0 rfl rfl) h0
  obtain ⟨A, c, is, rfl, h1, h2, h3⟩ := open_octs (hval 1 58 v1 rfl rfl) h1
  clear hA0
  refine (walk inc A c is W h1 h2 h3).mono fun e W' ⟨he, hb⟩ => ?_
  subst he
  exact ⟨_, rfl, law_post rfl (by rw [Try.params7]; exact parOk) rfl hW' rfl rfl rfl hb⟩

set_option maxRecDepth 100000 in
theorem lifted (os : Os) (started : os.Started) (H : Type) (enc : TypeId × Value → H) :
    ReturnsInHanded {} Try.checked os 7 .any (Rows.graceConfirmsSpec.pre6 enc Try.prog Try.f7 Rows.graceConfirmsRow.domain false) (Rows.graceConfirmsSpec.post enc Try.prog Try.f7 false true false false) := by
  refine returnsInHanded_of_change (C := Try.checked) own started (by kernel_rfl) Try.func7
    (ChangeSpec.witness6 (enc := enc) (C := Try.checked) false ⟨#[], #[.int .u64 0, .slice none 0 0], []⟩ 8 (by kernel_rfl) (by kernel_rfl) (by kernel_rfl) (by kernel_rfl)) ?_
  intro W base args ds gs before hval hW _ _
  exact contract H enc W base args ds gs before hval hW

/-- THE STATEMENT. -/
theorem said : Rows.GraceConfirmsSaid :=
  OpenClaim.holds_of_wide 7 Try.f7 rfl rfl rfl rfl rfl rfl rfl ⟨rfl, rfl, rfl, rfl, rfl⟩ rfl rfl rfl rfl rfl (by kernel_rfl) Try.func7 (by kernel_rfl)
    (of_decide_eq_true (by kernel_rfl)) (by unfold Func.isWrapper; first | (rw [if_pos (by decide +kernel)]; kernel_rfl) | (rw [if_neg (by decide +kernel)]; exact ⟨rfl, rfl⟩))
    (fun os started H enc _ => lifted os started H enc)
end Go.Proofs.Ytknpbbplolncpaa.lawConfirms
