/-
  The walk of the document's Ripe.
-/
import Derived.Test.YtknpbbplolncpaaRipe
namespace Go.Proofs.Ytknpbbplolncpaa
open Go.Sort Go.RowKit Go.Proofs.Ytknpbbplolncpaa.Pure

set_option maxRecDepth 100000 in
set_option maxHeartbeats 4000000 in
theorem rripe_any (A : Option Addr) (c hi : Nat) (l : List Db) (r : Ru) (n : Nat) (now : Int) (t : Bool) (w : World) (hs : Sm l) (h : Ds w hi A l) (hh : hi ≤ w.heap.size) (hr : Rl r) (hn1 : 1 ≤ n) (hn2 : n ≤ 64) (hd : mayD (l.map Db.ct) = true) :
    Calls Try.prog 25 #[.slice A l.length c, .agg #[.int .i64 r.mn, .int .i64 r.mo, .int .i64 r.al], .int .i64 (n : Int), .int .i64 now, .bool t] w fun e w' => ∃ v, e = .returned v ∧ OwnD w' w.heap.size v (l.filter (fun x : Db => ripeB r n now x.ct == t)) ∧ Below w.heap.size w w' := by
  have HB0 : Hid (Below w.heap.size w (w.alloc (.cells #[.int .i64 r.mn, .int .i64 r.mo, .int .i64 r.al] 24))) := Lib.hid ((Below.refl _ w).alloc (Nat.le_refl _) _)
  have BX : Hid ((w.alloc (.cells #[.int .i64 r.mn, .int .i64 r.mo, .int .i64 r.al] 24)).cell? ⟨w.heap.size, 0, none⟩ = some (.int .i64 r.mn) ∧ (w.alloc (.cells #[.int .i64 r.mn, .int .i64 r.mo, .int .i64 r.al] 24)).cell? ⟨w.heap.size, 1, none⟩ = some (.int .i64 r.mo) ∧ (w.alloc (.cells #[.int .i64 r.mn, .int .i64 r.mo, .int .i64 r.al] 24)).cell? ⟨w.heap.size, 2, none⟩ = some (.int .i64 r.al)) := Lib.hid ⟨by go_simp, by go_simp, by go_simp⟩
  have HSZ : Hid (w.heap.size ≤ (w.alloc (.cells #[.int .i64 r.mn, .int .i64 r.mo, .int .i64 r.al] 24)).heap.size) := Lib.hid (by simp)
  have HGY := Lib.hid (fun cc (hcc : 0 ≤ cc) W => rgrace_any r n cc W hr hn1 hn2 hcc)
  have HGB : Hid (∀ cc, 0 ≤ cc → 0 ≤ graceN r n cc ∧ graceN r n cc ≤ 140000) := Lib.hid (fun cc hcc => by
    by_cases ha : r.al = 0
    · have := least_bounds hr hn1 hn2
      have e : graceN r n cc = leastN r n := by unfold graceN; rw [if_pos ha]
      omega
    · obtain ⟨S, G, D, m, E, Q, R, hgp, hgr⟩ := gp_of (c := cc) hr hn1 hn2 hcc ha
      have := hgp.s_
      have := hgp.g_
      have := hgp.r_
      omega)
  have HOK : Hid (∀ k, k < l.length → OkD (db l k).ct) := Lib.hid (fun k hk => by
    have := ((mayD_iff _).1 hd).1 k (by rw [List.length_map]; exact hk)
    rwa [ct_at] at this)
  have HS := Lib.hid hs
  have H := Lib.hid h
  have HH := Lib.hid hh
  have HSU := Lib.hid (fun k h => filter_take_succ (fun x : Db => ripeB r n now x.ct == t) l k h)
  have HLE : Hid (∀ k, ((l.take k).filter (fun x : Db => ripeB r n now x.ct == t)).length ≤ 1000) := Lib.hid (fun k => Nat.le_trans (List.length_filter_le _ _) (by rw [List.length_take]; have := hs.1; omega))
  have HRBB : Hid (∀ x : Db, ripeB r n now x.ct = decide (x.t + graceN r n ((x.b.length : Int) - 1) ≤ now)) := Lib.hid (fun x => rfl)
  have hl0 := hs.1
  clear h hh hs hr hd
  go_enter Try.func25, Try.ntmps25
  go_upto_region 2 with (fail)
  have HDS0 := Lib.hid (H.out.on HB0.out HH.out)
  generalize (w.alloc (.cells #[.int .i64 r.mn, .int .i64 r.mo, .int .i64 r.al] 24)) = w0 at *
  go_wp2_with fail
  go_loopw [11, 12] (fun v i wr => ∃ k : Nat, i = .int .i64 k ∧ k ≤ l.length ∧ Hid (Two wr w0.heap.size v ((l.take k).filter (fun x : Db => ripeB r n now x.ct == t)) (.slice none 0 0) []) ∧ Hid (Below w0.heap.size w0 wr)) (fun _ i _ => l.length - (intOf i).toNat)
  case atStart => exact ⟨0, rfl, Nat.zero_le _, Lib.hid (Two.nil _ _), Lib.hid (Below.refl _ _)⟩
  case round =>
    obtain ⟨wq, ewq⟩ : ∃ wq, wq = wr := ⟨_, rfl⟩
    subst ewq
    obtain ⟨k, rfl, hk, HTW, HBq⟩ := hrel
    by_cases hlt : k < l.length
    · obtain ⟨ad, rfl, hlo, h1, hr1⟩ := (HDS0.out.on HBq.out (Nat.le_trans HH.out HSZ.out)) k hlt
      obtain ⟨a0, a1, a2, a3⟩ := h1.flat
      have k0 : (0 : Int) ≤ (k : Int) := by omega
      have k1 : (k : Int) < (l.length : Int) := by omega
      have HSK := Lib.hid (HSU.out k hlt)
      have hok := HOK.out k hlt
      have HR0 : Hid (Rd wq (fun k => k < w0.heap.size) _) := Lib.hid (hr1.imp fun j _ hj => Nat.lt_of_lt_of_le hj (Nat.le_trans HH.out HSZ.out))
      have HBL := Lib.hid (HS.out.2 _ (db_mem l hlt))
      have HRBx := Lib.hid (HRBB.out (db l k))
      generalize db l k = x at *
      obtain ⟨⟨t0, t1⟩, hbn, _⟩ := hok
      have t0' : 0 ≤ x.t := t0
      have t1' : x.t ≤ 1099511627776 := t1
      have hbn' : 0 < x.b.length := List.length_pos_iff.2 hbn
      clear t0 t1 hbn h1 hr1
      obtain ⟨cc, hcc⟩ : ∃ cc : Int, cc = (x.b.length : Int) - 1 := ⟨_, rfl⟩
      have hc0 : 0 ≤ cc := by omega
      have HWC : IntKind.i64.wrap ((x.b.length : Int) - 1) = cc := by rw [← hcc, IntWalk.i64_in _ (by have := HBL.out; omega)]
      rw [← hcc] at HRBx
      have HGC := Lib.hid (fun p : Regrown => HGY.out cc hc0 (grow (redrawn wq p.d) p.os))
      have hgb := HGB.out cc hc0
      clear hcc hc0 hbn'
      generalize graceN r n cc = gr at *
      obtain ⟨su, hsu⟩ : ∃ su : Int, su = x.t + gr := ⟨_, rfl⟩
      rw [← hsu] at HRBx
      have HWS : IntKind.i64.wrap (x.t + gr) = su := by rw [← hsu, IntWalk.i64_in _ (by omega)]
      clear hsu hgb t0' t1'
      have HFT : Hid ((ripeB r n now x.ct == t) = true → (l.take (k + 1)).filter (fun x : Db => ripeB r n now x.ct == t) = (l.take k).filter (fun x : Db => ripeB r n now x.ct == t) ++ [x]) := Lib.hid (fun e => by rw [HSK.out, if_pos e])
      have HFF : Hid ((ripeB r n now x.ct == t) = false → (l.take (k + 1)).filter (fun x : Db => ripeB r n now x.ct == t) = (l.take k).filter (fun x : Db => ripeB r n now x.ct == t)) := Lib.hid (fun e => by rw [HSK.out, if_neg (by rw [e]; decide)])
      rw [HRBx.out] at HFT HFF
      have q0 := cell_on BX.out.1 HBq.out
      have q1 := cell_on BX.out.2.1 HBq.out
      have q2 := cell_on BX.out.2.2 HBq.out
      have X2 : ∀ p : Regrown, (grow (redrawn wq p.d) p.os).cell? ⟨(ad.add (k * 4)).block, (ad.add (k * 4)).off + 2, none⟩ = some (.int .i64 x.t) := fun p => cell_regrown a2 p.d p.os
      have X3 : ∀ p : Regrown, (grow (redrawn wq p.d) p.os).cell? ⟨(ad.add (k * 4)).block, (ad.add (k * 4)).off + 3, none⟩ = some (.slice x.A x.b.length x.c) := fun p => cell_regrown a3 p.d p.os
      have Q0 : ∀ p : Regrown, (grow (redrawn wq p.d) p.os).cell? ⟨w.heap.size, 0, none⟩ = some (.int .i64 r.mn) := fun p => cell_regrown q0 p.d p.os
      have Q1 : ∀ p : Regrown, (grow (redrawn wq p.d) p.os).cell? ⟨w.heap.size, 1, none⟩ = some (.int .i64 r.mo) := fun p => cell_regrown q1 p.d p.os
      have Q2 : ∀ p : Regrown, (grow (redrawn wq p.d) p.os).cell? ⟨w.heap.size, 2, none⟩ = some (.int .i64 r.al) := fun p => cell_regrown q2 p.d p.os
      clear HSK HRBx
      rcases hrt : (decide (su ≤ now) == t) with _ | _
      · have HQ := Lib.hid (HFF.out hrt)
        clear HFT HFF
        go_upto_region 5 with (fail)
        refine q_enter (by kernel_rfl) (by kernel_rfl) ?_
        iterate 20 (refine q_step ?_; intro K hK; go_simp; first | (refine hK _ ?_; clear hK K) | (refine ⟨_, fun p => Calls.regrown_of (by with_reducible exact HGC.out p), hK _ ?_⟩; clear hK K))
        refine q_nil ?_
        intro w3 hb3
        have b0 := cell_on a0 hb3
        have b1 := cell_on a1 hb3
        have b2 := cell_on a2 hb3
        have b3 := cell_on a3 hb3
        have HTW3 := Lib.hid (HTW.out.on hb3)
        have HR3 := Lib.hid (HR0.out.on hb3)
        have HB3 : Hid (Below w0.heap.size w0 w3) := Lib.hid (HBq.out.trans (hb3.mono HBq.out.size))
        have HGW : Hid (w0.heap.size ≤ w3.heap.size) := Lib.hid HB3.out.size
        clear a0 a1 a2 a3 q0 q1 q2 X2 X3 Q0 Q1 Q2 hb3 HTW HR0 HBq HGC
        rw [← HQ.out] at HTW3
        clear HQ
        go_wp2_with fail
        clear b0 b1 b2 b3
        go_roundw
        case rel => exact ⟨k + 1, by go_num, by omega, HTW3, HB3⟩
        case measure => simp [intOf]; omega
      · have HQ := Lib.hid (HFT.out hrt)
        clear HFT HFF
        go_upto_region 5 with (fail)
        refine q_enter (by kernel_rfl) (by kernel_rfl) ?_
        iterate 20 (refine q_step ?_; intro K hK; go_simp; first | (refine hK _ ?_; clear hK K) | (refine ⟨_, fun p => Calls.regrown_of (by with_reducible exact HGC.out p), hK _ ?_⟩; clear hK K))
        refine q_nil ?_
        intro w3 hb3
        have b0 := cell_on a0 hb3
        have b1 := cell_on a1 hb3
        have b2 := cell_on a2 hb3
        have b3 := cell_on a3 hb3
        have HTW3 := Lib.hid (HTW.out.on hb3)
        have HR3 := Lib.hid (HR0.out.on hb3)
        have HB3 : Hid (Below w0.heap.size w0 w3) := Lib.hid (HBq.out.trans (hb3.mono HBq.out.size))
        have HGW : Hid (w0.heap.size ≤ w3.heap.size) := Lib.hid HB3.out.size
        clear a0 a1 a2 a3 q0 q1 q2 X2 X3 Q0 Q1 Q2 hb3 HTW HR0 HBq HGC
        go_upto_region 6 with (fail)
        obtain ⟨v', w6, h1, h2, h3⟩ := HTW3.out.put x HR3.out HGW.out (HLE.out k) 22
        rw [← HQ.out] at h2
        have HT5 := Lib.hid h2
        have HB5 : Hid (Below w0.heap.size w0 w6) := Lib.hid (HB3.out.trans h3)
        clear h2 h3 HTW3 HB3 HR3 HGW HQ
        go_wp2_with (at_builtin; refine wpList_app rfl 22 _ _ rfl _ _ rfl rfl h1 ?_)
        clear h1 b0 b1 b2 b3
        go_roundw
        case rel => exact ⟨k + 1, by go_num, by omega, HT5, HB5⟩
        case measure => simp [intOf]; omega
    · obtain rfl : k = l.length := by omega
      have hT := HTW.out
      rw [List.take_length] at hT
      have HTT := Lib.hid hT.o1
      have HBE : Hid (Below w.heap.size w wq) := Lib.hid (HB0.out.trans (HBq.out.mono HB0.out.size))
      clear hT HTW HSU HLE
      go_wp2_with fail
      go_ret
      exact ⟨_, rfl, HTT.out.mono HSZ.out, HBE.out⟩
end Go.Proofs.Ytknpbbplolncpaa
