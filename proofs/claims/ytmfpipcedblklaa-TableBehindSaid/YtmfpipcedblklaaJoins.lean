/-
  The walks of Join, of the program and of the document.
-/
import Derived.Test.YtmfpipcedblklaaJoin
namespace Go.Proofs.Ytmfpipcedblklaa
open Go.Sort Go.RowKit Go.Proofs.Ytmfpipcedblklaa.Pure

set_option maxRecDepth 100000 in
set_option maxHeartbeats 2000000 in
theorem rjoin_any (x y : Kn) (w : World) : Calls Try.prog 46 #[.agg #[.int .u64 x.i, .int .i64 x.s], .agg #[.int .u64 y.i, .int .i64 y.s]] w fun e w' => e = .returned (.agg #[.int .u64 (stepK y x).i, .int .i64 (stepK y x).s]) ∧ Below w.heap.size w w' := by
  have HBT := Lib.hid (fun W => rbeats_any x y W)
  have HS : Hid (stepK y x = if beatsB x y = true then x else y) := Lib.hid rfl
  generalize stepK y x = R at *
  generalize beatsB x y = V at *
  go_enter Try.func46, Try.ntmps46
  go_upto_region 1 with (fail)
  have HB : Hid (Below w.heap.size w (((w.alloc (.cells #[.int .u64 x.i, .int .i64 x.s] 25)).alloc (.cells #[.int .u64 y.i, .int .i64 y.s] 25)).alloc (.cells #[.int .u64 0, .int .i64 0] 25))) := Lib.hid ((((Below.refl _ _).alloc (Nat.le_refl _) _).alloc (by simp) _).alloc (by simp; omega) _)
  have BX : Hid (Vr (((w.alloc (.cells #[.int .u64 x.i, .int .i64 x.s] 25)).alloc (.cells #[.int .u64 y.i, .int .i64 y.s] 25)).alloc (.cells #[.int .u64 0, .int .i64 0] 25)) w.heap.size x) := Lib.hid (((Vr.new w x _).alloc _).alloc _)
  have BY : Hid (Vr (((w.alloc (.cells #[.int .u64 x.i, .int .i64 x.s] 25)).alloc (.cells #[.int .u64 y.i, .int .i64 y.s] 25)).alloc (.cells #[.int .u64 0, .int .i64 0] 25)) (w.heap.size + 1) y) := Lib.hid ((Vr.at_ (by simp) y _).alloc _)
  have BZ : Hid (Vr (((w.alloc (.cells #[.int .u64 x.i, .int .i64 x.s] 25)).alloc (.cells #[.int .u64 y.i, .int .i64 y.s] 25)).alloc (.cells #[.int .u64 0, .int .i64 0] 25)) (w.heap.size + 2) z0) := Lib.hid (Vr.zero (by simp) _)
  generalize ((w.alloc (.cells #[.int .u64 x.i, .int .i64 x.s] 25)).alloc (.cells #[.int .u64 y.i, .int .i64 y.s] 25)).alloc (.cells #[.int .u64 0, .int .i64 0] 25) = w2 at *
  have hz2 : w.heap.size + 2 < w2.heap.size := BZ.out.lt
  obtain ⟨⟨u0, u1⟩, _⟩ := BX.out
  obtain ⟨⟨v0, v1⟩, _⟩ := BY.out
  go_wp2_with fail
  refine (HBT.out _).mono ?_
  rintro e w3 ⟨rfl, hb3⟩
  have HB3 : Hid (Below w.heap.size w w3) := Lib.hid (HB.out.trans (hb3.mono (by omega)))
  have BX3 := Lib.hid (BX.out.on hb3)
  have BY3 := Lib.hid (BY.out.on hb3)
  have BZ3 := Lib.hid (BZ.out.on hb3)
  clear u0 u1 v0 v1 hb3 BX BY BZ
  obtain ⟨⟨u0, u1⟩, _⟩ := BX3.out
  obtain ⟨⟨v0, v1⟩, _⟩ := BY3.out
  obtain ⟨⟨c0, c1⟩, fz⟩ := BZ3.out
  have fz0 := fz 0
  have fz1 := fz 1
  rcases V with _ | _
  · obtain rfl : R = y := by rw [HS.out]; rfl
    have HE : Hid (Below w.heap.size w ((w3.setCell ⟨w.heap.size + 2, 0, none⟩ (.int .u64 R.i)).setCell ⟨w.heap.size + 2, 1, none⟩ (.int .i64 R.s))) := Lib.hid ((HB3.out.setCell (by simp) _).setCell (by simp) _)
    obtain ⟨⟨e0, e1⟩, _⟩ := BZ3.out.set R
    go_wp2_with fail
    refine bodyPost_ret (v := .agg #[.int .u64 R.i, .int .i64 R.s]) (by simp [results, Try.results46, go_sem, e0, e1]) rfl ⟨rfl, HE.out⟩
  · obtain rfl : R = x := by rw [HS.out]; rfl
    have HE : Hid (Below w.heap.size w ((w3.setCell ⟨w.heap.size + 2, 0, none⟩ (.int .u64 R.i)).setCell ⟨w.heap.size + 2, 1, none⟩ (.int .i64 R.s))) := Lib.hid ((HB3.out.setCell (by simp) _).setCell (by simp) _)
    obtain ⟨⟨e0, e1⟩, _⟩ := BZ3.out.set R
    go_wp2_with fail
    refine bodyPost_ret (v := .agg #[.int .u64 R.i, .int .i64 R.s]) (by simp [results, Try.results46, go_sem, e0, e1]) rfl ⟨rfl, HE.out⟩

set_option maxRecDepth 100000 in
set_option maxHeartbeats 4000000 in
theorem join_bad (A : Option Addr) (c : Nat) (l : List Kn) (w : World) (hn : l.length ≤ 1000) (h : Lst w A l) (hL : mayL l = false) :
    Calls Try.prog 35 #[.slice A l.length c] w fun e w' => e = .returned (.tuple #[.agg #[.int .u64 0, .int .i64 0], .int .i64 1]) ∧ Below w.heap.size w w' := by
  have HCK : Hid (∀ W : World, Lst W A l → Calls Try.prog 40 #[.slice A l.length c] W fun e w' => e = .returned (.int .i64 1) ∧ Below W.heap.size W w') := Lib.hid fun W h => check_any A c l W hn h false hL
  have H := Lib.hid (h.alloc (.cells #[.int .u64 0, .int .i64 0] 25))
  have BZ := Lib.hid (Vr.zero (w := w) rfl 25)
  have HB : Hid (Below w.heap.size w (w.alloc (.cells #[.int .u64 0, .int .i64 0] 25))) := Lib.hid ((Below.refl _ _).alloc (Nat.le_refl _) _)
  clear h hL
  go_enter Try.func35, Try.ntmps35
  go_upto_region 1 with (fail)
  generalize w.alloc (.cells #[.int .u64 0, .int .i64 0] 25) = w2 at *
  have hz2 : w.heap.size < w2.heap.size := BZ.out.lt
  go_wp2_with fail
  refine (HCK.out _ H.out).mono ?_
  rintro e w3 ⟨rfl, hb3⟩
  have HB3 : Hid (Below w.heap.size w w3) := Lib.hid (HB.out.trans (hb3.mono (by omega)))
  have BZ3 := Lib.hid (BZ.out.on hb3)
  clear hb3 BZ
  obtain ⟨⟨c0, c1⟩, fz⟩ := BZ3.out
  have fz0 := fz 0
  have fz1 := fz 1
  have HE : Hid (Below w.heap.size w ((w3.setCell ⟨w.heap.size, 0, none⟩ (.int .u64 0)).setCell ⟨w.heap.size, 1, none⟩ (.int .i64 0))) := Lib.hid ((HB3.out.setCell (by simp) _).setCell (by simp) _)
  obtain ⟨⟨e0, e1⟩, _⟩ := BZ3.out.set z0
  simp only [show z0.i = 0 from rfl, show z0.s = 0 from rfl] at e0 e1 c0 c1
  go_wp2_with fail
  exact bodyPost_ret (v := .tuple #[.agg #[.int .u64 0, .int .i64 0], .int .i64 1]) (by simp [results, Try.results35, go_sem, e0, e1]) rfl ⟨rfl, HE.out⟩

set_option maxRecDepth 100000 in
set_option maxHeartbeats 4000000 in
theorem join_yes (A : Option Addr) (c : Nat) (l : List Kn) (w : World) (hn : l.length ≤ 1000) (h : Lst w A l) (hL : mayL l = true) :
    Calls Try.prog 35 #[.slice A l.length c] w fun e w' => e = .returned (.tuple #[.agg #[.int .u64 (joinL l).i, .int .i64 (joinL l).s], .int .i64 0]) ∧ Below w.heap.size w w' := by
  have HCK : Hid (∀ W : World, Lst W A l → Calls Try.prog 40 #[.slice A l.length c] W fun e w' => e = .returned (.int .i64 0) ∧ Below W.heap.size W w') := Lib.hid fun W h => check_any A c l W hn h true hL
  have H := Lib.hid h
  have BZ := Lib.hid (Vr.zero (w := w) rfl 25)
  have HB : Hid (Below w.heap.size w (w.alloc (.cells #[.int .u64 0, .int .i64 0] 25))) := Lib.hid ((Below.refl _ _).alloc (Nat.le_refl _) _)
  have HA : Hid (∀ ad, A = some ad → 0 < l.length → ad.block < w.heap.size) := Lib.hid fun ad e hl => by
    obtain ⟨ad', e', h1, _⟩ := h 0 hl
    rw [e] at e'
    cases e'
    exact h1
  have HR : Hid (joinL l = joinL (l.take l.length)) := Lib.hid (by rw [List.take_length])
  generalize joinL l = R at *
  clear h hL
  go_enter Try.func35, Try.ntmps35
  go_upto_region 1 with (fail)
  generalize w.alloc (.cells #[.int .u64 0, .int .i64 0] 25) = w2 at *
  have hz2 : w.heap.size < w2.heap.size := BZ.out.lt
  go_wp2_with fail
  refine (HCK.out _ (H.out.on HB.out)).mono ?_
  rintro e w3 ⟨rfl, hb3⟩
  have HB3 : Hid (Below w.heap.size w w3) := Lib.hid (HB.out.trans (hb3.mono (by omega)))
  have BZ3 := Lib.hid (BZ.out.on hb3)
  clear hb3 BZ
  go_upto_region 5 with (fail)
  have BM := Lib.hid (Vr.zero (w := w3) rfl 25)
  have BZ4 := Lib.hid (BZ3.out.alloc (.cells #[.int .u64 0, .int .i64 0] 25))
  have HB4 : Hid (Below w.heap.size w (w3.alloc (.cells #[.int .u64 0, .int .i64 0] 25))) := Lib.hid (HB3.out.alloc (by have := BZ3.out.lt; omega) _)
  have hg : w.heap.size < w3.heap.size := BZ3.out.lt
  generalize w3.alloc (.cells #[.int .u64 0, .int .i64 0] 25) = w4 at *
  generalize w3.heap.size = g at *
  clear BZ3 HB3 HB
  go_wp2_with fail
  go_loopw [16] (fun i wr => ∃ k : Nat, i = .int .i64 k ∧ k ≤ l.length ∧ Hid (Vr wr w.heap.size z0) ∧ Hid (Vr wr g (joinL (l.take k))) ∧ Hid (Below w.heap.size w wr)) (fun i _ => l.length - (intOf i).toNat)
  case atStart => exact ⟨0, rfl, Nat.zero_le _, BZ4, BM, HB4⟩
  case round =>
    clear BZ4 BM HB4
    obtain ⟨k, rfl, hk, hbz, hbm, hb⟩ := hrel
    by_cases hlt : k < l.length
    · obtain ⟨ad, rfl, hlo, h1⟩ := (H.out.on hb.out) k hlt
      obtain ⟨a0, a1⟩ := h1.flat
      have hne : g ≠ ad.block := by have := HA.out ad rfl (by omega); omega
      have HJ := Lib.hid (join_take_succ l k hlt)
      have HBT := Lib.hid (fun W => beats_any (kn l k) (joinL (l.take k)) W)
      have HST : Hid (stepK (joinL (l.take k)) (kn l k) = if beatsB (kn l k) (joinL (l.take k)) = true then kn l k else joinL (l.take k)) := Lib.hid rfl
      rw [← HJ.out] at HST
      have k0 : (0 : Int) ≤ (k : Int) := by omega
      have k1 : (k : Int) < (l.length : Int) := by omega
      have e0 : decide ((k : Int) < (l.length : Int)) = true := by simpa using k1
      have hbm' := Lib.hid (hbm.out.alloc (.cells #[.int .u64 (kn l k).i, .int .i64 (kn l k).s] 25))
      have hbz' := Lib.hid (hbz.out.alloc (.cells #[.int .u64 (kn l k).i, .int .i64 (kn l k).s] 25))
      have hbk' := Lib.hid (Vr.new wr (kn l k) 25)
      have hb' : Hid (Below w.heap.size w (wr.alloc (.cells #[.int .u64 (kn l k).i, .int .i64 (kn l k).s] 25))) := Lib.hid (hb.out.alloc hb.out.size _)
      have hgr : g < wr.heap.size := hbm.out.lt
      generalize hV : beatsB (kn l k) (joinL (l.take k)) = V at *
      generalize hN : joinL (l.take (k + 1)) = N at *
      generalize hM : joinL (l.take k) = M at *
      generalize hK : kn l k = K at *
      clear hV hM hK HJ h1 hbz hbm hb
      go_upto_region 8 with (fail)
      generalize wr.alloc (.cells #[.int .u64 K.i, .int .i64 K.s] 25) = w5 at *
      generalize wr.heap.size = gk at *
      clear a0 a1
      obtain ⟨⟨u0, u1⟩, _⟩ := hbk'.out
      obtain ⟨⟨v0, v1⟩, _⟩ := hbm'.out
      go_wp2_with fail
      refine (HBT.out _).mono ?_
      rintro e w6 ⟨rfl, hb6⟩
      have HB6 : Hid (Below w.heap.size w w6) := Lib.hid (hb'.out.trans (hb6.mono hb'.out.size))
      have BK6 := Lib.hid (hbk'.out.on hb6)
      have BM6 := Lib.hid (hbm'.out.on hb6)
      have BZ6 := Lib.hid (hbz'.out.on hb6)
      clear u0 u1 v0 v1 hb6 hbk' hbm' hbz' hb' HBT
      rcases V with _ | _
      · obtain rfl : N = M := by rw [HST.out]; rfl
        go_wp2_with fail
        go_roundw
        case rel => exact ⟨k + 1, by go_num, by omega, BZ6, Lib.hid (by rw [hN]; exact BM6.out), HB6⟩
        case measure => simp [intOf]; omega
      · obtain rfl : N = K := by rw [HST.out]; rfl
        obtain ⟨⟨u0, u1⟩, _⟩ := BK6.out
        obtain ⟨⟨v0, v1⟩, fz⟩ := BM6.out
        have fz0 := fz 0
        have fz1 := fz 1
        have HE : Hid (Below w.heap.size w ((w6.setCell ⟨g, 0, none⟩ (.int .u64 N.i)).setCell ⟨g, 1, none⟩ (.int .i64 N.s))) := Lib.hid ((HB6.out.setCell (by simp; omega) _).setCell (by simp; omega) _)
        have HM := Lib.hid (BM6.out.set N)
        have HZ := Lib.hid (BZ6.out.apart (c := g) (by omega) N)
        clear fz
        go_wp2_with fail
        go_roundw
        case rel => exact ⟨k + 1, by go_num, by omega, HZ, Lib.hid (by rw [hN]; exact HM.out), HE⟩
        case measure => simp [intOf]; omega
    · obtain rfl : k = l.length := by omega
      have e0 : decide ((l.length : Int) < (l.length : Int)) = false := by simp
      rw [← HR.out] at hbm
      obtain ⟨⟨u0, u1⟩, _⟩ := hbm.out
      obtain ⟨⟨c0, c1⟩, fz⟩ := hbz.out
      have fz0 := fz 0
      have fz1 := fz 1
      have HE : Hid (Below w.heap.size w ((wr.setCell ⟨w.heap.size, 0, none⟩ (.int .u64 R.i)).setCell ⟨w.heap.size, 1, none⟩ (.int .i64 R.s))) := Lib.hid ((hb.out.setCell (by simp) _).setCell (by simp) _)
      obtain ⟨⟨e0', e1'⟩, _⟩ := hbz.out.set R
      clear fz
      go_wp2_with fail
      exact bodyPost_ret (v := .tuple #[.agg #[.int .u64 R.i, .int .i64 R.s], .int .i64 0]) (by simp [results, Try.results35, go_sem, e0', e1']) rfl ⟨rfl, HE.out⟩
end Go.Proofs.Ytmfpipcedblklaa
