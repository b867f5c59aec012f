/-
  The walks of the document's Clear and Ripe, and of the law's Few.
-/
import Derived.Test.YtknpbbplolncpaaRipe
namespace Go.Proofs.Ytknpbbplolncpaa
open Go.Sort Go.RowKit Go.Proofs.Ytknpbbplolncpaa.Pure

set_option maxRecDepth 100000 in
set_option maxHeartbeats 4000000 in
theorem rclear_any (A : Option Addr) (c hi : Nat) (l : List Db) (who inc : Int) (w : World) (hs : Sm l) (h : Ds w hi A l) (hh : hi ≤ w.heap.size) :
    Calls Try.prog 22 #[.slice A l.length c, .int .i64 who, .int .u64 inc] w fun e w' => ∃ v, e = .returned v ∧ OwnD w' w.heap.size v (yet (fun x => goneB who inc x.ct) l) ∧ Below w.heap.size w w' := by
  have H := Lib.hid h
  have HH := Lib.hid hh
  have hl0 := hs.1
  have HSU := Lib.hid (fun k h => filter_take_succ (fun x => !goneB who inc x.ct) l k h)
  have HLE : Hid (∀ k, ((l.take k).filter (fun x => !goneB who inc x.ct)).length ≤ 1000) := Lib.hid (fun k => Nat.le_trans (List.length_filter_le _ _) (by rw [List.length_take]; omega))
  have HYE : Hid (yet (fun x => goneB who inc x.ct) l = l.filter (fun x => !goneB who inc x.ct)) := Lib.hid rfl
  rw [HYE.out]
  clear h hh hs HYE
  go_enter Try.func22, Try.ntmps22
  go_wp2_with fail
  go_loopw [7, 8] (fun v i wr => ∃ k : Nat, i = .int .i64 k ∧ k ≤ l.length ∧ Hid (Two wr w.heap.size v ((l.take k).filter (fun x => !goneB who inc x.ct)) (.slice none 0 0) []) ∧ Hid (Below w.heap.size w wr)) (fun _ i _ => l.length - (intOf i).toNat)
  case atStart => exact ⟨0, rfl, Nat.zero_le _, Lib.hid (Two.nil _ _), Lib.hid (Below.refl _ _)⟩
  case round =>
    obtain ⟨wq, ewq⟩ : ∃ wq, wq = wr := ⟨_, rfl⟩
    subst ewq
    obtain ⟨k, rfl, hk, HTW, HBq⟩ := hrel
    by_cases hlt : k < l.length
    · obtain ⟨ad, rfl, hlo, h1, hr1⟩ := (H.out.on HBq.out HH.out) k hlt
      obtain ⟨a0, a1, a2, a3⟩ := h1.flat
      have k0 : (0 : Int) ≤ (k : Int) := by omega
      have k1 : (k : Int) < (l.length : Int) := by omega
      have HSK := Lib.hid (HSU.out k hlt)
      have HR0 : Hid (Rd wq (fun k => k < w.heap.size) _) := Lib.hid (hr1.imp fun j _ hj => Nat.lt_of_lt_of_le hj HH.out)
      generalize db l k = x at *
      have HGW : Hid (w.heap.size ≤ wq.heap.size) := Lib.hid HBq.out.size
      have HG : Hid (goneB who inc x.ct = (decide (x.w = who) && decide (x.i ≤ inc))) := Lib.hid rfl
      have HFT : Hid (goneB who inc x.ct = false → (l.take (k + 1)).filter (fun x => !goneB who inc x.ct) = (l.take k).filter (fun x => !goneB who inc x.ct) ++ [x]) := Lib.hid (fun e => by rw [HSK.out, if_pos (by rw [e]; rfl)])
      have HFF : Hid (goneB who inc x.ct = true → (l.take (k + 1)).filter (fun x => !goneB who inc x.ct) = (l.take k).filter (fun x => !goneB who inc x.ct)) := Lib.hid (fun e => by rw [HSK.out, if_neg (by rw [e]; decide)])
      clear h1 hr1 HSK
      by_cases e1 : x.w = who
      · have d1 : (x.w != who) = false := by simpa using e1
        by_cases e2 : x.i ≤ inc
        · have d2 : decide (inc < x.i) = false := by simp; omega
          have HQ := Lib.hid (HFF.out (by rw [HG.out]; simp [e1, e2]))
          have HT5 := HTW
          rw [← HQ.out] at HT5
          clear HFT HFF HG e1 e2 HTW HQ
          go_wp2_with fail
          clear a0 a1 a2 a3
          go_roundw
          case rel => exact ⟨k + 1, by go_num, by omega, HT5, HBq⟩
          case measure => simp [intOf]; omega
        · have d2 : decide (inc < x.i) = true := by simp; omega
          have HQ := Lib.hid (HFT.out (by rw [HG.out]; simp [e2]))
          clear HFT HFF HG e1 e2
          go_upto_region 6 with (fail)
          obtain ⟨v', w6, h1, h2, h3⟩ := HTW.out.put x HR0.out HGW.out (HLE.out k) 22
          rw [← HQ.out] at h2
          have HT5 := Lib.hid h2
          have HB5 : Hid (Below w.heap.size w w6) := Lib.hid (HBq.out.trans h3)
          clear h2 h3 HTW HBq HR0 HGW HQ
          go_wp2_with (at_builtin; refine wpList_app rfl 22 _ _ rfl _ _ rfl rfl h1 ?_)
          clear h1 a0 a1 a2 a3
          go_roundw
          case rel => exact ⟨k + 1, by go_num, by omega, HT5, HB5⟩
          case measure => simp [intOf]; omega
      · have d1 : (x.w != who) = true := by simpa using e1
        have HQ := Lib.hid (HFT.out (by rw [HG.out]; simp [e1]))
        clear HFT HFF HG e1
        go_upto_region 6 with (fail)
        obtain ⟨v', w6, h1, h2, h3⟩ := HTW.out.put x HR0.out HGW.out (HLE.out k) 22
        rw [← HQ.out] at h2
        have HT5 := Lib.hid h2
        have HB5 : Hid (Below w.heap.size w w6) := Lib.hid (HBq.out.trans h3)
        clear h2 h3 HTW HBq HR0 HGW HQ
        go_wp2_with (at_builtin; refine wpList_app rfl 22 _ _ rfl _ _ rfl rfl h1 ?_)
        clear h1 a0 a1 a2 a3
        go_roundw
        case rel => exact ⟨k + 1, by go_num, by omega, HT5, HB5⟩
        case measure => simp [intOf]; omega
    · obtain rfl : k = l.length := by omega
      have hT := HTW.out
      rw [List.take_length] at hT
      have HTT := Lib.hid hT.o1
      clear hT HTW HSU HLE
      go_wp2_with fail
      go_ret
      exact ⟨_, rfl, HTT.out, HBq.out⟩
end Go.Proofs.Ytknpbbplolncpaa
