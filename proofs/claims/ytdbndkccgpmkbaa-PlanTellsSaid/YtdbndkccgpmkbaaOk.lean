/-
  The walks of Check and Nodes, of the program and of the document.
-/
import Derived.Test.YtdbndkccgpmkbaaLeaf
namespace Go.Proofs.Ytdbndkccgpmkbaa
open Go.Sort Go.RowKit Go.Proofs.Ytdbndkccgpmkbaa.Pure

set_option maxRecDepth 100000 in
set_option maxHeartbeats 2000000 in
theorem nodes_t (A : Option Addr) (c lo hi : Nat) (xs : List Int) (w : World) (hn : xs.length ≤ 100000) (h : Has w lo hi A xs) (hh : hi ≤ w.heap.size) (L : Bool) (hL : nodesB xs = L) :
    Calls Try.prog 36 #[.slice A xs.length c] w fun e w' => e = .returned (.int .i64 (okE L)) ∧ Below w.heap.size w w' := by
  have H := Lib.hid h
  obtain ⟨M, hM⟩ : ∃ M, numsB xs = M := ⟨_, rfl⟩
  obtain ⟨R, hR⟩ : ∃ R, risesB xs = R := ⟨_, rfl⟩
  have HM := Lib.hid (fun (W : World) (h : Has W lo hi A xs) (hh : hi ≤ W.heap.size) => meet_any A c lo hi xs W hn h hh M hM)
  have HS := Lib.hid (fun (W : World) (h : Has W lo hi A xs) (hh : hi ≤ W.heap.size) => sorted_any A c lo hi xs W hn h hh R hR)
  have HL : Hid ((M && R) = L) := Lib.hid (by rw [← hL, ← hM, ← hR]; rfl)
  clear h hL hM hR
  have hzv := zero_arr
  have HST := Lib.hid (fun (W : World) (bs cs : List Bool) => storeC_new W bs cs)
  have HZL : Hid ((List.replicate 64 false).length = 64) := Lib.hid (by simp)
  generalize List.replicate 64 false = zs at *
  go_enter Try.func36, Try.ntmps36
  go_wp2_with fail
  refine (HM.out _ H.out hh).mono ?_
  rintro e w1 ⟨bs, rfl, hbl, _, hb1⟩
  have hst := HST.out w1 zs bs HZL.out hbl
  have hsz : (bools bs).size = 64 := by rw [bools_len, hbl]
  have HB1 : Hid (Below w.heap.size w (w1.alloc (.cells (bools bs) 74))) := Lib.hid (hb1.alloc hb1.size _)
  generalize bools bs = cs at *
  generalize bools zs = ys at *
  clear hb1 HST HZL
  go_upto_region 2 with (fail)
  generalize w1.alloc (.cells cs 74) = w2 at *
  clear hst hzv
  rcases M with _ | _
  · obtain rfl : L = false := by rw [← HL.out]; rfl
    go_wp2_with fail
    go_ret
    exact ⟨rfl, HB1.out⟩
  · obtain rfl : R = L := by rw [← HL.out]; rfl
    go_wp2_with fail
    refine (HS.out _ (H.out.on HB1.out hh) (Nat.le_trans hh HB1.out.size)).mono ?_
    rintro e w3 ⟨rfl, hb3⟩
    have HB3 : Hid (Below w.heap.size w w3) := Lib.hid (HB1.out.trans (hb3.mono HB1.out.size))
    clear hb3 HB1 HS HM
    rcases R with _ | _
    · go_wp2_with fail
      go_ret
      exact ⟨rfl, HB3.out⟩
    · go_wp2_with fail
      go_ret
      exact ⟨rfl, HB3.out⟩
end Go.Proofs.Ytdbndkccgpmkbaa
