/-
  The walks of Check and Nodes, of the program and of the document.
-/
import Derived.Test.YtphcmjhphoacgaaLeaf
namespace Go.Proofs.Ytphcmjhphoacgaa
open Go.Sort Go.RowKit Go.Proofs.Ytphcmjhphoacgaa.Pure

set_option maxRecDepth 100000 in
set_option maxHeartbeats 2000000 in
theorem check_t (A : Option Addr) (c lo hi : Nat) (xs : List Int) (p : Int) (w : World) (hn : xs.length ≤ 100000) (h : Has w lo hi A xs) (hh : hi ≤ w.heap.size) (L : Bool) (hL : okT xs p = L) :
    Calls Try.prog 14 #[.agg #[.slice A xs.length c, .int .i64 p]] w fun e w' => e = .returned (.int .i64 (okE L)) ∧ Below w.heap.size w w' := by
  have H := Lib.hid h
  obtain ⟨M, hM⟩ : ∃ M, numsB xs = M := ⟨_, rfl⟩
  have HM := Lib.hid (fun (W : World) (h : Has W lo hi A xs) (hh : hi ≤ W.heap.size) => meet_any A c lo hi xs W hn h hh M hM)
  have HL : Hid ((M && (decide (0 ≤ p) && decide (p ≤ (xs.length : Int)))) = L) := Lib.hid (by rw [← hL, ← hM]; rfl)
  clear h hL hM
  have hzv := zero_arr
  have HST := Lib.hid (fun (W : World) (bs cs : List Bool) => storeC_new W bs cs)
  have HZL : Hid ((List.replicate 64 false).length = 64) := Lib.hid (by simp)
  generalize List.replicate 64 false = zs at *
  go_enter Try.func14, Try.ntmps14
  go_wp2_with fail
  refine (HM.out _ (H.out.alloc _ hh) (by simp; omega)).mono ?_
  rintro e w1 ⟨bs, rfl, hbl, _, hb1⟩
  have x0 := (hb1.cell (p := ⟨w.heap.size, 0, none⟩) (by simp)).trans (show _ = some (.slice A xs.length c) by go_simp)
  have x1 := (hb1.cell (p := ⟨w.heap.size, 1, none⟩) (by simp)).trans (show _ = some (.int .i64 p) by go_simp)
  have hst := HST.out w1 zs bs HZL.out hbl
  have hsz : (bools bs).size = 64 := by rw [bools_len, hbl]
  have hz1 : w.heap.size < w1.heap.size := by have := hb1.size; simp at this; omega
  have HB1 : Hid (Below w.heap.size w (w1.alloc (.cells (bools bs) 52))) := Lib.hid ((((Below.refl _ _).alloc (Nat.le_refl _) _).trans (hb1.mono (by simp))).alloc (by omega) _)
  generalize bools bs = cs at *
  generalize bools zs = ys at *
  clear hb1 HST HZL
  have x0' : (w1.alloc (.cells cs 52)).cell? ⟨w.heap.size, 0, none⟩ = some (.slice A xs.length c) := by rw [World.cell?_alloc_old _ _ _ (by simp; omega)]; exact x0
  have x1' : (w1.alloc (.cells cs 52)).cell? ⟨w.heap.size, 1, none⟩ = some (.int .i64 p) := by rw [World.cell?_alloc_old _ _ _ (by simp; omega)]; exact x1
  clear x0 x1
  go_upto_region 2 with (fail)
  generalize w1.alloc (.cells cs 52) = w2 at *
  clear hst hzv
  rcases M with _ | _
  · obtain rfl : L = false := by rw [← HL.out]; rfl
    go_wp2_with fail
    go_ret
    exact ⟨rfl, HB1.out⟩
  · by_cases h1 : p < 0
    · obtain rfl : L = false := by rw [← HL.out]; simp; omega
      have d1 : decide (p < 0) = true := by simpa using h1
      go_wp2_with fail
      go_ret
      exact ⟨rfl, HB1.out⟩
    · have d1 : decide (p < 0) = false := by simpa using h1
      by_cases h2 : (xs.length : Int) < p
      · obtain rfl : L = false := by rw [← HL.out]; simp; omega
        have d2 : decide ((xs.length : Int) < p) = true := by simpa using h2
        go_wp2_with fail
        go_ret
        exact ⟨rfl, HB1.out⟩
      · obtain rfl : L = true := by rw [← HL.out]; simp; omega
        have d2 : decide ((xs.length : Int) < p) = false := by simpa using h2
        go_wp2_with fail
        go_ret
        exact ⟨rfl, HB1.out⟩

set_option maxRecDepth 100000 in
set_option maxHeartbeats 2000000 in
theorem nodes_t (A : Option Addr) (c lo hi : Nat) (xs : List Int) (w : World) (hn : xs.length ≤ 100000) (h : Has w lo hi A xs) (hh : hi ≤ w.heap.size) (L : Bool) (hL : nodesB xs = L) :
    Calls Try.prog 16 #[.slice A xs.length c] w fun e w' => e = .returned (.int .i64 (okE L)) ∧ Below w.heap.size w w' := by
  have H := Lib.hid h
  obtain ⟨M, hM⟩ : ∃ M, numsB xs = M := ⟨_, rfl⟩
  obtain ⟨R, hR⟩ : ∃ R, risesB xs = R := ⟨_, rfl⟩
  have HM := Lib.hid (fun (W : World) (h : Has W lo hi A xs) (hh : hi ≤ W.heap.size) => meet_any A c lo hi xs W hn h hh M hM)
  have HS := Lib.hid (fun (W : World) (h : Has W lo hi A xs) (hh : hi ≤ W.heap.size) => sorted_any A c lo hi xs W hn h hh R hR)
  have HL : Hid ((M && R) = L) := Lib.hid (by rw [← hL, ← hM, ← hR]; rfl)
  clear h hL hM hR
  have hzv := zero_arr
  have HST := Lib.hid (fun (W : World) (bs cs : List Bool) => storeC_new W bs cs)
  have HZL : Hid ((List.replicate 64 false).length = 64) := Lib.hid (by simp)
  generalize List.replicate 64 false = zs at *
  go_enter Try.func16, Try.ntmps16
  go_wp2_with fail
  refine (HM.out _ H.out hh).mono ?_
  rintro e w1 ⟨bs, rfl, hbl, _, hb1⟩
  have hst := HST.out w1 zs bs HZL.out hbl
  have hsz : (bools bs).size = 64 := by rw [bools_len, hbl]
  have HB1 : Hid (Below w.heap.size w (w1.alloc (.cells (bools bs) 52))) := Lib.hid (hb1.alloc hb1.size _)
  generalize bools bs = cs at *
  generalize bools zs = ys at *
  clear hb1 HST HZL
  go_upto_region 2 with (fail)
  generalize w1.alloc (.cells cs 52) = w2 at *
  clear hst hzv
  rcases M with _ | _
  · obtain rfl : L = false := by rw [← HL.out]; rfl
    go_wp2_with fail
    go_ret
    exact ⟨rfl, HB1.out⟩
  · obtain rfl : R = L := by rw [← HL.out]; rfl
    go_wp2_with fail
    refine (HS.out _ (H.out.on HB1.out hh) (Nat.le_trans hh HB1.out.size)).mono ?_
    rintro e w3 ⟨rfl, hb3⟩
    have HB3 : Hid (Below w.heap.size w w3) := Lib.hid (HB1.out.trans (hb3.mono HB1.out.size))
    clear hb3 HB1 HS HM
    rcases R with _ | _
    · go_wp2_with fail
      go_ret
      exact ⟨rfl, HB3.out⟩
    · go_wp2_with fail
      go_ret
      exact ⟨rfl, HB3.out⟩
end Go.Proofs.Ytphcmjhphoacgaa
