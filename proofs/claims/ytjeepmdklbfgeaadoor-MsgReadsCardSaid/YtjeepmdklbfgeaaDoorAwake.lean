/-
  The chapter's examples.
-/
import Derived.Test.YtjeepmdklbfgeaaDoorReadsP
namespace Go.Proofs.YtjeepmdklbfgeaaDoor
open Go.Sort Go.RowKit Go.Proofs.YtjeepmdklbfgeaaDoor.Pure Go.Proofs.YtjeepmdklbfgeaaDoor.W Go.Proofs.YtjeepmdklbfgeaaDoor.W.Pure

/-- The message of the example, and the one to itself. -/
def nk : Mg := ⟨4, 1, 2, 5, 3, z0, [], [], 0, 0, 0, ⟨#[]⟩, 0, false⟩
def ow : Mg := ⟨4, 1, 1, 5, 3, z0, [], [], 0, 0, 0, ⟨#[]⟩, 0, false⟩
theorem nk_may : mayM nk = true := by decide
theorem ow_may : mayM ow = false := by decide
theorem wf_nk : Wf nk := ⟨by decide, by decide, by decide, by decide, fit_z0, fun _ h => by simp [nk] at h, fun _ h => by simp [nk] at h⟩
theorem enc_nk : enc nk = [4, 1, 2, 5, 3] := by decide
theorem nk_v (w : World) : MsgV w (.agg #[.int .i64 4, .int .i64 1, .int .i64 2, .int .u64 5, .int .i64 3, .int .u64 0, .int .i64 0, .slice none 0 0, .slice none 0 0, .int .u64 0, .int .u64 0, .int .i64 0, .string ⟨#[]⟩, .int .u64 0, .bool false]) nk := ⟨none, 0, none, 0, rfl, Ns.nil _ _, Lst.nil _ _, Nat.zero_le _, Nat.zero_le _, Nat.zero_le _⟩
theorem ow_v (w : World) : MsgV w (.agg #[.int .i64 4, .int .i64 1, .int .i64 1, .int .u64 5, .int .i64 3, .int .u64 0, .int .i64 0, .slice none 0 0, .slice none 0 0, .int .u64 0, .int .u64 0, .int .i64 0, .string ⟨#[]⟩, .int .u64 0, .bool false]) ow := ⟨none, 0, none, 0, rfl, Ns.nil _ _, Lst.nil _ _, Nat.zero_le _, Nat.zero_le _, Nat.zero_le _⟩
theorem five_not : ¬ Opens (tx [4, 1, 2, 5, 3]) := by decide +kernel
theorem five_size : (tx [4, 1, 2, 5, 3]).size = 5 := rfl
theorem five_is : (⟨#[4, 1, 2, 5, 3]⟩ : ByteArray) = tx [4, 1, 2, 5, 3] := rfl
theorem seal_nine : (sealB (tx [4, 1, 2, 5, 3])).size = 9 := by rw [seal_size]; rfl
set_option maxRecDepth 100000 in
set_option maxHeartbeats 4000000 in
theorem nack_any (w : World) : Calls Tryd.prog 37 #[] w fun e w' => e = .returned (.agg #[.int .i64 4, .int .i64 1, .int .i64 2, .int .u64 5, .int .i64 3, .int .u64 0, .int .i64 0, .slice none 0 0, .slice none 0 0, .int .u64 0, .int .u64 0, .int .i64 0, .string ⟨#[]⟩, .int .u64 0, .bool false]) ∧ Below w.heap.size w w' := by
  go_enter Tryd.func37, Tryd.ntmps37
  go_wp2_with fail
  exact bodyPost_ret (v := .agg #[.int .i64 4, .int .i64 1, .int .i64 2, .int .u64 5, .int .i64 3, .int .u64 0, .int .i64 0, .slice none 0 0, .slice none 0 0, .int .u64 0, .int .u64 0, .int .i64 0, .string ⟨#[]⟩, .int .u64 0, .bool false]) (by simp [results, Tryd.results37, go_sem]) rfl ⟨rfl, (Below.refl _ _).alloc (Nat.le_refl _) _⟩
set_option maxRecDepth 100000 in
set_option maxHeartbeats 4000000 in
theorem awake_any (w : World) (ht : Tab w) : Calls Tryd.prog 17 #[] w fun e w' => e = .returned (.bool true) ∧ Below w.heap.size w w' := by
  have HN := Lib.hid nack_any
  have HW := Lib.hid (fun (W : World) (h : Tab W) => write_yes nk _ W (nk_v W) wf_nk nk_may h)
  rw [enc_nk] at HW
  have HK := Lib.hid (fun (W : World) => check_msg ow _ W (ow_v W))
  rw [ow_may] at HK
  have hz : okE false = 1 := rfl
  rw [hz] at HK
  have HR := Lib.hid (fun (W : World) (h : Tab W) => read_err (tx [4, 1, 2, 5, 3]) ⟨#[]⟩ 10 W (by decide) h (fun W h => open_no _ W (by rw [five_size]; omega) (by rw [five_size]; omega) h five_not))
  have HS := Lib.hid (fun (W : World) => rseal_any (tx [4, 1, 2, 5, 3]) W (by rw [five_size]; omega))
  have h9 := seal_nine
  have HT := Lib.hid ht
  clear ht hz
  rw [← five_is] at HW HR HS h9
  generalize sealB (⟨#[4, 1, 2, 5, 3]⟩ : ByteArray) = sb at *
  go_enter Tryd.func17, Tryd.ntmps17
  go_wp2_with fail
  refine (HN.out _).mono ?_
  rintro e w1 ⟨rfl, hb1⟩
  have HB1 := Lib.hid hb1
  have HT1 := Lib.hid (HT.out.on hb1)
  clear hb1 HT
  go_wp2_with fail
  refine (HW.out _ HT1.out).mono ?_
  rintro e w2 ⟨rfl, hb⟩
  have HB2 : Hid (Below w.heap.size w w2) := Lib.hid (HB1.out.trans (hb.mono HB1.out.size))
  have HT2 := Lib.hid (HT1.out.on hb)
  clear hb HB1 HT1
  go_wp2_with fail
  refine (HN.out _).mono ?_
  rintro e w3 ⟨rfl, hb⟩
  have HB3 : Hid (Below w.heap.size w w3) := Lib.hid (HB2.out.trans (hb.mono HB2.out.size))
  have HT3 := Lib.hid (HT2.out.on hb)
  clear hb HB2 HT2
  have hal : Below w3.heap.size w3 (w3.alloc (.cells #[.int .i64 4, .int .i64 1, .int .i64 1, .int .u64 5, .int .i64 3, .int .u64 0, .int .i64 0, .slice none 0 0, .slice none 0 0, .int .u64 0, .int .u64 0, .int .i64 0, .string ⟨#[]⟩, .int .u64 0, .bool false] 28)) := (Below.refl _ _).alloc (Nat.le_refl _) _
  have HB4 : Hid (Below w.heap.size w (w3.alloc (.cells #[.int .i64 4, .int .i64 1, .int .i64 1, .int .u64 5, .int .i64 3, .int .u64 0, .int .i64 0, .slice none 0 0, .slice none 0 0, .int .u64 0, .int .u64 0, .int .i64 0, .string ⟨#[]⟩, .int .u64 0, .bool false] 28))) := Lib.hid (HB3.out.trans (hal.mono HB3.out.size))
  have HT4 := Lib.hid (HT3.out.on hal)
  have HR4 : Hid (Row (w3.alloc (.cells #[.int .i64 4, .int .i64 1, .int .i64 1, .int .u64 5, .int .i64 3, .int .u64 0, .int .i64 0, .slice none 0 0, .slice none 0 0, .int .u64 0, .int .u64 0, .int .i64 0, .string ⟨#[]⟩, .int .u64 0, .bool false] 28)) w3.heap.size [.int .i64 4, .int .i64 1, .int .i64 1, .int .u64 5, .int .i64 3, .int .u64 0, .int .i64 0, .slice none 0 0, .slice none 0 0, .int .u64 0, .int .u64 0, .int .i64 0, .string ⟨#[]⟩, .int .u64 0, .bool false]) := Lib.hid (Row.new w3 _ _)
  clear hal HB3 HT3
  go_upto_region 4 with (fail)
  generalize w3.alloc (.cells #[.int .i64 4, .int .i64 1, .int .i64 1, .int .u64 5, .int .i64 3, .int .u64 0, .int .i64 0, .slice none 0 0, .slice none 0 0, .int .u64 0, .int .u64 0, .int .i64 0, .string ⟨#[]⟩, .int .u64 0, .bool false] 28) = w4 at *
  generalize w3.heap.size = q at *
  go_wp2_with fail
  refine (HR.out _ HT4.out).mono ?_
  rintro e w5 ⟨v, rfl, hv, hb⟩
  obtain ⟨A, cA, T, cT, rfl, _, _, _⟩ := hv
  have hzv : mvv zm (.slice A zm.ns.length cA) (.slice T zm.tb.length cT) = .agg #[.int .i64 0, .int .i64 0, .int .i64 0, .int .u64 0, .int .i64 0, .int .u64 0, .int .i64 0, .slice A 0 cA, .slice T 0 cT, .int .u64 0, .int .u64 0, .int .i64 0, .string ⟨#[]⟩, .int .u64 0, .bool false] := rfl
  rw [hzv]
  clear hzv
  have hal5 : Below w5.heap.size w5 (w5.alloc (.cells #[.int .i64 0, .int .i64 0, .int .i64 0, .int .u64 0, .int .i64 0, .int .u64 0, .int .i64 0, .slice A 0 cA, .slice T 0 cT, .int .u64 0, .int .u64 0, .int .i64 0, .string ⟨#[]⟩, .int .u64 0, .bool false] 28)) := (Below.refl _ _).alloc (Nat.le_refl _) _
  have HB5 : Hid (Below w.heap.size w w5) := Lib.hid (HB4.out.trans (hb.mono HB4.out.size))
  have HB6 : Hid (Below w.heap.size w (w5.alloc (.cells #[.int .i64 0, .int .i64 0, .int .i64 0, .int .u64 0, .int .i64 0, .int .u64 0, .int .i64 0, .slice A 0 cA, .slice T 0 cT, .int .u64 0, .int .u64 0, .int .i64 0, .string ⟨#[]⟩, .int .u64 0, .bool false] 28))) := Lib.hid (HB5.out.trans (hal5.mono HB5.out.size))
  have HR5 := Lib.hid ((HR4.out.on hb (show 0 < 15 by decide)).on hal5 (show 0 < 15 by decide))
  clear hb HB4 HT4 HR4 HB5 hal5
  go_upto_region 5 with (fail)
  generalize w5.alloc (.cells #[.int .i64 0, .int .i64 0, .int .i64 0, .int .u64 0, .int .i64 0, .int .u64 0, .int .i64 0, .slice A 0 cA, .slice T 0 cT, .int .u64 0, .int .u64 0, .int .i64 0, .string ⟨#[]⟩, .int .u64 0, .bool false] 28) = w5b at *
  have e9 : ((sb.size : Int) == 9) = true := by rw [h9]; rfl
  clear h9 HN HW HR
  have k0 := HR5.out.at_ 0 _ rfl
  have k1 := HR5.out.at_ 1 _ rfl
  have k2 := HR5.out.at_ 2 _ rfl
  have k3 := HR5.out.at_ 3 _ rfl
  have k4 := HR5.out.at_ 4 _ rfl
  have k5 := HR5.out.at_ 5 _ rfl
  have k6 := HR5.out.at_ 6 _ rfl
  have k7 := HR5.out.at_ 7 _ rfl
  have k8 := HR5.out.at_ 8 _ rfl
  have k9 := HR5.out.at_ 9 _ rfl
  have k10 := HR5.out.at_ 10 _ rfl
  have k11 := HR5.out.at_ 11 _ rfl
  have k12 := HR5.out.at_ 12 _ rfl
  have k13 := HR5.out.at_ 13 _ rfl
  have k14 := HR5.out.at_ 14 _ rfl
  clear HR5
  go_wp2_with (first | (go_at_call 38; refine (HS.out _).mono ?_; rintro e w6 ⟨rfl, hb6⟩; replace k0 := (hb6.cell (World.block_lt_of_cell? _ _ k0)).trans k0; replace k1 := (hb6.cell (World.block_lt_of_cell? _ _ k1)).trans k1; replace k2 := (hb6.cell (World.block_lt_of_cell? _ _ k2)).trans k2; replace k3 := (hb6.cell (World.block_lt_of_cell? _ _ k3)).trans k3; replace k4 := (hb6.cell (World.block_lt_of_cell? _ _ k4)).trans k4; replace k5 := (hb6.cell (World.block_lt_of_cell? _ _ k5)).trans k5; replace k6 := (hb6.cell (World.block_lt_of_cell? _ _ k6)).trans k6; replace k7 := (hb6.cell (World.block_lt_of_cell? _ _ k7)).trans k7; replace k8 := (hb6.cell (World.block_lt_of_cell? _ _ k8)).trans k8; replace k9 := (hb6.cell (World.block_lt_of_cell? _ _ k9)).trans k9; replace k10 := (hb6.cell (World.block_lt_of_cell? _ _ k10)).trans k10; replace k11 := (hb6.cell (World.block_lt_of_cell? _ _ k11)).trans k11; replace k12 := (hb6.cell (World.block_lt_of_cell? _ _ k12)).trans k12; replace k13 := (hb6.cell (World.block_lt_of_cell? _ _ k13)).trans k13; replace k14 := (hb6.cell (World.block_lt_of_cell? _ _ k14)).trans k14) | (go_at_call 11; refine (HK.out _).mono ?_; rintro e w7 ⟨rfl, hb7⟩))
  go_ret
  have h6 := HB6.out.trans (hb6.mono HB6.out.size)
  exact ⟨rfl, h6.trans (hb7.mono h6.size)⟩
end Go.Proofs.YtjeepmdklbfgeaaDoor
