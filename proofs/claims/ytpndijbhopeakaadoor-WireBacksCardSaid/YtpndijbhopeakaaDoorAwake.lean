/-
  The walks of what the laws share: the chapter's examples, and how each law's statement is reached from its walk.
-/
import Derived.Test.YtpndijbhopeakaaDoorSum
import Derived.Test.YtpndijbhopeakaaDoorNum
import Derived.Test.YtpndijbhopeakaaDoorTake
namespace Go.Proofs.YtpndijbhopeakaaDoor
open Go.RowKit Go.Proofs.YtpndijbhopeakaaDoor.Pure Go.Proofs.YtpndijbhopeakaaDoor.Crc

theorem crc_nine : crc [49, 50, 51, 52, 53, 54, 55, 56, 57] = 0xcbf43926#32 := by decide +kernel

set_option maxRecDepth 100000 in
set_option maxHeartbeats 1000000 in
theorem awake_any (w : World) (ht : Tab w) : Calls Tryd.prog 15 #[] w fun e w' => e = .returned (.bool true) ∧ Below w.heap.size w w' := by
  have HA : Hid (∀ W : World, Calls Tryd.prog 11 #[.string ⟨#[128, 0]⟩, .int .i64 0] W fun e w' => e = .returned (.tuple #[.int .u64 0, .int .i64 0, .int .i64 2]) ∧ W = w') := fun W => by
    have h := take_in ⟨#[128, 0]⟩ 0 W (by decide) (by decide)
    have e : takeL ((⟨#[128, 0]⟩ : ByteArray).data.toList.drop 0) 0 0 = (0, 0, 2) := by decide
    rw [e] at h
    exact h
  have HB : Hid (∀ (W : World) (g : Nat), g < W.heap.size → W.cell? ⟨g, 0, none⟩ = some (.int .u64 300) → Calls Tryd.prog 13 #[.slice (some ⟨g, 0, none⟩) 1 1] W fun e w' => e = .returned (.string ⟨#[172, 2]⟩) ∧ Below W.heap.size W w') := fun W g hg hc => by
    have h := num_one 300 g W (by decide) hg hc
    have e : num 300 = [172, 2] := by decide
    rw [e] at h
    exact h
  have HC : Hid (∀ W : World, Tab W → Calls Tryd.prog 23 #[.string ⟨#[49, 50, 51, 52, 53, 54, 55, 56, 57]⟩] W fun e w' => e = .returned (.int .u32 3421780262) ∧ W = w') := fun W hW => by
    have h := sum_any ⟨#[49, 50, 51, 52, 53, 54, 55, 56, 57]⟩ W (by decide) hW
    have e : crc ((⟨#[49, 50, 51, 52, 53, 54, 55, 56, 57]⟩ : ByteArray).data.toList) = 0xcbf43926#32 := crc_nine
    rw [e] at h
    exact h
  have HT := Lib.hid ht
  clear ht
  go_enter Tryd.func15, Tryd.ntmps15
  go_wp2_with fail
  refine (HA.out _).mono ?_
  rintro e w' ⟨rfl, rfl⟩
  go_wp2_with fail
  refine (HB.out _ _ (by simp) (by go_simp)).mono ?_
  rintro e w' ⟨rfl, hb⟩
  go_wp2_with fail
  refine (HC.out _ ((HT.out.alloc _).on hb)).mono ?_
  rintro e w' ⟨rfl, rfl⟩
  go_wp2
  go_ret
  exact ⟨rfl, ((Below.refl _ _).alloc (Nat.le_refl _) _).trans (hb.mono (by simp))⟩
end Go.Proofs.YtpndijbhopeakaaDoor
