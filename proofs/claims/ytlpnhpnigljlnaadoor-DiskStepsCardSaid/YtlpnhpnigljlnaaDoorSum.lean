/-
  The walk of Sum, of the program and of the document.
-/
import Derived.Test.YtlpnhpnigljlnaaDoorRows
import Derived.Test.YtlpnhpnigljlnaaDoorCrc
import Derived.WalkKit
import Derived.WalkLawsBesides
import Derived.Lib.Hide
namespace Go.Proofs.YtlpnhpnigljlnaaDoor
open Go.RowKit Go.Proofs.YtlpnhpnigljlnaaDoor.Crc

/-- The sum's table lies where the program lays it. -/
def Tab (w : World) : Prop := ∀ i, i < 16 → w.cell? ⟨0, i, none⟩ = some (.int .u32 (tabl.getD i 0))

theorem Tab.pos {w : World} (h : Tab w) : 0 < w.heap.size := World.block_lt_of_cell? w _ (h 0 (by decide))
theorem Tab.below {w w' : World} {B : Nat} (h : Tab w) (hb : Below B w w') (hB : 0 < B) : Tab w' := fun i hi => (hb.cell (p := ⟨0, i, none⟩) hB).trans (h i hi)
theorem Tab.alloc {w : World} (h : Tab w) (o : Obj) : Tab (w.alloc o) := h.below ((Below.refl w.heap.size w).alloc (Nat.le_refl _) o) h.pos
theorem Tab.drew {w : World} (h : Tab w) : Tab w.drew := h
theorem Tab.on {w w' : World} (h : Tab w) (hb : Below w.heap.size w w') : Tab w' := h.below hb h.pos

theorem ret_u32 {a b : Int} (h : a = b) : Ending.returned (.int .u32 a) = .returned (.int .u32 b) := by rw [h]

set_option maxRecDepth 100000 in
set_option maxHeartbeats 1000000 in
theorem sum_any (s : ByteArray) (w : World) (hs : s.size ≤ maxLen) (ht : Tab w) :
    Calls Tryd.prog 37 #[.string s] w fun e w' => e = .returned (.int .u32 ((crc s.data.toList).toNat : Int)) ∧ w = w' := by
  unfold maxLen at hs
  have HT := Lib.hid ht
  clear ht
  go_enter Tryd.func37, Tryd.ntmps37
  go_wp2
  go_loop [3, 7] (fun r i => ∃ k : Nat, k ≤ s.size ∧ i = .int .i64 k ∧ r = .int .u32 ((reg 0xffffffff#32 (s.data.toList.take k)).toNat : Int)) (fun _ i => s.size - (intOf i).toNat)
  case atStart => exact ⟨0, Nat.zero_le _, rfl, rfl⟩
  case round =>
    obtain ⟨k, hk, rfl, rfl⟩ := hrel
    by_cases hlt : k < s.size
    · have HR := Lib.hid (reg_take 0xffffffff#32 s k hlt)
      generalize reg 0xffffffff#32 (s.data.toList.take k) = r at *
      have hx0 := u32_xor_octet r s[k]
      have H2 := Lib.hid (octet_two r s[k])
      generalize r ^^^ BitVec.ofNat 32 s[k].toNat = q at *
      have hc0 := (HT.out (q.toNat % 16) (Nat.mod_lt _ (by decide))).trans (by rw [tabl_at'])
      have ha0 := u32_and15 q
      have hx1 := u32_step4 q
      generalize hq1 : steps 4 q = q1 at *
      have hc1 := (HT.out (q1.toNat % 16) (Nat.mod_lt _ (by decide))).trans (by rw [tabl_at'])
      have ha1 := u32_and15 q1
      have hx2 := u32_step4 q1
      generalize hq2 : steps 4 q1 = q2 at *
      have HQ1 := Lib.hid hq1
      have HQ2 := Lib.hid hq2
      clear hq1 hq2
      have b0 := q.isLt
      have b1 := q1.isLt
      have b2 := q2.isLt
      go_wp2
      go_round
      case rel => exact ⟨k + 1, by omega, by go_num, by rw [HR.out, H2.out]⟩
      case measure => simp [intOf]; omega
    · have hkl : k = s.size := by omega
      subst hkl
      go_wp2
      go_ret
      exact ⟨ret_u32 (by rw [List.take_of_length_le (by simp)]; exact u32_not _), rfl⟩

set_option maxRecDepth 100000 in
set_option maxHeartbeats 1000000 in
theorem rsum_any (s : ByteArray) (w : World) (hs : s.size ≤ maxLen) :
    Calls Tryd.prog 36 #[.string s] w fun e w' => e = .returned (.int .u32 ((crc s.data.toList).toNat : Int)) ∧ w = w' := by
  unfold maxLen at hs
  go_enter Tryd.func36, Tryd.ntmps36
  go_wp2
  go_loop [3, 4] (fun r i => ∃ k : Nat, k ≤ s.size ∧ i = .int .i64 k ∧ r = .int .u32 ((reg 0xffffffff#32 (s.data.toList.take k)).toNat : Int)) (fun _ i => s.size - (intOf i).toNat)
  case atStart => exact ⟨0, Nat.zero_le _, rfl, rfl⟩
  case round =>
    obtain ⟨k, hk, rfl, rfl⟩ := hrel
    by_cases hlt : k < s.size
    · have HR := Lib.hid (reg_take 0xffffffff#32 s k hlt)
      generalize reg 0xffffffff#32 (s.data.toList.take k) = r at *
      have hx0 := u32_xor_octet r s[k]
      have H2 : Hid (octet r s[k] = steps 8 (r ^^^ BitVec.ofNat 32 s[k].toNat)) := Lib.hid rfl
      generalize r ^^^ BitVec.ofNat 32 s[k].toNat = q at *
      go_wp2
      go_loop [3, 5] (fun r j => ∃ n : Nat, n ≤ 8 ∧ j = .int .i64 n ∧ r = .int .u32 ((steps n q).toNat : Int)) (fun _ j => 8 - (intOf j).toNat)
      case atStart => exact ⟨0, by omega, rfl, rfl⟩
      case round =>
        obtain ⟨n, hn, rfl, rfl⟩ := hrel
        by_cases h8 : n < 8
        · have HS := Lib.hid (steps_snoc n q)
          generalize steps n q = c at *
          have b0 := c.isLt
          rcases Nat.mod_two_eq_zero_or_one c.toNat with h | h
          · have hx := Lib.hid (step_half c h)
            have hm : (((c.toNat : Int) % 2) == 1) = false := by rw [beq_eq_false_iff_ne]; omega
            clear h
            go_wp2
            go_round
            case rel => exact ⟨n + 1, by omega, by go_num, by rw [HS.out, ← hx.out]⟩
            case measure => simp [intOf]; omega
          · have hx := Lib.hid (step_odd c h)
            have hm : (((c.toNat : Int) % 2) == 1) = true := by rw [beq_iff_eq]; omega
            clear h
            go_wp2
            go_round
            case rel => exact ⟨n + 1, by omega, by go_num, by rw [HS.out, ← hx.out]⟩
            case measure => simp [intOf]; omega
        · obtain rfl : n = 8 := by omega
          go_wp2
          go_round
          case rel => exact ⟨k + 1, by omega, by go_num, by rw [HR.out, H2.out]⟩
          case measure => simp [intOf]; omega
    · have hkl : k = s.size := by omega
      subst hkl
      have HN := Lib.hid (not_nat (reg 0xffffffff#32 s.data.toList))
      rw [List.take_of_length_le (by simp)]
      have b0 := (reg 0xffffffff#32 s.data.toList).isLt
      go_wp2
      go_ret
      exact ⟨ret_u32 HN.out, rfl⟩
end Go.Proofs.YtlpnhpnigljlnaaDoor
