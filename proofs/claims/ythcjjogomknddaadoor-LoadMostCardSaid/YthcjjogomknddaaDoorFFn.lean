/-
  The walks of On and Back, of the program and of the document.
-/
import Derived.Test.YthcjjogomknddaaDoorRows
import Derived.Test.YthcjjogomknddaaDoorFMath
import Derived.WalkKit
import Derived.WalkLawsBesides
import Derived.Lib.Hide
import Derived.Below
namespace Go.Proofs.YthcjjogomknddaaDoor.F.Pure
end Go.Proofs.YthcjjogomknddaaDoor.F.Pure
namespace Go.Proofs.YthcjjogomknddaaDoor.F
open Go.RowKit Go.Proofs.YthcjjogomknddaaDoor.F.Pure

theorem ret_b {a b : BitVec 64} (h : a = b) : Ending.returned (.int .u64 (a.toNat : Int)) = .returned (.int .u64 (b.toNat : Int)) := by rw [h]
theorem take_on (h : BitVec 64) (s : ByteArray) (k : Nat) (hk : k < s.size) : on h (s.data.toList.take (k + 1)) = oct (on h (s.data.toList.take k)) s[k] := by
  rw [List.take_succ_eq_append_getElem (by simpa using hk), on_snoc]; rfl

theorem wrap_oct (r : BitVec 64) (o : UInt8) : IntKind.u64.wrap (bits .xor .u64 (r.toNat : Int) (IntKind.u64.wrap (o.toNat : Int)) * 1099511628211) = ((oct r o).toNat : Int) := by
  have ho := o.toNat_lt
  rw [show IntKind.u64.wrap (o.toNat : Int) = (o.toNat : Int) from IntWalk.u64_in _ ⟨by omega, by omega⟩, xor_octet, IntKind.wrap_u64]
  exact mul_bv _ 1099511628211
set_option maxRecDepth 100000 in
set_option maxHeartbeats 1000000 in
theorem on_any (h : BitVec 64) (s : ByteArray) (w : World) (hs : s.size ≤ maxLen) :
    Calls Tryd.prog 61 #[.int .u64 (h.toNat : Int), .string s] w fun e w' => e = .returned (.int .u64 ((on h s.data.toList).toNat : Int)) ∧ w = w' := by
  unfold maxLen at hs
  go_enter Tryd.func61, Tryd.ntmps61
  go_wp2
  go_loop [0, 8] (fun r i => ∃ k : Nat, k ≤ s.size ∧ i = .int .i64 k ∧ r = .int .u64 ((on h (s.data.toList.take k)).toNat : Int)) (fun _ i => s.size - (intOf i).toNat)
  case atStart => exact ⟨0, Nat.zero_le _, rfl, rfl⟩
  case round =>
    obtain ⟨k, hk, rfl, rfl⟩ := hrel
    by_cases hlt : k < s.size
    · have HR := Lib.hid (take_on h s k hlt)
      generalize on h (s.data.toList.take k) = r at *
      have HX := Lib.hid (wrap_oct r s[k])
      go_wp2
      go_round
      case rel => exact ⟨k + 1, by omega, by go_num, by rw [HR.out, HX.out]⟩
      case measure => simp [intOf]; omega
    · have hkl : k = s.size := by omega
      subst hkl
      go_wp2
      go_ret
      exact ⟨ret_b (by rw [List.take_of_length_le (by simp)]), rfl⟩

theorem times_next (r : BitVec 64) (k : Nat) : IntKind.u64.wrap (((r * BitVec.ofNat 64 (1099511627776 + k)).toNat : Int) + (r.toNat : Int)) = ((r * BitVec.ofNat 64 (1099511627776 + (k + 1))).toNat : Int) := by
  have e : r * BitVec.ofNat 64 (1099511627776 + (k + 1)) = r * BitVec.ofNat 64 (1099511627776 + k) + r := by
    rw [← Nat.add_assoc, BitVec.ofNat_add, BitVec.mul_add, show BitVec.ofNat 64 1 = 1#64 from rfl, BitVec.mul_one]
  rw [e, IntKind.wrap_u64, BitVec.toNat_add]
  omega
theorem times_first (r : BitVec 64) : IntKind.u64.wrap ((r.toNat : Int) * 1099511627776) = ((r * BitVec.ofNat 64 (1099511627776 + 0)).toNat : Int) := by
  rw [IntKind.wrap_u64]
  exact mul_bv _ 1099511627776
theorem times_is (r : BitVec 64) : ∃ P : Nat → BitVec 64, Hid (IntKind.u64.wrap ((r.toNat : Int) * 1099511627776) = ((P 0).toNat : Int)) ∧ Hid (∀ k, IntKind.u64.wrap (((P k).toNat : Int) + (r.toNat : Int)) = ((P (k + 1)).toNat : Int)) ∧ Hid (P 435 = r * 1099511628211#64) :=
  ⟨fun k => r * BitVec.ofNat 64 (1099511627776 + k), Lib.hid (times_first r), Lib.hid (times_next r), Lib.hid (by
    simp only [Nat.reduceAdd])⟩

set_option maxRecDepth 100000 in
set_option maxHeartbeats 1000000 in
theorem times_any (r : BitVec 64) (w : World) :
    Calls Tryd.prog 59 #[.int .u64 (r.toNat : Int)] w fun e w' => e = .returned (.int .u64 ((r * 1099511628211#64).toNat : Int)) ∧ w = w' := by
  obtain ⟨P, HF, HN, HE⟩ := times_is r
  generalize r * 1099511628211#64 = z at *
  obtain ⟨m, hm⟩ : ∃ m : Nat, m = 435 := ⟨_, rfl⟩
  have HM : Hid (m = 435) := Lib.hid hm
  rw [← hm] at HE
  clear hm
  go_enter Tryd.func59, Tryd.ntmps59
  go_wp2
  go_loop [3, 4] (fun n i => ∃ k : Nat, k ≤ m ∧ i = .int .i64 k ∧ n = .int .u64 ((P k).toNat : Int)) (fun _ i => m - (intOf i).toNat)
  case atStart => exact ⟨0, Nat.zero_le _, rfl, by rw [← HF.out]⟩
  case round =>
    obtain ⟨k, hk, rfl, rfl⟩ := hrel
    by_cases hlt : (k : Int) < 435
    · have hkm : k < m := by rw [HM.out]; omega
      have HX := Lib.hid (HN.out k)
      generalize P k = n at *
      go_wp2
      go_round
      case rel => exact ⟨k + 1, by omega, by go_num, by rw [HX.out]⟩
      case measure => simp [intOf]; omega
    · obtain rfl : k = m := by have := HM.out; omega
      generalize P k = n at *
      go_wp2
      go_ret
      exact ⟨ret_b HE.out, rfl⟩

theorem xor_wrap (r : BitVec 64) (o : UInt8) : bits .xor .u64 (r.toNat : Int) (IntKind.u64.wrap (o.toNat : Int)) = ((r ^^^ BitVec.ofNat 64 o.toNat).toNat : Int) := by
  have ho := o.toNat_lt
  rw [show IntKind.u64.wrap (o.toNat : Int) = (o.toNat : Int) from IntWalk.u64_in _ ⟨by omega, by omega⟩, xor_octet]

set_option maxRecDepth 100000 in
set_option maxHeartbeats 1000000 in
theorem ron_any (h : BitVec 64) (s : ByteArray) (w : World) (hs : s.size ≤ maxLen) :
    Calls Tryd.prog 49 #[.int .u64 (h.toNat : Int), .string s] w fun e w' => e = .returned (.int .u64 ((on h s.data.toList).toNat : Int)) ∧ w = w' := by
  unfold maxLen at hs
  go_enter Tryd.func49, Tryd.ntmps49
  go_wp2
  go_loop [0, 5] (fun r i => ∃ k : Nat, k ≤ s.size ∧ i = .int .i64 k ∧ r = .int .u64 ((on h (s.data.toList.take k)).toNat : Int)) (fun _ i => s.size - (intOf i).toNat)
  case atStart => exact ⟨0, Nat.zero_le _, rfl, rfl⟩
  case round =>
    obtain ⟨k, hk, rfl, rfl⟩ := hrel
    by_cases hlt : k < s.size
    · have HR := Lib.hid (take_on h s k hlt)
      generalize on h (s.data.toList.take k) = r at *
      have hx := xor_wrap r s[k]
      have HC := Lib.hid (fun W => times_any (r ^^^ BitVec.ofNat 64 s[k].toNat) W)
      have HO : Hid (oct r s[k] = (r ^^^ BitVec.ofNat 64 s[k].toNat) * 1099511628211#64) := Lib.hid rfl
      generalize oct r s[k] = q at *
      generalize (r ^^^ BitVec.ofNat 64 s[k].toNat) * 1099511628211#64 = q' at *
      generalize r ^^^ BitVec.ofNat 64 s[k].toNat = z at *
      go_wp2_with fail
      refine (HC.out _).mono ?_
      rintro e w' ⟨rfl, rfl⟩
      go_wp2_with fail
      go_round
      case rel => exact ⟨k + 1, by omega, by go_num, by rw [HR.out, HO.out]⟩
      case measure => simp [intOf]; omega
    · have hkl : k = s.size := by omega
      subst hkl
      go_wp2
      go_ret
      exact ⟨ret_b (by rw [List.take_of_length_le (by simp)]), rfl⟩

end Go.Proofs.YthcjjogomknddaaDoor.F
