/-
  The walks of Sum, of the program and of the document; the chapter's examples.
-/
import Derived.Test.YthcjjogomknddaaDoorFMem
import Derived.Laws.Concat
import Derived.Lib.Strings
namespace Go.Proofs.YthcjjogomknddaaDoor.F.Pure
end Go.Proofs.YthcjjogomknddaaDoor.F.Pure
namespace Go.Proofs.YthcjjogomknddaaDoor.F
open Go.RowKit Go.Proofs.YthcjjogomknddaaDoor.F.Pure

/-- The octets of texts, one behind the other. -/
def flat (xs : List ByteArray) : List UInt8 := xs.flatMap fun s => s.data.toList
theorem flat_take (xs : List ByteArray) (k : Nat) (hk : k < xs.length) : flat (xs.take (k + 1)) = flat (xs.take k) ++ (xs.getD k ByteArray.empty).data.toList := by
  unfold flat
  rw [List.take_succ_eq_append_getElem hk, List.flatMap_append]
  simp [List.getD, hk]
theorem flat_one (s : ByteArray) : flat [s] = s.data.toList := by simp [flat]
set_option maxRecDepth 100000 in
set_option maxHeartbeats 1000000 in
theorem sum_any (A : Option Addr) (c lo hi : Nat) (xs : List ByteArray) (w : World) (hm : xs.length ≤ maxLen) (h : Has w lo hi A xs) (hs : ∀ s ∈ xs, s.size ≤ maxLen) :
    Calls Tryd.prog 51 #[.slice A xs.length c] w fun e w' => e = .returned (.int .u64 ((on first (flat xs)).toNat : Int)) ∧ w = w' := by
  have hm' := hm
  unfold maxLen at hm'
  have HH := Lib.hid h
  have HS := Lib.hid hs
  clear h hs hm
  go_enter Tryd.func51, Tryd.ntmps51
  go_wp2
  go_loop [3, 8] (fun r i => ∃ k : Nat, k ≤ xs.length ∧ i = .int .i64 k ∧ r = .int .u64 ((on first (flat (xs.take k))).toNat : Int)) (fun _ i => xs.length - (intOf i).toNat)
  case atStart => exact ⟨0, Nat.zero_le _, rfl, rfl⟩
  case round =>
    obtain ⟨k, hk, rfl, rfl⟩ := hrel
    by_cases hlt : k < xs.length
    · have HR := Lib.hid (flat_take xs k hlt)
      obtain ⟨ad, rfl, h1, h2, hcell⟩ := HH.out k hlt
      have hsz : (xs.getD k ByteArray.empty).size ≤ maxLen := HS.out _ (by simp [List.getD, hlt])
      have HN : Hid (on first (flat (xs.take (k + 1))) = on (on first (flat (xs.take k))) (xs.getD k ByteArray.empty).data.toList) := Lib.hid (by rw [HR.out, on_append])
      generalize on first (flat (xs.take k)) = r at *
      generalize xs.getD k ByteArray.empty = s at *
      have HC := Lib.hid (fun W => on_any r s W hsz)
      clear hsz
      go_wp2_with fail
      refine (HC.out _).mono ?_
      rintro e w' ⟨rfl, rfl⟩
      go_wp2_with fail
      go_round
      case rel => exact ⟨k + 1, by omega, by go_num, by rw [HN.out]⟩
      case measure => simp [intOf]; omega
    · have hkl : k = xs.length := by omega
      subst hkl
      go_wp2
      go_ret
      exact ⟨rfl, rfl⟩

theorem cat_flat (a b : ByteArray) : (a ++ b).data.toList = a.data.toList ++ b.data.toList := by simp
set_option maxRecDepth 100000 in
set_option maxHeartbeats 1000000 in
theorem rsum_any (A : Option Addr) (c lo hi : Nat) (xs : List ByteArray) (w : World) (hl : xs.length ≤ 8) (h : Has w lo hi A xs) (hs : ∀ s ∈ xs, s.size ≤ 300) :
    Calls Tryd.prog 38 #[.slice A xs.length c] w fun e w' => e = .returned (.int .u64 ((on first (flat xs)).toNat : Int)) ∧ w = w' := by
  have HH := Lib.hid h
  have HS := Lib.hid hs
  clear h hs
  go_enter Tryd.func38, Tryd.ntmps38
  go_wp2
  go_loop [3, 4] (fun r i => ∃ (k : Nat) (t : ByteArray), k ≤ xs.length ∧ i = .int .i64 k ∧ r = .string t ∧ Hid (t.data.toList = flat (xs.take k) ∧ t.size ≤ 300 * k)) (fun _ i => xs.length - (intOf i).toNat)
  case atStart => exact ⟨0, ⟨#[]⟩, Nat.zero_le _, rfl, rfl, Lib.hid ⟨rfl, by decide⟩⟩
  case round =>
    obtain ⟨k, t, hk, rfl, rfl, ht⟩ := hrel
    by_cases hlt : k < xs.length
    · have HR := Lib.hid (flat_take xs k hlt)
      obtain ⟨ad, rfl, h1, h2, hcell⟩ := HH.out k hlt
      have hsz : (xs.getD k ByteArray.empty).size ≤ 300 := HS.out _ (by simp [List.getD, hlt])
      have hts : t.size ≤ 300 * k := ht.out.2
      generalize xs.getD k ByteArray.empty = s at *
      go_wp2_with fail
      go_round
      case rel => exact ⟨k + 1, t ++ s, by omega, by go_num, rfl, Lib.hid ⟨by rw [HR.out, cat_flat, ht.out.1], by simp; omega⟩⟩
      case measure => simp [intOf]; omega
    · have hkl : k = xs.length := by omega
      subst hkl
      have hts : t.size ≤ 300 * xs.length := ht.out.2
      have HC := Lib.hid (fun W => ron_any first t W (by unfold maxLen; omega))
      have HE : Hid (on first t.data.toList = on first (flat xs)) := Lib.hid (by rw [ht.out.1, List.take_length])
      generalize on first t.data.toList = z at *
      go_wp2_with fail
      refine (HC.out _).mono ?_
      rintro e w' ⟨rfl, rfl⟩
      go_wp2_with fail
      go_ret
      exact ⟨ret_b HE.out, rfl⟩

/-! ### slices that are just written down -/
theorem has_one (w : World) (g : Nat) (s : ByteArray) (h : w.cell? ⟨g, 0, none⟩ = some (.string s)) : Has w g (g + 1) (some ⟨g, 0, none⟩) [s] := fun j hj => by
  have hj0 : j = 0 := by simp at hj; omega
  subst hj0
  exact ⟨_, rfl, Nat.le_refl _, Nat.lt_succ_self _, h⟩
theorem sum_one (g : Nat) (s : ByteArray) (w : World) (h : w.cell? ⟨g, 0, none⟩ = some (.string s)) (hs : s.size ≤ maxLen) :
    Calls Tryd.prog 51 #[.slice (some ⟨g, 0, none⟩) 1 1] w fun e w' => e = .returned (.int .u64 ((on first s.data.toList).toNat : Int)) ∧ w = w' := by
  have := sum_any (some ⟨g, 0, none⟩) 1 g (g + 1) [s] w (by unfold maxLen; simp) (has_one w g s h) (by simpa using hs)
  rwa [flat_one] at this
end Go.Proofs.YthcjjogomknddaaDoor.F
