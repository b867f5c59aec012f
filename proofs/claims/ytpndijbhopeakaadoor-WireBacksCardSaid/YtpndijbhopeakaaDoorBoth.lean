/-
  Where the program and the document answer the same: taken numbers, taken texts, opened octets, in whatever world.
-/
import Derived.Test.YtpndijbhopeakaaDoorSeal
import Derived.Test.YtpndijbhopeakaaDoorAwake
namespace Go.Proofs.YtpndijbhopeakaaDoor
open Go.RowKit Go.Proofs.YtpndijbhopeakaaDoor.Pure Go.Proofs.YtpndijbhopeakaaDoor.Crc

/-- Octets, cut at 400. -/
def fewB (s : ByteArray) : ByteArray := if 400 < s.size then s.extract 0 400 else s
theorem few_size (s : ByteArray) : (fewB s).size ≤ 400 := by
  unfold fewB
  split
  · simp; omega
  · omega
theorem few_is (s : ByteArray) (w : World) (hs : s.size ≤ maxLen) : Calls Tryd.prog 10 #[.string s] w fun e w' => e = .returned (.string (fewB s)) ∧ w = w' := few_any s w hs

theorem Nums64.on {w w' : World} {A : Option Addr} {zs : List Nat} (h : Nums64 w A zs) (hb : Below w.heap.size w w') : Nums64 w' A zs := fun j hj => by
  obtain ⟨ad, rfl, h1, h2⟩ := h j hj
  exact ⟨ad, rfl, Nat.lt_of_lt_of_le h1 hb.size, (hb.cell (p := ad.add j) (by rw [block_of_add]; exact h1)).trans h2⟩

theorem take_both (s : ByteArray) (a : Int) (hs : s.size ≤ 400) : ∃ n p k : Nat,
    (∀ W, Calls Tryd.prog 11 #[.string s, .int .i64 a] W fun e w' => e = .returned (.tuple #[.int .u64 n, .int .i64 p, .int .i64 k]) ∧ W = w') ∧
    (∀ W, Calls Tryd.prog 12 #[.string s, .int .i64 a] W fun e w' => e = .returned (.tuple #[.int .u64 n, .int .i64 p, .int .i64 k]) ∧ W = w') := by
  by_cases h : 0 ≤ a ∧ a ≤ s.size
  · obtain ⟨a, rfl⟩ := Int.eq_ofNat_of_zero_le h.1
    exact ⟨_, _, _, fun W => take_in s a W (by unfold maxLen; omega) (by omega), fun W => rtake_in s a W (by omega) (by omega)⟩
  · exact ⟨0, 0, 1, fun W => take_not s a W (by unfold maxLen; omega) (by omega), fun W => rtake_not s a W (by omega) (by omega)⟩

theorem taketext_both (s : ByteArray) (a : Int) (hs : s.size ≤ 400) : ∃ (t : ByteArray) (p k : Nat),
    (∀ W, Calls Tryd.prog 18 #[.string s, .int .i64 a] W fun e w' => e = .returned (.tuple #[.string t, .int .i64 p, .int .i64 k]) ∧ W = w') ∧
    (∀ W, Calls Tryd.prog 19 #[.string s, .int .i64 a] W fun e w' => e = .returned (.tuple #[.string t, .int .i64 p, .int .i64 k]) ∧ W = w') := by
  by_cases h : 0 ≤ a ∧ a ≤ s.size
  · obtain ⟨a, rfl⟩ := Int.eq_ofNat_of_zero_le h.1
    exact ⟨_, _, _, fun W => taketext_in s a W (by omega) (by omega), fun W => rtaketext_in s a W (by omega) (by omega)⟩
  · exact ⟨⟨#[]⟩, 0, 1, fun W => taketext_not s a W (by omega) (by omega), fun W => rtaketext_not s a W (by omega) (by omega)⟩

theorem open_both (s : ByteArray) (hs : s.size ≤ 5000) : ∃ (t : ByteArray) (k : Nat),
    (∀ W, Tab W → Calls Tryd.prog 21 #[.string s] W fun e w' => e = .returned (.tuple #[.string t, .int .i64 k]) ∧ Below W.heap.size W w') ∧
    (∀ W, Calls Tryd.prog 22 #[.string s] W fun e w' => e = .returned (.tuple #[.string t, .int .i64 k]) ∧ Below W.heap.size W w') := by
  have still : ∀ {W w' : World} {e : Ending} {v : Value}, e = .returned v ∧ W = w' → e = .returned v ∧ Below W.heap.size W w' := by
    rintro W w' e v ⟨h, rfl⟩; exact ⟨h, Below.refl _ _⟩
  rcases Nat.lt_or_ge s.size 4 with h4 | h4
  · exact ⟨⟨#[]⟩, 3, fun W _ => (open_short s W h4).mono fun _ _ => still, fun W => (ropen_short s W h4).mono fun _ _ => still⟩
  · rcases Nat.lt_or_ge 4100 s.size with hl | hl
    · exact ⟨⟨#[]⟩, 4, fun W _ => (open_large s W (by omega) hl).mono fun _ _ => still, fun W => (ropen_large s W (by omega) hl).mono fun _ _ => still⟩
    · by_cases ho : Opens s
      · exact ⟨_, 0, fun W hW => open_yes s W h4 hl hW ho, fun W => ropen_yes s W h4 hl ho⟩
      · exact ⟨_, 10, fun W hW => open_no s W h4 hl hW ho, fun W => ropen_no s W h4 hl ho⟩
end Go.Proofs.YtpndijbhopeakaaDoor
