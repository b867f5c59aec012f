/-
  The walks of Draw and Below, of the document and of the program.
-/
import Derived.Test.YtphcmjhphoacgaaCheck
import Derived.Deep.RegionHeld3
import Derived.BigQuiet
import Derived.Deep.QuietTactic
import Derived.BigRegion
import Derived.RegionTactic
namespace Go.Proofs.Ytphcmjhphoacgaa
open Go.RowKit Go.Proofs.Ytphcmjhphoacgaa.Pure

theorem octet_at (s : ByteArray) (a : Nat) (h : a < s.size) : s.data.toList.getD a 0 = s[a] := by
  have h' : a < s.data.size := h
  have e : s.data[a]? = some s[a] := Array.getElem?_eq_getElem h'
  simp [List.getD, e]

theorem rem_of (o m : Nat) (ho : o < 256) : (wrap64 (o : Int)).tmod (m : Int) = ((o % m : Nat) : Int) := by
  have e : wrap64 (o : Int) = (o : Int) := by simp only [wrap64]; omega
  rw [e, Int.ofNat_tmod]
theorem ret_drawn {s : ByteArray} {a b c d : Int} (h : a = b) (h' : c = d) : Ending.returned (.tuple #[.int .i64 a, .agg #[.string s, .int .i64 c]]) = .returned (.tuple #[.int .i64 b, .agg #[.string s, .int .i64 d]]) := by rw [h, h']

set_option maxRecDepth 100000 in
set_option maxHeartbeats 400000 in
theorem rdraw_any (s : ByteArray) (a m : Nat) (w : World) (hs : s.size ≤ 1000) (ha : a ≤ s.size) (h1 : 1 ≤ m) (hm : m ≤ 256) :
    Calls Try.prog 34 #[.agg #[.string s, .int .i64 a], .int .i64 m] w fun e w' =>
      e = .returned (.tuple #[.int .i64 (drawn s.data.toList a m : Nat), .agg #[.string s, .int .i64 (next s.data.toList a : Nat)]]) ∧ Below w.heap.size w w' := by
  have hl : s.data.toList.length = s.size := by simp
  by_cases h : a < s.size
  · have hd : Hid (drawn s.data.toList a m = s[a].toNat % m) := Lib.hid (by unfold drawn; rw [octet_at s a h])
    have hn : Hid (next s.data.toList a = a + 1) := Lib.hid (by unfold next; rw [if_pos (by omega)])
    clear hl
    go_enter Try.func34, Try.ntmps34
    go_wp2
    go_region
    go_wp2
    exact bodyPost_ret (v := .tuple #[.int .i64 ((wrap64 (s[a].toNat : Int)).tmod m), .agg #[.string s, .int .i64 ((a : Int) + 1)]]) (by simp [results, Try.results34, go_sem]) rfl
      ⟨ret_drawn (by rw [hd.out]; exact rem_of _ _ s[a].toNat_lt) (by rw [hn.out]; simp), (((Below.refl _ _).alloc (Nat.le_refl _) _).alloc (by simp) _).drew⟩
  · have hae : a = s.size := by omega
    have hd : Hid (drawn s.data.toList s.size m = 0) := Lib.hid (drawn_end _ _ _ (by omega))
    have hn : Hid (next s.data.toList s.size = s.size) := Lib.hid (by unfold next; rw [if_neg (by omega)])
    clear hl
    subst hae
    go_enter Try.func34, Try.ntmps34
    go_wp2
    go_region
    go_wp2
    exact bodyPost_ret (v := .tuple #[.int .i64 0, .agg #[.string s, .int .i64 (s.size : Int)]]) (by simp [results, Try.results34, go_sem]) rfl
      ⟨ret_drawn (by rw [hd.out]; rfl) (by rw [hn.out]), (((Below.refl _ _).alloc (Nat.le_refl _) _).alloc (by simp) _).drew⟩
end Go.Proofs.Ytphcmjhphoacgaa
