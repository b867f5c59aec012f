/-
  The walk of the document's Turn: octets with a bit turned.
-/
import Derived.Test.YtlpnhpnigljlnaaDoorRows
import Derived.WalkKit
import Derived.WalkLawsBesides
import Derived.Lib.Hide
import Derived.Laws.IdiomStrings
import Derived.RegionTactic
namespace Go.Proofs.YtlpnhpnigljlnaaDoor
open Go.RowKit

/-- Octets with a bit turned. -/
def turnL (l : List UInt8) (b : Nat) : List UInt8 := l.set (b / 8) (l.getD (b / 8) 0 ^^^ UInt8.ofNat (2 ^ (b % 8)))

theorem turn_len (l : List UInt8) (b : Nat) : (turnL l b).length = l.length := by simp [turnL]
theorem octet_turn (o : UInt8) (k : Nat) (h : k < 8) : bits .xor .u8 (o.toNat : Int) (2 ^ k % 256) = ((o ^^^ UInt8.ofNat (2 ^ k)).toNat : Int) := by
  have ho := o.toNat_lt
  have hk : (2 : Nat) ^ k < 256 := Nat.lt_of_lt_of_le (Nat.pow_lt_pow_right (by decide) h) (by decide)
  have e : ((2 : Int) ^ k % 256) = ((2 ^ k : Nat) : Int) := by
    have h2 : ((2 ^ k : Nat) : Int) % 256 = ((2 ^ k % 256 : Nat) : Int) := by simp
    rw [Nat.mod_eq_of_lt hk] at h2
    rw [← h2]; simp
  rw [e, u8_xor_nat _ _ (by omega) hk, UInt8.toNat_xor, UInt8.toNat_ofNat', Nat.mod_eq_of_lt (b := 2 ^ 8) (by omega)]
theorem turn_at (s : ByteArray) (b j : Nat) (h : j < s.size) (h' : j < (turnL s.data.toList b).length) : (turnL s.data.toList b)[j] = if j = b / 8 then s[j] ^^^ UInt8.ofNat (2 ^ (b % 8)) else s[j] := by
  simp only [turnL, List.getElem_set]
  split
  · rename_i e
    have hl : b / 8 < s.data.toList.length := by rw [e]; simpa using h
    rw [if_pos e.symm, List.getD_eq_getElem?_getD, List.getElem?_eq_getElem hl]
    subst e
    rfl
  · rename_i e
    rw [if_neg (fun h => e h.symm)]
    rfl
theorem turn_text {P : Program} (W1 : World) (g b cap : Nat) (s : ByteArray) (hlt : b / 8 < s.size) (hc : ∀ j (h : j < s.size), W1.cell? ⟨g, j, none⟩ = some (.int .u8 (s[j].toNat : Int)))
    (hcell : W1.cell? ⟨g, b / 8, none⟩ = some (.int .u8 (s[b / 8].toNat : Int))) (src dst : TypeId) (hs : P.underlying src = some (.slice 5)) (he : P.underlying 5 = some (.int .u8)) (hd : P.underlying dst = some .string) :
    (convert src dst (.slice (some ⟨g, 0, none⟩) s.size cap)).run P (W1.setCell ⟨g, b / 8, none⟩ (.int .u8 (bits .xor .u8 (s[b / 8].toNat : Int) (2 ^ (b % 8) % 256)))).drew.drew =
      .ok (.string ⟨(turnL s.data.toList b).toArray⟩) (W1.setCell ⟨g, b / 8, none⟩ (.int .u8 (bits .xor .u8 (s[b / 8].toNat : Int) (2 ^ (b % 8) % 256)))).drew.drew := by
  have hl : (turnL s.data.toList b).length = s.size := by rw [turn_len]; simp
  have h := run_convert_bytes_back (P := P) (W1.setCell ⟨g, b / 8, none⟩ (.int .u8 (bits .xor .u8 (s[b / 8].toNat : Int) (2 ^ (b % 8) % 256)))).drew.drew src dst 5 ⟨g, 0, none⟩ cap (turnL s.data.toList b) hs he hd fun j hj => by
    have hj' : j < s.size := by rw [← hl]; exact hj
    rw [Addr.add_lit, Nat.zero_add]
    show (W1.setCell _ _).cell? _ = _
    by_cases e : j = b / 8
    · subst e
      rw [World.cell?_setCell_same _ _ _ hcell, octet_turn _ _ (Nat.mod_lt _ (by decide))]
      rw [turn_at s b (b / 8) hj' hj, if_pos rfl]
    · rw [World.cell?_setCell_other _ _ _ _ (by intro h; cases h; exact e rfl), hc j hj', turn_at s b j hj' hj, if_neg e]
  rw [hl] at h
  exact h

set_option maxRecDepth 100000 in
set_option maxHeartbeats 1000000 in
theorem turn_not (s : ByteArray) (b : Nat) (w : World) (hs : s.size ≤ 140737488351232) (hb : 8 * s.size ≤ b) :
    Calls Tryd.prog 21 #[.string s, .int .i64 b] w fun e w' => e = .returned (.string s) ∧ w = w' := by
  go_enter Tryd.func21, Tryd.ntmps21
  go_wp2
  go_ret
  exact ⟨rfl, rfl⟩

set_option maxRecDepth 100000 in
set_option maxHeartbeats 1000000 in
theorem turn_in (s : ByteArray) (b : Nat) (w : World) (hs : s.size ≤ 140737488351232) (hb : b < 8 * s.size) :
    Calls Tryd.prog 21 #[.string s, .int .i64 b] w fun e w' => e = .returned (.string ⟨(turnL s.data.toList b).toArray⟩) ∧ Below w.heap.size w w' := by
  have hconv := run_bytes_of_string (P := Tryd.prog) w 9 49 5 s Tryd.underlying9 Tryd.underlying49 Tryd.underlying5
  go_enter Tryd.func21, Tryd.ntmps21
  go_wp2
  clear hconv
  have hcap := grownCap_ge w s.size 0 5
  generalize grownCap w s.size 0 5 = cap at *
  have hrow : (bytesRow s cap).size = cap := by simp [bytesRow]; omega
  have hlt : b / 8 < s.size := by omega
  have hcell : (w.alloc (Obj.cells (bytesRow s cap) 5 ((bytesRow s cap).size, (bytesRow s cap).size + 1))).cell? ⟨w.heap.size, b / 8, none⟩ = some (.int .u8 (s[b / 8].toNat : Int)) := by
    rw [World.cell?_alloc_mark]; exact bytesRow_at s cap (b / 8) hlt
  have hfree : (w.alloc (Obj.cells (bytesRow s cap) 5 ((bytesRow s cap).size, (bytesRow s cap).size + 1))).frozen? ⟨w.heap.size, b / 8, none⟩ = false := by
    rw [World.frozen?_alloc_mark, hrow]; simp; omega
  have hbel : Below w.heap.size w (w.alloc (Obj.cells (bytesRow s cap) 5 ((bytesRow s cap).size, (bytesRow s cap).size + 1))) := (Below.refl _ _).alloc (Nat.le_refl _) _
  have hcells : ∀ j (h : j < s.size), (w.alloc (Obj.cells (bytesRow s cap) 5 ((bytesRow s cap).size, (bytesRow s cap).size + 1))).cell? ⟨w.heap.size, j, none⟩ = some (.int .u8 (s[j].toNat : Int)) := fun j h => by
    rw [World.cell?_alloc_mark]; exact bytesRow_at s cap j h
  generalize w.alloc (Obj.cells (bytesRow s cap) 5 ((bytesRow s cap).size, (bytesRow s cap).size + 1)) = W1 at *
  generalize hg : w.heap.size = g at *
  have HG := Lib.hid hg
  clear hg
  have HB := Lib.hid hbel
  have HS := Lib.hid hcells
  have hdiv : IntKind.i64.wrap ((b : Int).tdiv 8) = ((b / 8 : Nat) : Int) := by rw [IntWalk.i64_quo _ _ ⟨by omega, by omega, by omega⟩]; omega
  have hmod : (b : Int).tmod 8 = ((b % 8 : Nat) : Int) := by rw [IntWalk.rem_in _ _ (by omega)]; omega
  have hm8 : b % 8 < 8 := Nat.mod_lt _ (by decide)
  clear hrow hbel hcells
  go_region
  have hcv := turn_text (P := Tryd.prog) W1 g b cap s hlt HS.out hcell 49 9 Tryd.underlying49 Tryd.underlying5 Tryd.underlying9
  go_wp2
  go_ret
  exact ⟨rfl, by rw [HG.out]; exact ((HB.out.setCell (p := ⟨g, b / 8, none⟩) (Nat.le_refl g) _).drew).drew⟩
end Go.Proofs.YtlpnhpnigljlnaaDoor
