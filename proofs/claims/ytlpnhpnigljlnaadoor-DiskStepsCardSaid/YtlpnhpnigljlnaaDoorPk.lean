/-
  The walks of Parse, of the program and of the document.
-/
import Derived.Test.YtlpnhpnigljlnaaDoorLy
import Derived.Test.YtlpnhpnigljlnaaDoorRtake
namespace Go.Proofs.YtlpnhpnigljlnaaDoor
open Go.RowKit Go.Proofs.YtlpnhpnigljlnaaDoor.Pure Go.Proofs.YtlpnhpnigljlnaaDoor.Crc

open Classical in
/-- Why a text isn't opened. -/
noncomputable def opnK (t : ByteArray) : Nat := if t.size < 4 then 3 else if 4100 < t.size then 4 else if Opens t then 0 else 10
/-- What it is, opened. -/
noncomputable def opnX (t : ByteArray) : ByteArray := if opnK t = 0 then opnB t else ⟨#[]⟩
theorem opn_bad {t : ByteArray} (h : ¬ opnK t = 0) : parE t = opnK t ∧ parC t = none := by
  have hn : parC t = none := by
    cases hp : parC t with
    | none => rfl
    | some s =>
      obtain ⟨h1, h2, h3⟩ := par_size hp
      exact absurd (by unfold opnK; rw [if_neg (by omega), if_neg (by omega), if_pos h3]) h
  refine ⟨?_, hn⟩
  unfold opnK at h ⊢
  unfold parE
  split
  · rfl
  · split
    · rfl
    · split
      · rename_i h1 h2 h3
        rw [if_neg h1, if_neg h2, if_pos h3] at h
        exact absurd rfl h
      · rfl
theorem opn_ok {t : ByteArray} (h : opnK t = 0) : opnX t = opnB t ∧ (opnB t).size ≤ 4096 ∧ (parC t = none → parE t = 2) := by
  have h2 := h
  unfold opnK at h
  split at h
  · cases h
  split at h
  · cases h
  split at h
  · refine ⟨by unfold opnX; rw [if_pos h2], ?_, fun hn => ?_⟩
    · unfold opnB
      rw [ByteArray.size_extract]
      omega
    · rename_i h3 h4 h5
      unfold parE
      rw [if_neg h3, if_neg h4, if_pos h5, hn]
      rfl
  · cases h
theorem open_any (t : ByteArray) (W : World) (hs : t.size ≤ 140737488351232) (ht : Tab W) : Calls Tryd.prog 22 #[.string t] W fun e w' => e = .returned (.tuple #[.string (opnX t), .int .i64 (opnK t : Nat)]) ∧ Below W.heap.size W w' := by
  unfold opnX
  rcases Nat.lt_or_ge t.size 4 with h | h
  · have e : opnK t = 3 := by unfold opnK; rw [if_pos h]
    rw [e, if_neg (by decide)]
    refine (open_short t W h).mono ?_
    rintro e w' ⟨rfl, rfl⟩
    exact ⟨rfl, Below.refl _ _⟩
  rcases Nat.lt_or_ge 4100 t.size with h1 | h1
  · have e : opnK t = 4 := by unfold opnK; rw [if_neg (by omega), if_pos h1]
    rw [e, if_neg (by decide)]
    refine (open_large t W hs h1).mono ?_
    rintro e w' ⟨rfl, rfl⟩
    exact ⟨rfl, Below.refl _ _⟩
  by_cases ho : Opens t
  · have e : opnK t = 0 := by unfold opnK; rw [if_neg (by omega), if_neg (by omega), if_pos ho]
    rw [e, if_pos rfl]
    exact open_yes t W h h1 ht ho
  · have e : opnK t = 10 := by unfold opnK; rw [if_neg (by omega), if_neg (by omega), if_neg ho]
    rw [e, if_neg (by decide)]
    exact open_no t W h h1 ht ho
theorem ropen_any (t : ByteArray) (W : World) (hs : t.size ≤ 140737488351232) : Calls Tryd.prog 24 #[.string t] W fun e w' => e = .returned (.tuple #[.string (opnX t), .int .i64 (opnK t : Nat)]) ∧ Below W.heap.size W w' := by
  unfold opnX
  rcases Nat.lt_or_ge t.size 4 with h | h
  · have e : opnK t = 3 := by unfold opnK; rw [if_pos h]
    rw [e, if_neg (by decide)]
    refine (ropen_short t W h).mono ?_
    rintro e w' ⟨rfl, rfl⟩
    exact ⟨rfl, Below.refl _ _⟩
  rcases Nat.lt_or_ge 4100 t.size with h1 | h1
  · have e : opnK t = 4 := by unfold opnK; rw [if_neg (by omega), if_pos h1]
    rw [e, if_neg (by decide)]
    refine (ropen_large t W hs h1).mono ?_
    rintro e w' ⟨rfl, rfl⟩
    exact ⟨rfl, Below.refl _ _⟩
  by_cases ho : Opens t
  · have e : opnK t = 0 := by unfold opnK; rw [if_neg (by omega), if_neg (by omega), if_pos ho]
    rw [e, if_pos rfl]
    exact ropen_yes t W h h1 ho
  · have e : opnK t = 10 := by unfold opnK; rw [if_neg (by omega), if_neg (by omega), if_neg ho]
    rw [e, if_neg (by decide)]
    exact ropen_no t W h h1 ho
/-! ### six numbers in a block -/
def NuA (w : World) (g : Nat) (l : List Nat) : Prop := (∀ j, j < 6 → w.cell? ⟨g, j, none⟩ = some (.int .u64 (l.getD j 0 : Nat))) ∧ ∀ o : Nat, w.frozen? ⟨g, o, none⟩ = false
/-- A block of what is saved that may be written. -/
def SvW (w : World) (g : Nat) (s : Sv) : Prop := SvA w g s ∧ ∀ o : Nat, w.frozen? ⟨g, o, none⟩ = false
section
variable {w w' : World} {g : Nat} {l : List Nat} {s : Sv}
theorem NuA.lt (h : NuA w g l) : g < w.heap.size := World.block_lt_of_cell? w _ (h.1 0 (by decide))
theorem NuA.on (h : NuA w g l) (hb : Below w.heap.size w w') : NuA w' g l := ⟨fun j hj => (hb.cell (p := ⟨g, j, none⟩) h.lt).trans (h.1 j hj), fun o => (World.frozen?_of_block (a := ⟨g, o, none⟩) (hb.block g h.lt)).trans (h.2 o)⟩
theorem NuA.new (w : World) (t : TypeId) : NuA (w.alloc (.cells #[.int .u64 0, .int .u64 0, .int .u64 0, .int .u64 0, .int .u64 0, .int .u64 0] t)) w.heap.size [] := ⟨fun j hj => by
  match j, hj with
  | 0, _ => go_simp
  | 1, _ => go_simp
  | 2, _ => go_simp
  | 3, _ => go_simp
  | 4, _ => go_simp
  | 5, _ => go_simp, fun o => World.frozen?_alloc_new w _ _ o⟩
theorem NuA.put (h : NuA w g l) (m : Nat) (_ : l.length < 6) : NuA (w.setCell ⟨g, l.length, none⟩ (.int .u64 (m : Nat))) g (l ++ [m]) := by
  refine ⟨fun j hj => ?_, fun o => ?_⟩
  · by_cases e : j = l.length
    · subst e
      have : (l ++ [m]).getD l.length 0 = m := by simp [List.getD]
      rw [this]
      have h1 := h.1 l.length hj
      go_simp
    · have : (l ++ [m]).getD j 0 = l.getD j 0 := by
        rcases Nat.lt_or_ge j l.length with hlt | hge
        · simp [List.getD, List.getElem?_append_left hlt]
        · simp [List.getD, List.getElem?_append_right hge, List.getElem?_eq_none hge]
          rw [List.getElem?_eq_none (by simp; omega)]
          rfl
      rw [this, World.cell?_setCell_other _ _ _ _ (fun e2 => e (by have := congrArg Addr.off e2; simpa using this.symm))]
      exact h.1 j hj
  · have := h.2 o
    go_simp
theorem SvW.lt (h : SvW w g s) : g < w.heap.size := h.1.lt
theorem SvW.on (h : SvW w g s) (hb : Below w.heap.size w w') : SvW w' g s := ⟨h.1.on hb, fun o => (World.frozen?_of_block (a := ⟨g, o, none⟩) (hb.block g h.lt)).trans (h.2 o)⟩
theorem SvW.new (w : World) (s : Sv) (t : TypeId) : SvW (w.alloc (.cells #[.int .u64 s.q, .int .u64 s.b, .int .u64 s.i, .int .u64 s.e, .int .i64 s.u] t)) w.heap.size s := ⟨SvA.new w s t, fun o => World.frozen?_alloc_new w _ _ o⟩
theorem SvW.apart {p : Addr} (h : SvW w g s) (hp : p.block ≠ g) (v : Value) : SvW (w.setCell p v) g s := by
  obtain ⟨⟨h0, h1, h2, h3, h4⟩, hf⟩ := h
  have n : ∀ o, ¬ p = (⟨g, o, none⟩ : Addr) := fun o e => hp (by rw [e])
  refine ⟨⟨?_, ?_, ?_, ?_, ?_⟩, fun o => ?_⟩
  · rw [World.cell?_setCell_other _ _ _ _ (n _)]; exact h0
  · rw [World.cell?_setCell_other _ _ _ _ (n _)]; exact h1
  · rw [World.cell?_setCell_other _ _ _ _ (n _)]; exact h2
  · rw [World.cell?_setCell_other _ _ _ _ (n _)]; exact h3
  · rw [World.cell?_setCell_other _ _ _ _ (n _)]; exact h4
  · rw [World.frozen?_of_block (a := ⟨g, o, none⟩) (Below.heap_setCell w p v g (Ne.symm hp))]
    exact hf o
end
theorem Pure.Got.g5 {x : List UInt8} {l : List Nat} {p : Nat} (h : Got x l p) (hl : l.length = 6) : l.getD 5 0 < 2 ^ 64 := by
  have h5 : 5 < l.length := by rw [hl]; decide
  have e : l.getD 5 0 = l[5] := by simp [List.getD, h5]
  rw [e]
  exact h.lt _ (List.getElem_mem _)
/-- A number too great for a node's is none behind the casts. -/
theorem far_wrap {n : Nat} (h : 64 < n) (h2 : n < 2 ^ 64) : ∃ v : Int, IntKind.i64.wrap (IntKind.i64.wrap (n : Int) - 1) = v ∧ (decide (-1 ≤ v) && decide (v ≤ 63)) = false := by
  refine ⟨_, rfl, ?_⟩
  have hw : ∀ x : Int, IntKind.i64.wrap x = (x + 9223372036854775808) % 18446744073709551616 - 9223372036854775808 := fun x => by
    have e : (2 : Int) ^ (64 - 1) = 9223372036854775808 := by decide
    have e2 : (2 : Int) ^ 64 = 18446744073709551616 := by decide
    simp only [IntKind.wrap, IntKind.signed, IntKind.bits, Bool.true_and, decide_eq_true_eq, ge_iff_le]
    rw [e, e2]
    split <;> omega
  rw [hw, hw]
  rw [Bool.and_eq_false_iff, decide_eq_false_iff_not, decide_eq_false_iff_not]
  omega
end Go.Proofs.YtlpnhpnigljlnaaDoor
