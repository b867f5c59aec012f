/-
  The walk of dice at work: one draw.
-/
import Derived.Test.YtphcmjhphoacgaaDraw
import Derived.OwnWalk
namespace Go.Proofs.Ytphcmjhphoacgaa
open Go.RowKit Go.Proofs.Ytphcmjhphoacgaa.Pure

/-- Dice at work in block g. -/
def Roll (w : World) (g : Nat) (s : ByteArray) (a : Nat) : Prop := w.cell? ⟨g, 0, none⟩ = some (.string s) ∧ w.cell? ⟨g, 1, none⟩ = some (.int .i64 a) ∧ w.frozen? ⟨g, 1, none⟩ = false

section
variable {w w' : World} {g : Nat} {s : ByteArray} {a : Nat}
theorem Roll.lt (h : Roll w g s a) : g < w.heap.size := World.block_lt_of_cell? w _ h.1
theorem Roll.keep (h : Roll w g s a) (hk : w'.heap[g]? = w.heap[g]?) : Roll w' g s a :=
  ⟨(World.cell?_of_block (a := ⟨g, 0, none⟩) hk).trans h.1, (World.cell?_of_block (a := ⟨g, 1, none⟩) hk).trans h.2.1, (World.frozen?_of_block (a := ⟨g, 1, none⟩) hk).trans h.2.2⟩
theorem Roll.on (h : Roll w g s a) (hb : Below w.heap.size w w') : Roll w' g s a := h.keep (hb.block g h.lt)
theorem Roll.far (h : Roll w g s a) {p : Addr} (hp : g ≠ p.block) (u : Value) : Roll (w.setCell p u) g s a := h.keep (Below.heap_setCell w p u g hp)
theorem Roll.drew (h : Roll w g s a) : Roll w.drew g s a := h
theorem Roll.drewN (h : Roll w g s a) (n : Nat) : Roll (w.drewN n) g s a := h
/-- All but one block as it was, behind what turns no other block, or a new one. -/
theorem grown_then {a b c : World} {row : Option Nat} (h : a.grownBy b row) (ho : c.os = b.os) (ht : c.tape = b.tape) (hp : c.output = b.output) (hs : b.heap.size ≤ c.heap.size)
    (hk : ∀ i, i < a.heap.size → some i ≠ row → c.heap[i]? = b.heap[i]?) : a.grownBy c row where
  os := by rw [ho, h.os]
  tape := by rw [ht, h.tape]
  output := by rw [hp, h.output]
  size := Nat.le_trans h.size hs
  block i hi hn := by rw [hk i hi hn, h.block i hi hn]
theorem grown_drewN {a w : World} {row : Option Nat} (h : a.grownBy w row) (n : Nat) : a.grownBy (w.drewN n) row := grown_then h rfl rfl rfl (Nat.le_refl _) fun _ _ _ => rfl
theorem grown_drew {a w : World} {row : Option Nat} (h : a.grownBy w row) : a.grownBy w.drew row := grown_then h rfl rfl rfl (Nat.le_refl _) fun _ _ _ => rfl
theorem grown_set {a w : World} {g : Nat} (h : a.grownBy w (some g)) {p : Addr} (hp : p.block = g ∨ a.heap.size ≤ p.block) (u : Value) : a.grownBy (w.setCell p u) (some g) :=
  grown_then h rfl rfl rfl (by simp [World.setCell]) fun i hi hn => Below.heap_setCell w p u i (by
    intro e
    rcases hp with hp | hp
    · rw [e, hp] at hn; exact hn rfl
    · omega)
theorem grown_trans {a b c : World} {row : Option Nat} (h : a.grownBy b row) (k : b.grownBy c row) : a.grownBy c row :=
  grown_then h k.os k.tape k.output k.size fun i hi hn => k.block i (by have := h.size; omega) hn
theorem grown_below {a b c : World} {row : Option Nat} (h : a.grownBy b row) (k : Below b.heap.size b c) : a.grownBy c row :=
  grown_then h k.os k.tape k.output k.size fun i hi _ => k.block i (by have := h.size; omega)
end

theorem ret_int {k : IntKind} {a b : Int} (h : a = b) : Ending.returned (.int k a) = .returned (.int k b) := by rw [h]

set_option maxRecDepth 100000 in
set_option maxHeartbeats 400000 in
theorem roll_any (s : ByteArray) (a m g : Nat) (w : World) (hs : s.size ≤ 1000) (ha : a ≤ s.size) (h1 : 1 ≤ m) (hm : m ≤ 256) (hr : Roll w g s a) :
    Calls Try.prog 33 #[.pointer (some ⟨g, 0, none⟩), .int .i64 m] w fun e w' =>
      e = .returned (.int .i64 (drawn s.data.toList a m : Nat)) ∧ Roll w' g s (next s.data.toList a) ∧ w.grownBy w' (some g) := by
  have hl : s.data.toList.length = s.size := by simp
  have HR := Lib.hid hr
  obtain ⟨c0, c1, f1⟩ := hr
  by_cases h : a < s.size
  · have hd : Hid (drawn s.data.toList a m = s[a].toNat % m) := Lib.hid (by unfold drawn; rw [octet_at s a h])
    have hn : Hid (next s.data.toList a = a + 1) := Lib.hid (by unfold next; rw [if_pos (by omega)])
    have hne : (((a : Int)) == (s.size : Int)) = false := by rw [beq_eq_false_iff_ne]; omega
    have i0 : (0 : Int) ≤ (a : Int) := by omega
    have i1 : (a : Int) < (s.size : Int) := by omega
    clear hl
    go_enter Try.func33, Try.ntmps33
    go_wp2
    go_quiet (fail)
    go_wp2
    go_quiet (fail)
    go_wp2
    go_ret
    refine ⟨ret_int (by rw [hd.out]; exact rem_of _ _ s[a].toNat_lt), ?_, grown_set (grown_drewN (World.grownBy.refl _ _) _) (.inl rfl) _⟩
    rw [hn.out]
    generalize hW : w.drewN _ = W
    have c0' : W.cell? ⟨g, 0, none⟩ = some (.string s) := by rw [← hW]; exact c0
    have c1' : W.cell? ⟨g, 1, none⟩ = some (.int .i64 a) := by rw [← hW]; exact c1
    have f1' : W.frozen? ⟨g, 1, none⟩ = false := by rw [← hW]; exact f1
    exact ⟨by rw [World.cell?_setCell_other W _ _ _ (by simp)]; exact c0', by rw [World.cell?_setCell_same W _ _ c1']; simp, by simpa [go_sem] using f1'⟩
  · have hae : a = s.size := by omega
    have hd : Hid (drawn s.data.toList s.size m = 0) := Lib.hid (drawn_end _ _ _ (by omega))
    have hn : Hid (next s.data.toList s.size = s.size) := Lib.hid (by unfold next; rw [if_neg (by omega)])
    clear hl
    subst hae
    have hne : (((s.size : Int)) == (s.size : Int)) = true := by simp
    go_enter Try.func33, Try.ntmps33
    go_wp2
    go_quiet (fail)
    go_wp2
    go_ret
    exact ⟨ret_int (by rw [hd.out]; rfl), by rw [hn.out]; exact HR.out.drewN _, grown_drewN (World.grownBy.refl _ _) _⟩
end Go.Proofs.Ytphcmjhphoacgaa
