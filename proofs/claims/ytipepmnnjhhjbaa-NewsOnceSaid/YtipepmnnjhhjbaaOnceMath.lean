/-
  The best that was added of each node: what is in the queue, and what is told, is nothing better.
-/
import Derived.Test.YtipepmnnjhhjbaaFairMath
namespace Go.Proofs.Ytipepmnnjhhjbaa
open Go.Sort Go.RowKit Go.Proofs.Ytipepmnnjhhjbaa.Pure

/-- f holds for each node in the queue something at least as good, and nothing that may not be. -/
def Peak (q : List Td) (f : Int → Option Kn) : Prop := (∀ x ∈ q, ∃ b, f x.w = some b ∧ key x.k ≤ key b) ∧ (∀ k b, f k = some b → mayK b = true)
theorem Peak.nil : Peak [] (fun _ => none) := ⟨fun x hx => (by cases hx), fun k b h => (by cases h)⟩
/-- f, and at w the new one. -/
def putF (f : Int → Option Kn) (w : Int) (x : Kn) : Int → Option Kn := fun k => if k = w then some x else f k
theorem may_k {x : Td} (h : mayT x = true) : mayK x.k = true := by
  rw [mayT_iff] at h
  rw [mayK_iff]
  exact ⟨h.2.2.1, h.2.2.2.1⟩
theorem one_k {x : Nw} (h : oneB x = true) : mayK x.k = true := by
  rw [oneB_iff] at h
  rw [mayK_iff]
  exact ⟨h.2.2.1, h.2.2.2⟩
theorem Peak.put {q : List Td} {f : Int → Option Kn} (h : Peak q f) {n : Nw} (hn : oneB n = true) (o : Int) (hb : ∀ b, f n.w = some b → beatsB n.k b = true) : Peak (addQ q (n.td o)) (putF f n.w n.k) := by
  refine ⟨fun x hx => ?_, fun k b hk => ?_⟩
  · unfold putF
    rcases mem_addQ hx with rfl | hx
    · exact ⟨n.k, by rw [if_pos (show (n.td o).w = n.w from rfl)], Int.le_refl _⟩
    · obtain ⟨b, h1, h2⟩ := h.1 x hx
      by_cases e : x.w = n.w
      · rw [if_pos e]
        refine ⟨n.k, rfl, ?_⟩
        rw [e] at h1
        have := (beats_iff (one_k hn) (h.2 _ b h1)).1 (hb b h1)
        omega
      · rw [if_neg e]
        exact ⟨b, h1, h2⟩
  · unfold putF at hk
    split at hk
    · injection hk with hk
      rw [← hk]
      exact one_k hn
    · exact h.2 k b hk
theorem Peak.stay {q : List Td} {f : Int → Option Kn} (h : Peak q f) {n : Nw} (hn : oneB n = true) (o : Int) (b : Kn) (hf : f n.w = some b) (hb : beatsB n.k b = false) : Peak (addQ q (n.td o)) f := by
  refine ⟨fun x hx => ?_, h.2⟩
  rcases mem_addQ hx with rfl | hx
  · refine ⟨b, hf, ?_⟩
    have : ¬ key b < key n.k := fun hk => by
      have := (beats_iff (one_k hn) (h.2 _ b hf)).2 hk
      rw [hb] at this
      cases this
    have e : (n.td o).k = n.k := rfl
    rw [e]
    omega
  · exact h.1 x hx
theorem Peak.rest {q : List Td} {f : Int → Option Kn} (h : Peak q f) (m : Nat) : Peak (tellR q m) f := by
  refine ⟨fun x hx => ?_, h.2⟩
  have hx1 := (srt_perm cfW _).mem_iff.1 hx
  obtain ⟨y, hy, e⟩ := stepL_mem (yet_mem.1 hx1).1
  have hy' := (srt_perm cfT q).mem_iff.1 hy
  obtain ⟨b, h1, h2⟩ := h.1 y hy'
  rcases e with rfl | rfl
  · exact ⟨b, h1, h2⟩
  · exact ⟨b, h1, h2⟩
/-- What is told is nothing better. -/
theorem Peak.told {q : List Td} {f : Int → Option Kn} (h : Peak q f) (hq : mayQ q = true) (m : Nat) (x : Nw) (hx : x ∈ tellN q m) : 0 ≤ x.w ∧ x.w < 64 ∧ ∃ b, f x.w = some b ∧ beatsB x.k b = false := by
  unfold tellN tellL at hx
  obtain ⟨y, hy, rfl⟩ := List.mem_map.1 hx
  have hyq := (srt_perm cfT q).mem_iff.1 (List.mem_of_mem_take hy)
  have hyt := mayQ_all hq y hyq
  obtain ⟨b, h1, h2⟩ := h.1 y hyq
  have hk := may_k hyt
  rw [mayT_iff] at hyt
  refine ⟨hyt.1, hyt.2.1, b, h1, ?_⟩
  have e : y.n.k = y.k := rfl
  rw [e, beats_key hk (h.2 _ b h1)]
  simp
  exact h2
theorem addQ_len60 {q : List Td} (h : mayQ q = true) : q.length ≤ 64 := mayQ_len h
end Go.Proofs.Ytipepmnnjhhjbaa
