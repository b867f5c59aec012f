/-
  A term's guard: as mathematics.
-/
namespace Go.Proofs.Ytlefnohcfnlejaa.Pure

theorem div_mono {x y r : Int} (hr : 0 < r) (h : x ≤ y) : x / r ≤ y / r := Int.ediv_le_ediv hr h
/-- g is a term's guard. -/
def Guards (g term d r : Int) : Prop := 0 ≤ g ∧ g ≤ term ∧ (g = 0 ∨ g - 1 + d + (g - 1) / r < term) ∧ ¬ (g + d + g / r < term)
theorem reach_mono {x y d r : Int} (hr : 1 ≤ r) (h : x ≤ y) : x + d + x / r ≤ y + d + y / r := by
  have := div_mono (r := r) (by omega) h
  omega
theorem Guards.more {g h t b d r : Int} (hr : 1 ≤ r) (hb : 0 ≤ b) (hg : Guards g t d r) (hh : Guards h (t + b) d r) : g ≤ h := by
  obtain ⟨g1, g2, g3, g4⟩ := hg
  obtain ⟨h1, h2, h3, h4⟩ := hh
  rcases Int.lt_or_le h g with hl | hl
  · have := reach_mono (d := d) hr (show h ≤ g - 1 by omega)
    omega
  · exact hl
theorem Guards.wider {g h t b d r : Int} (hr : 1 ≤ r) (hb : 0 ≤ b) (hg : Guards g t d r) (hh : Guards h t (d + b) r) : h ≤ g := by
  obtain ⟨g1, g2, g3, g4⟩ := hg
  obtain ⟨h1, h2, h3, h4⟩ := hh
  rcases Int.lt_or_le g h with hl | hl
  · have := reach_mono (d := d) hr (show g ≤ h - 1 by omega)
    omega
  · exact hl
end Go.Proofs.Ytlefnohcfnlejaa.Pure
