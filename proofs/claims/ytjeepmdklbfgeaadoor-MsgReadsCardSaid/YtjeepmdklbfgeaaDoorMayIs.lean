/-
  Which messages may be, said as the document says it: the message is what is left of it where the parts alone stand that its kind has.
-/
import Derived.Test.YtjeepmdklbfgeaaDoorBare
namespace Go.Proofs.YtjeepmdklbfgeaaDoor.Pure

/-- What the document asks behind its first line. -/
def restM (m : Mg) : Bool := m.ns.all oneB && ((if m.kd = 5 ∨ m.kd = 6 then mayT m.tb else true) && (if m.kd < 11 then true else nameB m.ts))
theorem may_is {m : Mg} (h1 : 1 ≤ m.kd) (h2 : m.kd ≤ 12) (hf : isN m.fr = true) (ht : isN m.to = true) (hn : ¬ m.fr = m.to) (hb : m = bareM m) (hw : isN m.wh = true) (hk : mayK m.k = true) (h8 : m.ns.length ≤ 8) (h3 : 0 ≤ m.ak) (h4 : m.ak ≤ 1099511627776) : mayM m = restM m := by
  have hh : m.kd = 1 ∨ m.kd = 2 ∨ m.kd = 3 ∨ m.kd = 4 ∨ m.kd = 5 ∨ m.kd = 6 ∨ m.kd = 7 ∨ m.kd = 8 ∨ m.kd = 9 ∨ m.kd = 10 ∨ m.kd = 11 ∨ m.kd = 12 := by omega
  obtain ⟨kd, fr, tt, sq, wh, k, ns, tb, ep, bo, ak, ts, tn, gd⟩ := m
  simp only [] at *
  have e8 : decide (ns.length ≤ 8) = true := by simpa using h8
  have e3 : decide (0 ≤ ak) = true := by simpa using h3
  have e4 : decide (ak ≤ 1099511627776) = true := by simpa using h4
  have en : decide (fr = tt) = false := by simpa using hn
  clear h1 h2 hn h8 h3 h4
  rcases hh with rfl | rfl | rfl | rfl | rfl | rfl | rfl | rfl | rfl | rfl | rfl | rfl <;>
  · simp [bareM, pof, putP, zm] at hb
    simp [mayM, headB, fitsP, pof, List.range, List.range.loop, mayP, zeroP, restM, mayNs, hf, ht, en, hw, hk, e8, e3, e4, hb]
/-- Where the first line says no, it may not be. -/
theorem may_bare {m : Mg} (h : mayM m = true) : m = bareM m := by
  have hh := may_kind h
  have hz := fun i hi => may_fits h i hi
  obtain ⟨kd, fr, tt, sq, wh, k, ns, tb, ep, bo, ak, ts, tn, gd⟩ := m
  simp only [] at *
  have z0 := hz 0 (by decide)
  have z1 := hz 1 (by decide)
  have z2 := hz 2 (by decide)
  have z3 := hz 3 (by decide)
  have z4 := hz 4 (by decide)
  have z5 := hz 5 (by decide)
  have z6 := hz 6 (by decide)
  have z7 := hz 7 (by decide)
  have z8 := hz 8 (by decide)
  have z9 := hz 9 (by decide)
  have z10 := hz 10 (by decide)
  clear hz h
  rcases hh with rfl | rfl | rfl | rfl | rfl | rfl | rfl | rfl | rfl | rfl | rfl | rfl <;>
  · simp [fitsP, pof, mayP, zeroP] at z0 z1 z2 z3 z4 z5 z6 z7 z8 z9 z10
    simp [bareM, pof, putP, zm, *]
end Go.Proofs.YtjeepmdklbfgeaaDoor.Pure
