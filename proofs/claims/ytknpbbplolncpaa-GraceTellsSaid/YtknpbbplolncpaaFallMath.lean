/-
  Graces, as mathematics: with more confirmations, with more nodes; each step.
-/
import Derived.Test.YtknpbbplolncpaaDoubts
namespace Go.Proofs.Ytknpbbplolncpaa.Pure

theorem bits_mono : ∀ a b : Nat, b ≤ 64 → a ≤ b → bitsN a ≤ bitsN b := by
  have h : ∀ b : Fin 65, ∀ a : Fin 65, a.val ≤ b.val → bitsN a.val ≤ bitsN b.val := by decide
  intro a b hb hab
  exact h ⟨b, by omega⟩ ⟨a, by omega⟩ hab
theorem bits_twice (n : Nat) (h0 : 1 ≤ n) (h : n ≤ 32) : bitsN (2 * n) = bitsN n + 1 := by
  have h' : ∀ a : Fin 33, 1 ≤ a.val → bitsN (2 * a.val) = bitsN a.val + 1 := by decide
  exact h' ⟨n, by omega⟩ h0
theorem bits_one (n : Nat) (h0 : 1 ≤ n) (h : n ≤ 64) : 1 ≤ bitsN n := by
  have h' : ∀ a : Fin 65, 1 ≤ a.val → 1 ≤ bitsN a.val := by decide
  exact h' ⟨n, by omega⟩ h0
theorem least_one {r : Ru} {n : Nat} (hr : Rl r) (h1 : 1 ≤ n) (h2 : n ≤ 64) : 1 ≤ leastN r n := by
  unfold leastN
  have b1 := bits_one n h1 h2
  unfold Rl at hr
  have h3 : (1 : Int) * 1 ≤ r.mn * (bitsN n : Int) := Int.mul_le_mul (by omega) (by omega) (by omega) (by omega)
  omega
theorem least_mono {r : Ru} {a b : Nat} (hr : Rl r) (h : a ≤ b) (hb : b ≤ 64) : leastN r a ≤ leastN r b := by
  unfold leastN
  unfold Rl at hr
  have := bits_mono a b hb h
  exact Int.mul_le_mul_of_nonneg_left (by omega) (by omega)
theorem ediv_add_le {a b n : Int} (hn : 0 < n) : a / n + b / n ≤ (a + b) / n ∧ (a + b) / n ≤ a / n + b / n + 1 := by
  have e1 := Int.mul_ediv_add_emod a n
  have e2 := Int.mul_ediv_add_emod b n
  have e3 := Int.mul_ediv_add_emod (a + b) n
  have p1 := Int.emod_nonneg a (show n ≠ 0 by omega)
  have p2 := Int.emod_nonneg b (show n ≠ 0 by omega)
  have q1 := Int.emod_lt_of_pos a hn
  have q2 := Int.emod_lt_of_pos b hn
  have h1 : a + b = (a / n + b / n) * n + (a % n + b % n) := by
    rw [Int.add_mul, Int.mul_comm (a / n), Int.mul_comm (b / n)]; omega
  have h2 : (a + b) / n = (a / n + b / n) + (a % n + b % n) / n := by
    rw [h1, Int.add_comm, Int.add_mul_ediv_right _ _ (by omega), Int.add_comm]
  have h3 : 0 ≤ (a % n + b % n) / n := Int.ediv_nonneg (by omega) (by omega)
  have h4 : (a % n + b % n) / n < 2 := Int.ediv_lt_of_lt_mul hn (by omega)
  omega
/-- A grace by what is least. -/
def gr (mo al S c : Int) : Int := if al = 0 then S else mo * S - (mo * S - S) * min c al / al
theorem grace_gr (r : Ru) (n : Nat) (c : Int) : graceN r n c = gr r.mo r.al (leastN r n) c := rfl
theorem gap_nonneg {mo S : Int} (h1 : 1 ≤ mo) (h2 : 1 ≤ S) : 0 ≤ mo * S - S := by
  have : 1 * S ≤ mo * S := Int.mul_le_mul_of_nonneg_right h1 (by omega)
  omega
theorem gr_falls {mo al S c d : Int} (h1 : 1 ≤ mo) (h2 : 1 ≤ S) (h3 : 0 ≤ al) (hcd : c ≤ d) : gr mo al S d ≤ gr mo al S c := by
  unfold gr
  by_cases ha : al = 0
  · rw [if_pos ha, if_pos ha]; exact Int.le_refl _
  · rw [if_neg ha, if_neg ha]
    have hg := gap_nonneg h1 h2
    have : (mo * S - S) * min c al ≤ (mo * S - S) * min d al := Int.mul_le_mul_of_nonneg_left (by omega) hg
    have := Int.ediv_le_ediv (c := al) (by omega) this
    omega
theorem gr_all {mo al S c : Int} (hc : al ≤ c) : gr mo al S c = S := by
  unfold gr
  by_cases ha : al = 0
  · rw [if_pos ha]
  · rw [if_neg ha, show min c al = al by omega, Int.mul_ediv_cancel _ ha]; omega
theorem gr_none {mo al S : Int} : al ≠ 0 → 0 ≤ al → gr mo al S 0 = mo * S := by
  intro ha h
  unfold gr
  rw [if_neg ha, show min 0 al = 0 by omega, Int.mul_zero, Int.zero_ediv]; omega
theorem gr_none_le {mo al S : Int} (h1 : 1 ≤ mo) (h2 : 1 ≤ S) (h3 : 0 ≤ al) : gr mo al S 0 ≤ S * mo := by
  have hg := gap_nonneg h1 h2
  rw [Int.mul_comm S mo]
  by_cases ha : al = 0
  · unfold gr; rw [if_pos ha]; omega
  · rw [gr_none ha h3]; exact Int.le_refl _
theorem gr_more {mo al S T c : Int} (h1 : 1 ≤ mo) (h3 : 0 ≤ al) (hST : S ≤ T) : gr mo al S c ≤ gr mo al T c := by
  unfold gr
  by_cases ha : al = 0
  · rw [if_pos ha, if_pos ha]; exact hST
  · rw [if_neg ha, if_neg ha]
    obtain ⟨t, ht⟩ : ∃ t, t = T - S := ⟨_, rfl⟩
    obtain rfl : T = S + t := by omega
    have ht0 : 0 ≤ t := by omega
    have hg : 0 ≤ mo * t - t := by
      have : 1 * t ≤ mo * t := Int.mul_le_mul_of_nonneg_right h1 ht0
      omega
    have hle : (mo * t - t) * min c al ≤ (mo * t - t) * al := Int.mul_le_mul_of_nonneg_left (by omega) hg
    have e1 : (mo * (S + t) - (S + t)) * min c al = (mo * S - S) * min c al + (mo * t - t) * min c al := by
      rw [← Int.add_mul, Int.mul_add]; congr 1; omega
    have e2 : ((mo * S - S) * min c al + (mo * t - t) * min c al) / al ≤ (mo * S - S) * min c al / al + (mo * t - t) := by
      have := Int.ediv_le_ediv (a := (mo * S - S) * min c al + (mo * t - t) * min c al) (b := (mo * S - S) * min c al + (mo * t - t) * al) (c := al) (by omega) (by omega)
      rwa [Int.add_mul_ediv_right _ _ ha] at this
    rw [e1, Int.mul_add]
    omega
theorem gr_step {mo al S c : Int} (h3 : 1 ≤ al) (hc : c ≤ al) :
    (gr mo al S 0 - S) / al ≤ gr mo al S (c - 1) - gr mo al S c ∧ gr mo al S (c - 1) - gr mo al S c ≤ (gr mo al S 0 - S) / al + 1 := by
  have ha : al ≠ 0 := by omega
  rw [gr_none ha (by omega)]
  unfold gr
  rw [if_neg ha, if_neg ha, show min c al = c by omega, show min (c - 1) al = c - 1 by omega]
  have e : (mo * S - S) * c = (mo * S - S) * (c - 1) + (mo * S - S) := by
    rw [Int.mul_sub, Int.mul_one]; omega
  have := ediv_add_le (a := (mo * S - S) * (c - 1)) (b := mo * S - S) (n := al) (by omega)
  rw [← e] at this
  omega
end Go.Proofs.Ytknpbbplolncpaa.Pure
