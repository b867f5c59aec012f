/-
  What the loops of Diff and Apply gather, out of what comes of each task: what differs, and what is moved.
-/
import Derived.Test.YtdbndkccgpmkbaaPz
namespace Go.Proofs.Ytdbndkccgpmkbaa.Pure
open Go.Proofs.Ytdbndkccgpmkbaa
def stepD (x : Pu × Pu) : List Mv := if whP x.1 = whP x.2 then [] else [⟨orS x.1.t x.2.t, whP x.1, whP x.2⟩]
def stepA (x : Pu × Mv) : List Pu := if x.2.t = ⟨#[]⟩ then [x.1] else if x.2.g = -1 then [] else [⟨x.2.t, x.2.g⟩]
def badA (x : Pu × Mv) : Bool := !decide (x.2.t = ⟨#[]⟩) && !decide (x.2.f = whP x.1)
structure GoodP (a : List Pu) : Prop where
  rise : RiseK (a.map (·.t))
  nm : ∀ p ∈ a, ¬ p.t = ⟨#[]⟩
  lo : ∀ p ∈ a, 0 ≤ p.n
structure GoodM (l : List Mv) : Prop where
  rise : RiseK (l.map (·.t))
  nm : ∀ m ∈ l, ¬ m.t = ⟨#[]⟩
  lo : ∀ m ∈ l, -1 ≤ m.g
theorem GoodP.tail {p : Pu} {a : List Pu} (h : GoodP (p :: a)) : GoodP a := ⟨(riseK_cons.1 (by simpa using h.rise)).2, fun q hq => h.nm q (List.mem_cons_of_mem _ hq), fun q hq => h.lo q (List.mem_cons_of_mem _ hq)⟩
theorem GoodP.above {p : Pu} {a : List Pu} (h : GoodP (p :: a)) : ∀ q ∈ a, ltS p.t q.t = true := fun q hq => (riseK_cons.1 (by simpa using h.rise : RiseK (p.t :: a.map (·.t)))).1 q.t (List.mem_map_of_mem hq)
theorem GoodM.tail {p : Mv} {a : List Mv} (h : GoodM (p :: a)) : GoodM a := ⟨(riseK_cons.1 (by simpa using h.rise)).2, fun q hq => h.nm q (List.mem_cons_of_mem _ hq), fun q hq => h.lo q (List.mem_cons_of_mem _ hq)⟩
theorem GoodM.above {p : Mv} {a : List Mv} (h : GoodM (p :: a)) : ∀ q ∈ a, ltS p.t q.t = true := fun q hq => (riseK_cons.1 (by simpa using h.rise : RiseK (p.t :: a.map (·.t)))).1 q.t (List.mem_map_of_mem hq)
theorem whP_in {p : Pu} (h : ¬ p.t = ⟨#[]⟩) : whP p = p.n := by unfold whP; rw [if_neg h]
theorem whP_zu : whP zu = -1 := by unfold whP zu; rw [if_pos rfl]
theorem orS_in {a b : ByteArray} (h : ¬ a = ⟨#[]⟩) : orS a b = a := by unfold orS; rw [if_neg h]
theorem orS_out (b : ByteArray) : orS zu.t b = b := by unfold orS zu; rw [if_pos rfl]
abbrev zipD (a b : List Pu) := zipA Pu.t Pu.t zu zu a b
abbrev zipM (a : List Pu) (l : List Mv) := zipA Pu.t Mv.t zu zmv a l
theorem stepD_left {p : Pu} (h : ¬ p.t = ⟨#[]⟩) (h0 : 0 ≤ p.n) : stepD (p, zu) = [⟨p.t, p.n, -1⟩] := by
  unfold stepD
  simp only
  rw [whP_in h, whP_zu, if_neg (by omega), orS_in h]
theorem stepD_right {p : Pu} (h : ¬ p.t = ⟨#[]⟩) (h0 : 0 ≤ p.n) : stepD (zu, p) = [⟨p.t, -1, p.n⟩] := by
  unfold stepD
  simp only
  rw [whP_in h, whP_zu, if_neg (by omega), orS_out]
theorem stepD_both {p q : Pu} (h : ¬ p.t = ⟨#[]⟩) (h' : ¬ q.t = ⟨#[]⟩) : stepD (p, q) = if p.n = q.n then [] else [⟨p.t, p.n, q.n⟩] := by
  unfold stepD
  simp only
  rw [whP_in h, whP_in h', orS_in h]
theorem zipD_is : ∀ (n : Nat) (a b : List Pu), a.length + b.length ≤ n → GoodP a → GoodP b → (zipD a b).flatMap stepD = difP a b
  | _, [], [], _, _, _ => rfl
  | 0, _ :: _, _, h, _, _ => by simp at h
  | 0, [], _ :: _, h, _, _ => by simp at h
  | n + 1, [], y :: b, h, ha, hb => by
    have ih := zipD_is n [] b (by simp at h ⊢; omega) ha hb.tail
    unfold zipD at ih ⊢
    rw [zipA_right, List.flatMap_cons, ih, stepD_right (hb.nm y (List.mem_cons_self ..)) (hb.lo y (List.mem_cons_self ..)),
      difP_gt (fun q hq => (by cases hq)) hb.above (hb.lo y (List.mem_cons_self ..))]
    rfl
  | n + 1, x :: a, [], h, ha, hb => by
    have ih := zipD_is n a [] (by simp at h ⊢; omega) ha.tail hb
    unfold zipD at ih ⊢
    rw [zipA_left, List.flatMap_cons, ih, stepD_left (ha.nm x (List.mem_cons_self ..)) (ha.lo x (List.mem_cons_self ..)),
      difP_lt ha.above (fun q hq => (by cases hq)) (ha.lo x (List.mem_cons_self ..))]
    rfl
  | n + 1, x :: a, y :: b, h, ha, hb => by
    have hx := ha.nm x (List.mem_cons_self ..)
    have hy := hb.nm y (List.mem_cons_self ..)
    have ih1 := zipD_is n a (y :: b) (by simp at h ⊢; omega) ha.tail hb
    have ih2 := zipD_is n (x :: a) b (by simp at h ⊢; omega) ha hb.tail
    have ih3 := zipD_is n a b (by simp at h ⊢; omega) ha.tail hb.tail
    unfold zipD at ih1 ih2 ih3 ⊢
    rw [zipA_both]
    by_cases h1 : ltS x.t y.t = true
    · rw [if_pos h1, List.flatMap_cons, ih1, stepD_left hx (ha.lo x (List.mem_cons_self ..)), difP_lt ha.above (fun q hq => ?_) (ha.lo x (List.mem_cons_self ..))]
      · rfl
      · rcases List.mem_cons.1 hq with rfl | hq
        · exact h1
        · exact ltS_trans h1 (hb.above q hq)
    · rw [if_neg h1]
      by_cases h2 : ltS y.t x.t = true
      · rw [if_pos h2, List.flatMap_cons, ih2, stepD_right hy (hb.lo y (List.mem_cons_self ..)), difP_gt (fun q hq => ?_) hb.above (hb.lo y (List.mem_cons_self ..))]
        · rfl
        · rcases List.mem_cons.1 hq with rfl | hq
          · exact h2
          · exact ltS_trans h2 (ha.above q hq)
      · have he : x.t = y.t := ltS_total (by simpa using h1) (by simpa using h2)
        rw [if_neg h2, List.flatMap_cons, ih3, stepD_both hx hy, difP_eq he ha.above (fun q hq => he ▸ hb.above q hq)]
        split <;> rfl
theorem stepA_left {p : Pu} : stepA (p, zmv) = [p] := by unfold stepA zmv; simp
theorem badA_left {p : Pu} : badA (p, zmv) = false := by unfold badA zmv; simp
theorem stepA_in {p : Pu} {m : Mv} (h : ¬ m.t = ⟨#[]⟩) (h0 : -1 ≤ m.g) : stepA (p, m) = if 0 ≤ m.g then [⟨m.t, m.g⟩] else [] := by
  unfold stepA
  simp only
  rw [if_neg h]
  by_cases h1 : m.g = -1
  · rw [if_pos h1, if_neg (by omega)]
  · rw [if_neg h1, if_pos (by omega)]
theorem badA_in {p : Pu} {m : Mv} (h : ¬ m.t = ⟨#[]⟩) : badA (p, m) = !decide (m.f = whP p) := by
  unfold badA
  simp [h]
theorem zipM_is : ∀ (n : Nat) (a : List Pu) (l : List Mv), a.length + l.length ≤ n → GoodP a → GoodM l → (zipM a l).flatMap stepA = apP a l ∧ (zipM a l).any badA = staB a l
  | _, [], [], _, _, _ => ⟨rfl, rfl⟩
  | 0, _ :: _, _, h, _, _ => by simp at h
  | 0, [], _ :: _, h, _, _ => by simp at h
  | n + 1, [], y :: b, h, ha, hb => by
    have hy := hb.nm y (List.mem_cons_self ..)
    obtain ⟨ih, ih'⟩ := zipM_is n [] b (by simp at h ⊢; omega) ha hb.tail
    unfold zipM at ih ih' ⊢
    rw [zipA_right, List.flatMap_cons, List.any_cons, ih, ih', stepA_in hy (hb.lo y (List.mem_cons_self ..)), badA_in hy, whP_zu,
      apP_gt (fun q hq => (by cases hq)) hb.above, staB_gt (fun q hq => (by cases hq))]
    refine ⟨?_, by simp⟩
    split <;> rfl
  | n + 1, x :: a, [], h, ha, hb => by
    obtain ⟨ih, ih'⟩ := zipM_is n a [] (by simp at h ⊢; omega) ha.tail hb
    unfold zipM at ih ih' ⊢
    rw [zipA_left, List.flatMap_cons, List.any_cons, ih, ih', stepA_left, badA_left,
      apP_lt ha.above (fun q hq => (by cases hq)) (ha.lo x (List.mem_cons_self ..)), staB_lt (fun q hq => (by cases hq))]
    exact ⟨rfl, rfl⟩
  | n + 1, x :: a, y :: b, h, ha, hb => by
    have hx := ha.nm x (List.mem_cons_self ..)
    have hy := hb.nm y (List.mem_cons_self ..)
    obtain ⟨ih1, ih1'⟩ := zipM_is n a (y :: b) (by simp at h ⊢; omega) ha.tail hb
    obtain ⟨ih2, ih2'⟩ := zipM_is n (x :: a) b (by simp at h ⊢; omega) ha hb.tail
    obtain ⟨ih3, ih3'⟩ := zipM_is n a b (by simp at h ⊢; omega) ha.tail hb.tail
    unfold zipM at ih1 ih2 ih3 ih1' ih2' ih3' ⊢
    rw [zipA_both]
    by_cases h1 : ltS x.t y.t = true
    · have hu : ∀ q ∈ y :: b, ltS x.t q.t = true := fun q hq => by
        rcases List.mem_cons.1 hq with rfl | hq
        · exact h1
        · exact ltS_trans h1 (hb.above q hq)
      rw [if_pos h1, List.flatMap_cons, List.any_cons, ih1, ih1', stepA_left, badA_left, apP_lt ha.above hu (ha.lo x (List.mem_cons_self ..)), staB_lt hu]
      exact ⟨rfl, rfl⟩
    · rw [if_neg h1]
      by_cases h2 : ltS y.t x.t = true
      · have hu : ∀ q ∈ x :: a, ltS y.t q.t = true := fun q hq => by
          rcases List.mem_cons.1 hq with rfl | hq
          · exact h2
          · exact ltS_trans h2 (ha.above q hq)
        rw [if_pos h2, List.flatMap_cons, List.any_cons, ih2, ih2', stepA_in hy (hb.lo y (List.mem_cons_self ..)), badA_in hy, whP_zu, apP_gt hu hb.above, staB_gt hu]
        refine ⟨?_, by simp⟩
        split <;> rfl
      · have he : x.t = y.t := ltS_total (by simpa using h1) (by simpa using h2)
        have hu : ∀ q ∈ b, ltS x.t q.t = true := fun q hq => he ▸ hb.above q hq
        rw [if_neg h2, List.flatMap_cons, List.any_cons, ih3, ih3', stepA_in hy (hb.lo y (List.mem_cons_self ..)), badA_in hy, whP_in hx, apP_eq he ha.above hu, staB_eq he hu]
        refine ⟨?_, by simp⟩
        rw [he]
        split <;> rfl
theorem gather_len {α β : Type} {f : α → List β} (h : ∀ x, (f x).length ≤ 1) (l : List α) : (l.flatMap f).length ≤ l.length := by
  induction l with
  | nil => exact Nat.le_refl _
  | cons x r ih => have := h x; rw [List.flatMap_cons, List.length_append, List.length_cons]; omega
theorem stepD_one (x : Pu × Pu) : (stepD x).length ≤ 1 := by unfold stepD; split <;> simp
theorem stepA_one (x : Pu × Mv) : (stepA x).length ≤ 1 := by unfold stepA; (repeat' split) <;> simp
theorem gather_next {α β : Type} (f : α → List β) (pre : List α) (x : α) : (pre ++ [x]).flatMap f = pre.flatMap f ++ f x := by simp
end Go.Proofs.Ytdbndkccgpmkbaa.Pure
