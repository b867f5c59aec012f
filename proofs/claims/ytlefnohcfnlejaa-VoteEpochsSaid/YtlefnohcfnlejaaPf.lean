/-
  What follows of all grants: as the laws ask it.
-/
import Derived.Test.YtlefnohcfnlejaaPl
namespace Go.Proofs.Ytlefnohcfnlejaa
open Go.Sort Go.RowKit Go.Proofs.Ytlefnohcfnlejaa.Pure

theorem plyP_pos {T : Int} (hT : 0 < T) {l : List Sp} (hl : ∀ s ∈ l, SpO s) : ∀ i, i ≤ l.length → (∀ g ∈ (plyP T l i).o, 0 ≤ g.n) ∧ (∀ a ∈ (plyP T l i).a, 0 ≤ a)
  | 0, _ => ⟨fun g hg => (by cases hg), fun a ha => (by cases ha)⟩
  | i + 1, hi => by
    obtain ⟨h1, h2⟩ := plyP_pos hT hl i (by omega)
    have hn := (pyI_all hT hl i (by omega)).n0
    have hs := (hl _ (List.getElem_mem (show i < l.length by omega))).d0
    rw [← sp_lt l (by omega)] at hs
    rw [plyP_succ]
    generalize plyP T l i = p at *
    generalize sp l i = s at *
    unfold stepP
    have hw : 0 ≤ nowP p s := by unfold nowP; omega
    split
    · refine ⟨h1, fun a ha => ?_⟩
      rcases List.mem_append.1 ha with ha | ha
      · exact h2 a ha
      · rw [List.mem_singleton] at ha; subst ha; exact hw
    · refine ⟨fun g hg => ?_, h2⟩
      simp only at hg
      split at hg
      · rcases List.mem_append.1 hg with hg | hg
        · exact h1 g hg
        · rw [List.mem_singleton] at hg; subst hg; exact hw
      · exact h1 g hg
theorem gr_mem {l : List Gr} {j : Nat} (h : j < l.length) : gr l j ∈ l := by
  simp only [gr, List.getD, List.getElem?_eq_getElem h, Option.getD_some]
  exact List.getElem_mem h
theorem int_mem {l : List Int} {j : Nat} (h : j < l.length) : l.getD j 0 ∈ l := by
  simp only [List.getD, List.getElem?_eq_getElem h, Option.getD_some]
  exact List.getElem_mem h
theorem gr_pair {r : Gr → Gr → Prop} {l : List Gr} (h : l.Pairwise r) {i k : Nat} (hik : i < k) (hk : k < l.length) : r (gr l i) (gr l k) := by
  have := List.pairwise_iff_getElem.1 h i k (by omega) hk hik
  simpa [gr, List.getD, hk, show i < l.length by omega] using this
/-- All that is asked of the grants. -/
theorem py_all {x : Tm} {l : List Rs} (hz : ¬ holdF x = 0) (hf : ∀ j, j < l.length → FitR (rs l j)) (k : Nat) (hk : k = min l.length 60) :
    (1 ≤ x.t ∧ x.t ≤ 1000000) ∧ ((pyF x l k).o.length ≤ 60 ∧ (pyF x l k).a.length ≤ 60) ∧
    (∀ i, i < (pyF x l k).o.length → (0 ≤ (gr (pyF x l k).o i).n ∧ (gr (pyF x l k).o i).n ≤ 900) ∧ ¬ (gr (pyF x l k).o i).e = 0) ∧
    (∀ i, i < (pyF x l k).a.length → 0 ≤ (pyF x l k).a.getD i 0 ∧ (pyF x l k).a.getD i 0 ≤ 900) ∧
    (∀ i j, i < j → j < (pyF x l k).o.length → ¬ (gr (pyF x l k).o i).t = (gr (pyF x l k).o j).t → (gr (pyF x l k).o i).n + x.t ≤ (gr (pyF x l k).o j).n) ∧
    (∀ i j, i < j → j < (pyF x l k).o.length → (gr (pyF x l k).o i).e ≤ (gr (pyF x l k).o j).e ∧ ((gr (pyF x l k).o i).e = (gr (pyF x l k).o j).e → (gr (pyF x l k).o i).t = (gr (pyF x l k).o j).t)) ∧
    (∀ i j, i < (pyF x l k).o.length → j < (pyF x l k).a.length → (gr (pyF x l k).o i).n ≤ (pyF x l k).a.getD j 0 ∨ (pyF x l k).a.getD j 0 + x.t ≤ (gr (pyF x l k).o i).n) := by
  obtain ⟨hb, h1, h2, _⟩ := hold_pos hz
  obtain ⟨b1, b2, _⟩ := (tmB_iff x).1 hb
  have hall := stp_all hf
  have hT : 0 < x.t := by omega
  have hI := pyI_all hT hall k (by simp; omega)
  have hn := plyP_now (T := x.t) hall k (by simp; omega)
  obtain ⟨p1, p2⟩ := plyP_pos hT hall k (by simp; omega)
  have hfew := plyP_few x.t (l.map stp) k
  have hI' : PyI x.t (pyF x l k) := hI
  have hn' : (pyF x l k).n ≤ 15 * (k : Int) := hn
  have p1' : ∀ g ∈ (pyF x l k).o, 0 ≤ g.n := p1
  have p2' : ∀ a ∈ (pyF x l k).a, 0 ≤ a := p2
  have hfew' : (pyF x l k).o.length ≤ k ∧ (pyF x l k).a.length ≤ k := hfew
  clear hI hn p1 p2 hfew
  generalize pyF x l k = p at *
  refine ⟨⟨b1, b2⟩, by omega, fun i hi => ?_, fun i hi => ?_, fun i j hij hj => gr_pair hI'.once hij hj, fun i j hij hj => gr_pair hI'.rise hij hj, fun i j hi hj => hI'.wait _ (gr_mem hi) _ (int_mem hj)⟩
  · have := p1' _ (gr_mem hi); have h3 := (hI'.fr _ (gr_mem hi)).1
    exact ⟨by omega, (hI'.ep _ (gr_mem hi)).2.1⟩
  · have := p2' _ (int_mem hi); have h3 := (hI'.ag _ (int_mem hi)).1
    omega
/-- The times at which it begins again, in their turn. -/
theorem py_again {x : Tm} {l : List Rs} {i k : Nat} (hi : i < k) (hk : k ≤ l.length) :
    (pyF x l (i + 1)).n = (pyF x l i).n + (rs l i).l % 16 ∧ (pyF x l (i + 1)).a.length = (if (rs l i).a = true then (pyF x l i).a.length + 1 else (pyF x l i).a.length) ∧
    ((rs l i).a = true → (pyF x l i).a.length < (pyF x l k).a.length ∧ (pyF x l k).a.getD (pyF x l i).a.length 0 = (pyF x l i).n + (rs l i).l % 16) := by
  have hs := stp_at (l := l) (k := i) (by omega)
  obtain ⟨h1, h2⟩ := plyP_again x.t (l.map stp) i
  rw [hs] at h1 h2
  refine ⟨h1, ?_, fun ha => ?_⟩
  · have h3 : (pyF x l (i + 1)).a = if (rs l i).a = true then (pyF x l i).a ++ [(pyF x l i).n + (rs l i).l % 16] else (pyF x l i).a := h2
    rw [h3]
    split <;> simp
  · have h3 := plyP_at x.t (l.map stp) hi (by rw [hs]; exact ha)
    rw [hs] at h3
    have h4 : (pyF x l k).a[(pyF x l i).a.length]? = some ((pyF x l i).n + (rs l i).l % 16) := h3
    obtain ⟨h5, h6⟩ := List.getElem?_eq_some_iff.1 h4
    exact ⟨h5, by simp only [List.getD, h4, Option.getD_some]⟩
end Go.Proofs.Ytlefnohcfnlejaa
