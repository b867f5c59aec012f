/-
  What the document's At, Diff and Apply come to, step by step: as mathematics.
-/
import Derived.Test.YtdbndkccgpmkbaaPa
import Derived.Test.YtdbndkccgpmkbaaPn
namespace Go.Proofs.Ytdbndkccgpmkbaa.Pure

theorem pu_cons_zero (p : Pu) (r : List Pu) : pu (p :: r) 0 = p := rfl
theorem pu_cons_succ (p : Pu) (r : List Pu) (j : Nat) : pu (p :: r) (j + 1) = pu r j := rfl
/-- The first one of that name. -/
theorem atP_here {t : ByteArray} : ∀ {l : List Pu} {k : Nat}, k < l.length → (∀ j, j < k → ¬ (pu l j).t = t) → (pu l k).t = t → atP l t = (pu l k).n
  | [], k, hk, _, _ => absurd hk (Nat.not_lt_zero k)
  | p :: r, 0, _, _, e => atP_on e
  | p :: r, k + 1, hk, h, e => by
    have h0 : ¬ p.t = t := h 0 (Nat.succ_pos k)
    rw [atP_off h0, pu_cons_succ]
    exact atP_here (by simpa using hk) (fun j hj => h (j + 1) (by omega)) e
theorem atP_nowhere {l : List Pu} {t : ByteArray} (h : ∀ j, j < l.length → ¬ (pu l j).t = t) : atP l t = -1 := atP_not fun p hp => by
  obtain ⟨j, hj, rfl⟩ := List.mem_iff_getElem.1 hp
  have := h j hj
  rwa [pu_lt l hj] at this
/-- One name more: what differs so far. -/
theorem difP_at (a b : List Pu) (L : List ByteArray) {i : Nat} (h : i < L.length) :
    (L.take (i + 1)).filterMap (difF a b) = (L.take i).filterMap (difF a b) ++ (if atP a (L.getD i ⟨#[]⟩) = atP b (L.getD i ⟨#[]⟩) then [] else [⟨L.getD i ⟨#[]⟩, atP a (L.getD i ⟨#[]⟩), atP b (L.getD i ⟨#[]⟩)⟩]) := by
  have e : L.getD i ⟨#[]⟩ = L[i] := by simp [List.getD, h]
  rw [List.take_succ_eq_append_getElem h, List.filterMap_append, e]
  congr 1
  unfold difF
  by_cases hc : atP a L[i] = atP b L[i] <;> simp [hc]
/-- One name more: what is put then so far. -/
theorem apP_at_name (a : List Pu) (l : List Mv) (L : List ByteArray) {i : Nat} (h : i < L.length) :
    (L.take (i + 1)).filterMap (apF a l) = (L.take i).filterMap (apF a l) ++ (if 0 ≤ goP l (atP a (L.getD i ⟨#[]⟩)) (L.getD i ⟨#[]⟩) then [⟨L.getD i ⟨#[]⟩, goP l (atP a (L.getD i ⟨#[]⟩)) (L.getD i ⟨#[]⟩)⟩] else []) := by
  have e : L.getD i ⟨#[]⟩ = L[i] := by simp [List.getD, h]
  rw [List.take_succ_eq_append_getElem h, List.filterMap_append, e]
  congr 1
  unfold apF
  by_cases hc : 0 ≤ goP l (atP a L[i]) L[i] <;> simp [hc]
theorem goP_snoc {d : Int} {t : ByteArray} : ∀ {l : List Mv} {m : Mv}, (∀ x ∈ l, ¬ x.t = m.t) → goP (l ++ [m]) d t = if m.t = t then m.g else goP l d t
  | [], m, _ => by
    by_cases h : m.t = t
    · rw [if_pos h, List.nil_append, goP_on h]
    · rw [if_neg h, List.nil_append, goP_off h]
  | x :: r, m, h => by
    rw [List.cons_append]
    by_cases hx : x.t = t
    · rw [goP_on hx, goP_on hx, if_neg]
      intro e
      exact h x (by simp) (by rw [hx, e])
    · rw [goP_off hx, goP_off hx]
      exact goP_snoc fun y hy => h y (by simp [hy])
/-- One move more, of tasks that rise: where it goes so far. -/
theorem goP_at {l : List Mv} (hr : RiseK (l.map (·.t))) (d : Int) (t : ByteArray) {k : Nat} (hk : k < l.length) :
    goP (l.take (k + 1)) d t = if (mv l k).t = t then (mv l k).g else goP (l.take k) d t := by
  rw [List.take_succ_eq_append_getElem hk, mv_lt l hk]
  refine goP_snoc fun x hx e => ?_
  obtain ⟨j, hj, rfl⟩ := List.mem_iff_getElem.1 hx
  rw [List.length_take] at hj
  rw [List.getElem_take] at e
  have := List.pairwise_iff_getElem.1 hr j k (by simp; omega) (by simpa using hk) (by omega)
  rw [List.getElem_map, List.getElem_map, e, ltS_irrefl] at this
  cases this
/-- A move of a name: stale, if it is not where it is moved from. -/
theorem sta_of {a : List Pu} {l : List Mv} {k : Nat} (hk : k < l.length) (h : ¬ (mv l k).f = atP a (mv l k).t) : staB a l = true := (staB_yes a l).2 ⟨mv l k, by rw [mv_lt l hk]; exact List.getElem_mem hk, h⟩
/-- All names are gone through: none is stale. -/
theorem sta_no {a : List Pu} {l : List Mv} (h : ∀ t ∈ namL a l, ∀ k, k < l.length → (mv l k).t = t → (mv l k).f = atP a t) : staB a l = false := (staB_no a l).2 fun m hm => by
  obtain ⟨k, hk, rfl⟩ := List.mem_iff_getElem.1 hm
  have hin : l[k].t ∈ namL a l := by
    unfold namL
    rw [uniK_mem, List.mem_append]
    exact Or.inr (List.mem_map_of_mem hm)
  have := h l[k].t hin k hk (by rw [mv_lt l hk])
  rwa [mv_lt l hk] at this
end Go.Proofs.Ytdbndkccgpmkbaa.Pure
