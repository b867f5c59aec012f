/-
  What is put of nodes, spots and tasks that are few enough: what follows, as mathematics.
-/
import Derived.Test.YthcjjogomknddaaDoorLk
namespace Go.Proofs.YthcjjogomknddaaDoor
open Go.Sort Go.RowKit Go.Proofs.YthcjjogomknddaaDoor.Pure

section
variable {xs : List Int} {s : Nat} {l : List ByteArray}
theorem Lgt.room (h : Lgt xs (s : Int) l) : Room (wlkA xs s) xs (boundN l.length xs.length) l := room_of h.nod h.x1 (by have := h.s1; omega) l l (Nat.le_refl _)
theorem Lgt.rise (h : Lgt xs (s : Int) l) : RiseK l := ((tasksB_iff _ _).1 h.tsk).2.2
theorem lb_len (xs : List Int) (s : Nat) (l : List ByteArray) : (asgA2 xs s l).length = l.length := asg_len _ _ _
theorem lb_at (xs : List Int) (s : Nat) (l : List ByteArray) {i : Nat} (hi : i < l.length) : (pu (asgA2 xs s l) i).t = ba l i := by
  show (pu (asg (wlkA xs s) (boundN l.length xs.length) l) i).t = _
  rw [asg_at _ _ _ hi]
  rfl
theorem lb_map (xs : List Int) (s : Nat) (l : List ByteArray) : (asgA2 xs s l).map Pu.t = l := by
  refine List.ext_getElem (by rw [List.length_map, lb_len]) fun i h1 h2 => ?_
  have := lb_at xs s l h2
  rw [pu_lt _ (by rw [lb_len]; exact h2), ba_lt l h2] at this
  rw [List.getElem_map]
  exact this
theorem lb_in (h : Lgt xs (s : Int) l) {i : Nat} (hi : i < l.length) : (pu (asgA2 xs s l) i).n ∈ xs := by
  have := asg_nodes h.room l.length (Nat.le_refl _)
  rw [List.take_length] at this
  refine this _ ?_
  rw [pu_lt _ (by rw [asg_len]; exact hi)]
  exact List.getElem_mem _
theorem many_one {xs : List Int} (hn : nodesB xs = true) {y : Int} (hy : y ∈ xs) : many xs y = 1 := by
  have h2 := (((numsB_iff _).1 (nodesB_nums hn)).2).count (a := y)
  rw [if_pos hy] at h2
  exact h2
theorem lb_most (h : Lgt xs (s : Int) l) (x : Int) : cnt (asgA2 xs s l) x ≤ boundN l.length xs.length := by
  have := asg_most h.room x l.length (Nat.le_refl _)
  rwa [List.take_length] at this
theorem lb_put (h : Lgt xs (s : Int) l) : putB (asgA2 xs s l) = true := by
  unfold putB
  rw [lb_map, h.tsk, Bool.and_true, List.all_eq_true]
  intro p hp
  obtain ⟨i, hi, rfl⟩ := List.mem_iff_getElem.1 hp
  have hi' : i < l.length := by rw [← lb_len xs s l]; exact hi
  have := nodes_in h.nod _ (lb_in h hi')
  rw [pu_lt _ hi] at this
  rw [nodB_iff]
  omega
theorem lb_ne (h : Lgt xs (s : Int) l) {i j : Nat} (hij : i < j) (hj : j < l.length) : ¬ ba l i = ba l j := ltS_ne (rise_two h.rise hij hj)
theorem lb_find (h : Lgt xs (s : Int) l) {i : Nat} (hi : i < l.length) : (asgA2 xs s l).findIdx (fun p => decide (p.t = ba l i)) = i := by
  have hi2 : i < (asgA2 xs s l).length := by rw [lb_len]; exact hi
  rw [List.findIdx_eq hi2]
  refine ⟨?_, fun j hj => ?_⟩
  · have := lb_at xs s l hi
    rw [pu_lt _ hi2] at this
    exact decide_eq_true this
  · have hj2 : j < (asgA2 xs s l).length := by omega
    have := lb_at xs s l (i := j) (by omega)
    rw [pu_lt _ hj2] at this
    rw [this]
    exact decide_eq_false (lb_ne h hj hi)
theorem lb_of (h : Lgt xs (s : Int) l) {i : Nat} (hi : i < l.length) : ofI (asgA2 xs s l) (ba l i) = (pu (asgA2 xs s l) i).n ∧ ofE (asgA2 xs s l) (ba l i) = 0 := by
  unfold ofI ofE
  rw [lb_find h hi, lb_put h, lb_len, if_pos hi, if_pos hi, if_pos rfl]
  exact ⟨rfl, rfl⟩
/-- A name that is none of them. -/
theorem lb_none (h : Lgt xs (s : Int) l) {t : ByteArray} (ht : t ∉ l) : ofI (asgA2 xs s l) t = 0 ∧ ofE (asgA2 xs s l) t = 6 := by
  have hf : ¬ (asgA2 xs s l).findIdx (fun p => decide (p.t = t)) < (asgA2 xs s l).length := by
    intro hc
    have := List.findIdx_getElem (w := hc)
    rw [decide_eq_true_eq] at this
    have hc2 : (asgA2 xs s l).findIdx (fun p => decide (p.t = t)) < l.length := by rw [← lb_len xs s l]; exact hc
    have h2 := lb_at xs s l hc2
    rw [pu_lt _ hc, this] at h2
    exact ht (by rw [h2]; exact ba_mem l hc2)
  unfold ofI ofE
  rw [if_neg hf, lb_put h, if_pos rfl, if_neg hf]
  exact ⟨rfl, rfl⟩
theorem lb_there (h : Lgt xs (s : Int) l) {t : ByteArray} (ht : t ∈ l) : ofE (asgA2 xs s l) t = 0 := by
  obtain ⟨i, hi, rfl⟩ := List.mem_iff_getElem.1 ht
  have := (lb_of h hi).2
  rwa [ba_lt l hi] at this
theorem nodup_getD {l : List Int} (hn : l.Nodup) {i j : Nat} (hij : i < j) (hj : j < l.length) : ¬ l.getD i 0 = l.getD j 0 := by
  have := (List.pairwise_iff_getElem.1 (List.nodup_iff_pairwise_ne.1 hn)) i j (by omega) hj hij
  rw [List.getD, List.getElem?_eq_getElem (show i < l.length by omega), List.getD, List.getElem?_eq_getElem hj]
  exact this
/-- First come. -/
theorem lb_first (h : Lgt xs (s : Int) l) {i : Nat} (hi : i < l.length) : ∃ q, q < (wlkA xs s (ba l i)).length ∧ (wlkA xs s (ba l i)).getD q 0 = (pu (asgA2 xs s l) i).n ∧
    ∀ j, j < q → ¬ (wlkA xs s (ba l i)).getD j 0 = (pu (asgA2 xs s l) i).n ∧ cnt (asgA2 xs s l) ((wlkA xs s (ba l i)).getD j 0) = boundN l.length xs.length := by
  have hf := asg_found h.room hi
  have e : (pu (asgA2 xs s l) i).n = nextF (wlkA xs s (ba l i)) (asg (wlkA xs s) (boundN l.length xs.length) (l.take i)) (boundN l.length xs.length) := by
    show (pu (asg (wlkA xs s) (boundN l.length xs.length) l) i).n = _
    rw [asg_at _ _ _ hi]
    rfl
  refine ⟨atF (wlkA xs s (ba l i)) (asg (wlkA xs s) (boundN l.length xs.length) (l.take i)) (boundN l.length xs.length), hf.1, by rw [e]; rfl, fun j hj => ⟨?_, asg_first h.room hi hj⟩⟩
  rw [e]
  intro he
  exact nodup_getD (walk_nodup _ _) hj hf.1 he
/-- A task by itself. -/
theorem lb_one (h : Lgt xs (s : Int) l) (t : ByteArray) : ∃ x r, wlkA xs s t = x :: r ∧ asgA2 xs s [t] = [⟨t, x⟩] := by
  have hl : (wlkA xs s t).length = xs.length := pts_walk_len (nodesB_nums h.nod) (by have := h.s1; omega) (sumK t)
  rcases hw : wlkA xs s t with _ | ⟨x, r⟩
  · rw [hw] at hl; have := h.x1; simp at hl; omega
  · exact ⟨x, r, rfl, asg_one (wlkA xs s) ((bound_pos h.x1).2 (by simp)) t hw⟩
/-- All on one node. -/
theorem lb_all (h : Lgt xs (s : Int) l) (x : Int) (hx : x ∈ xs) : cnt (asgA2 [x] s l) x = l.length :=
  asg_all (wlkA [x] s) (boundN l.length 1) l x (fun t _ => (pts_one x (nodes_in h.nod x hx) (by have := h.s1; omega) (sumK t)).1) (by have := bound_holds (t := l.length) (n := 1) (by decide); omega)
theorem nodes_one (x : Int) (h : 0 ≤ x ∧ x < 64) : nodesB [x] = true := (nodB_iff x).2 (by omega)
/-- Those behind play no part, where the bound is the same. -/
theorem lb_ahead (xs : List Int) (s : Nat) (l : List ByteArray) (k : Nat) (hk : k ≤ l.length) (hb : boundN l.length xs.length = boundN k xs.length) : (asgA2 xs s l).take k = asgA2 xs s (l.take k) := by
  show (asg (wlkA xs s) (boundN l.length xs.length) l).take k = asg (wlkA xs s) (boundN (l.take k).length xs.length) (l.take k)
  rw [asg_take, List.length_take, Nat.min_eq_left hk, hb]
theorem tsk_take {l : List ByteArray} (h : tskB l = true) (k : Nat) : tskB (l.take k) = true := by
  rw [tasksB_iff] at h ⊢
  obtain ⟨h1, h2, h3⟩ := h
  exact ⟨by rw [List.length_take]; omega, fun t ht => h2 t (List.mem_of_mem_take ht), List.Pairwise.sublist (List.take_sublist k l) h3⟩
theorem tsk_one {l : List ByteArray} (h : tskB l = true) {i : Nat} (hi : i < l.length) : tskB [ba l i] = true := by
  rw [tasksB_iff] at h ⊢
  exact ⟨by simp, fun t ht => by rw [List.mem_singleton.1 ht]; exact h.2.1 _ (ba_mem l hi), by simp [RiseK]⟩
end
end Go.Proofs.YthcjjogomknddaaDoor
