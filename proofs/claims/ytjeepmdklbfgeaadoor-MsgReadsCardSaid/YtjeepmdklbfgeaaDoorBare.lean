/-
  A message with the parts alone that its kind has.
-/
import Derived.Test.YtjeepmdklbfgeaaDoorBareA
import Derived.Test.YtjeepmdklbfgeaaDoorBareB
namespace Go.Proofs.YtjeepmdklbfgeaaDoor
open Go.Sort Go.RowKit Go.Proofs.YtjeepmdklbfgeaaDoor.Pure Go.Proofs.YtjeepmdklbfgeaaDoor.W Go.Proofs.YtjeepmdklbfgeaaDoor.W.Pure

/-- The message with its kind's parts alone. -/
def bareM (m : Mg) : Mg := (pof m.kd).foldl (fun x i => putP i m x) { zm with kd := m.kd, fr := m.fr, «to» := m.to }
theorem bare_any (m : Mg) (u : Value) (w : World) (h : MsgV w u m) (hk : 1 ≤ m.kd ∧ m.kd ≤ 12) : ∃ v, (∀ W : World, MsgV W u m → MsgV W v (bareM m)) ∧ ∀ W : World, Calls Tryd.prog 29 #[u] W fun e w' => e = .returned v ∧ Below W.heap.size W w' := by
  obtain ⟨A, cA, T, cT, rfl, hA, hT, l1, l2, l3⟩ := h
  obtain ⟨kd, fr, tt, sq, wh, ⟨ki, ks⟩, ns, tb, ep, bo, ak, ts, tn, gd⟩ := m
  simp only [] at *
  have hk' : kd = 1 ∨ kd = 2 ∨ kd = 3 ∨ kd = 4 ∨ kd = 5 ∨ kd = 6 ∨ kd = 7 ∨ kd = 8 ∨ kd = 9 ∨ kd = 10 ∨ kd = 11 ∨ kd = 12 := by omega
  clear hk
  rcases hk' with rfl | rfl | rfl | rfl | rfl | rfl | rfl | rfl | rfl | rfl | rfl | rfl
  · refine ⟨_, ?_, fun W => bare_1 fr tt sq wh ki ks A ns.length cA T tb.length cT ep bo ak ts tn gd W⟩
    rintro W ⟨A1, cA1, T1, cT1, e, hA1, hT1, _, _, _⟩
    simp only [mvv, Value.agg.injEq, Array.mk.injEq, List.cons.injEq, Value.slice.injEq, true_and, and_true] at e
    obtain ⟨⟨rfl, rfl⟩, rfl, rfl⟩ := e
    exact ⟨A, cA, none, 0, rfl, hA1, Lst.nil _ _, l1, Nat.zero_le _, Nat.zero_le _⟩
  · refine ⟨_, ?_, fun W => bare_2 fr tt sq wh ki ks A ns.length cA T tb.length cT ep bo ak ts tn gd W⟩
    rintro W ⟨A1, cA1, T1, cT1, e, hA1, hT1, _, _, _⟩
    simp only [mvv, Value.agg.injEq, Array.mk.injEq, List.cons.injEq, Value.slice.injEq, true_and, and_true] at e
    obtain ⟨⟨rfl, rfl⟩, rfl, rfl⟩ := e
    exact ⟨A, cA, none, 0, rfl, hA1, Lst.nil _ _, l1, Nat.zero_le _, Nat.zero_le _⟩
  · refine ⟨_, ?_, fun W => bare_3 fr tt sq wh ki ks A ns.length cA T tb.length cT ep bo ak ts tn gd W⟩
    rintro W ⟨A1, cA1, T1, cT1, e, hA1, hT1, _, _, _⟩
    simp only [mvv, Value.agg.injEq, Array.mk.injEq, List.cons.injEq, Value.slice.injEq, true_and, and_true] at e
    obtain ⟨⟨rfl, rfl⟩, rfl, rfl⟩ := e
    exact ⟨A, cA, none, 0, rfl, hA1, Lst.nil _ _, l1, Nat.zero_le _, Nat.zero_le _⟩
  · refine ⟨_, ?_, fun W => bare_4 fr tt sq wh ki ks A ns.length cA T tb.length cT ep bo ak ts tn gd W⟩
    rintro W ⟨A1, cA1, T1, cT1, e, hA1, hT1, _, _, _⟩
    simp only [mvv, Value.agg.injEq, Array.mk.injEq, List.cons.injEq, Value.slice.injEq, true_and, and_true] at e
    obtain ⟨⟨rfl, rfl⟩, rfl, rfl⟩ := e
    exact ⟨none, 0, none, 0, rfl, Ns.nil _ _, Lst.nil _ _, Nat.zero_le _, Nat.zero_le _, Nat.zero_le _⟩
  · refine ⟨_, ?_, fun W => bare_5 fr tt sq wh ki ks A ns.length cA T tb.length cT ep bo ak ts tn gd W⟩
    rintro W ⟨A1, cA1, T1, cT1, e, hA1, hT1, _, _, _⟩
    simp only [mvv, Value.agg.injEq, Array.mk.injEq, List.cons.injEq, Value.slice.injEq, true_and, and_true] at e
    obtain ⟨⟨rfl, rfl⟩, rfl, rfl⟩ := e
    exact ⟨none, 0, T, cT, rfl, Ns.nil _ _, hT1, Nat.zero_le _, l2, Nat.zero_le _⟩
  · refine ⟨_, ?_, fun W => bare_6 fr tt sq wh ki ks A ns.length cA T tb.length cT ep bo ak ts tn gd W⟩
    rintro W ⟨A1, cA1, T1, cT1, e, hA1, hT1, _, _, _⟩
    simp only [mvv, Value.agg.injEq, Array.mk.injEq, List.cons.injEq, Value.slice.injEq, true_and, and_true] at e
    obtain ⟨⟨rfl, rfl⟩, rfl, rfl⟩ := e
    exact ⟨none, 0, T, cT, rfl, Ns.nil _ _, hT1, Nat.zero_le _, l2, Nat.zero_le _⟩
  · refine ⟨_, ?_, fun W => bare_7 fr tt sq wh ki ks A ns.length cA T tb.length cT ep bo ak ts tn gd W⟩
    rintro W ⟨A1, cA1, T1, cT1, e, hA1, hT1, _, _, _⟩
    simp only [mvv, Value.agg.injEq, Array.mk.injEq, List.cons.injEq, Value.slice.injEq, true_and, and_true] at e
    obtain ⟨⟨rfl, rfl⟩, rfl, rfl⟩ := e
    exact ⟨none, 0, none, 0, rfl, Ns.nil _ _, Lst.nil _ _, Nat.zero_le _, Nat.zero_le _, Nat.zero_le _⟩
  · refine ⟨_, ?_, fun W => bare_8 fr tt sq wh ki ks A ns.length cA T tb.length cT ep bo ak ts tn gd W⟩
    rintro W ⟨A1, cA1, T1, cT1, e, hA1, hT1, _, _, _⟩
    simp only [mvv, Value.agg.injEq, Array.mk.injEq, List.cons.injEq, Value.slice.injEq, true_and, and_true] at e
    obtain ⟨⟨rfl, rfl⟩, rfl, rfl⟩ := e
    exact ⟨none, 0, none, 0, rfl, Ns.nil _ _, Lst.nil _ _, Nat.zero_le _, Nat.zero_le _, Nat.zero_le _⟩
  · refine ⟨_, ?_, fun W => bare_9 fr tt sq wh ki ks A ns.length cA T tb.length cT ep bo ak ts tn gd W⟩
    rintro W ⟨A1, cA1, T1, cT1, e, hA1, hT1, _, _, _⟩
    simp only [mvv, Value.agg.injEq, Array.mk.injEq, List.cons.injEq, Value.slice.injEq, true_and, and_true] at e
    obtain ⟨⟨rfl, rfl⟩, rfl, rfl⟩ := e
    exact ⟨none, 0, none, 0, rfl, Ns.nil _ _, Lst.nil _ _, Nat.zero_le _, Nat.zero_le _, Nat.zero_le _⟩
  · refine ⟨_, ?_, fun W => bare_10 fr tt sq wh ki ks A ns.length cA T tb.length cT ep bo ak ts tn gd W⟩
    rintro W ⟨A1, cA1, T1, cT1, e, hA1, hT1, _, _, _⟩
    simp only [mvv, Value.agg.injEq, Array.mk.injEq, List.cons.injEq, Value.slice.injEq, true_and, and_true] at e
    obtain ⟨⟨rfl, rfl⟩, rfl, rfl⟩ := e
    exact ⟨none, 0, none, 0, rfl, Ns.nil _ _, Lst.nil _ _, Nat.zero_le _, Nat.zero_le _, Nat.zero_le _⟩
  · refine ⟨_, ?_, fun W => bare_11 fr tt sq wh ki ks A ns.length cA T tb.length cT ep bo ak ts tn gd W⟩
    rintro W ⟨A1, cA1, T1, cT1, e, hA1, hT1, _, _, _⟩
    simp only [mvv, Value.agg.injEq, Array.mk.injEq, List.cons.injEq, Value.slice.injEq, true_and, and_true] at e
    obtain ⟨⟨rfl, rfl⟩, rfl, rfl⟩ := e
    exact ⟨none, 0, none, 0, rfl, Ns.nil _ _, Lst.nil _ _, Nat.zero_le _, Nat.zero_le _, l3⟩
  · refine ⟨_, ?_, fun W => bare_12 fr tt sq wh ki ks A ns.length cA T tb.length cT ep bo ak ts tn gd W⟩
    rintro W ⟨A1, cA1, T1, cT1, e, hA1, hT1, _, _, _⟩
    simp only [mvv, Value.agg.injEq, Array.mk.injEq, List.cons.injEq, Value.slice.injEq, true_and, and_true] at e
    obtain ⟨⟨rfl, rfl⟩, rfl, rfl⟩ := e
    exact ⟨none, 0, none, 0, rfl, Ns.nil _ _, Lst.nil _ _, Nat.zero_le _, Nat.zero_le _, l3⟩
end Go.Proofs.YtjeepmdklbfgeaaDoor
