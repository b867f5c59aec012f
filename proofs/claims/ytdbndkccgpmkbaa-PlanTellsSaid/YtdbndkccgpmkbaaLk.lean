/-
  The chapter's examples, what is light, and what comes in.
-/
import Derived.Test.YtdbndkccgpmkbaaCk
import Derived.Maps.OwnSet
import Derived.Deep.LoopGhost
import Derived.Test.YtdbndkccgpmkbaaLaw
namespace Go.Proofs.Ytdbndkccgpmkbaa
open Go.ChangeMaps (open_string)
open Go.Sort Go.ChangeShapes Go.WideShapes Go.ChangeAt Go.RowKit Go.Joins Go.Proofs.Ytdbndkccgpmkbaa.Pure

theorem Us.two (w : World) (x y : Pu) (t : TypeId) : Us (w.alloc (.cells #[.string x.t, .int .i64 x.n, .string y.t, .int .i64 y.n] t)) (some ⟨w.heap.size, 0, none⟩) [x, y] := by
  intro j hj
  refine ⟨_, rfl, by simp, ?_⟩
  match j, hj with
  | 0, _ => exact UAt.of fun r hr => by match r, hr with | 0, _ => go_simp; simp [us1, pu] | 1, _ => go_simp; simp [us1, pu]
  | 1, _ => exact UAt.of fun r hr => by match r, hr with | 0, _ => go_simp; simp [us1, pu] | 1, _ => go_simp; simp [us1, pu]
theorem Ss.two (w : World) (x y : ByteArray) (t : TypeId) : Ss (w.alloc (.cells #[.string x, .string y] t)) (some ⟨w.heap.size, 0, none⟩) [x, y] := by
  intro j hj
  refine ⟨_, rfl, by simp, ?_⟩
  match j, hj with
  | 0, _ => go_simp; rfl
  | 1, _ => go_simp; rfl
/-! ### what comes in -/
section
variable {H : Type} {enc : TypeId × Value → H}
theorem cellsTexts : Try.prog.cellsOf 62 = 1 := by kernel_rfl
theorem cellsPut : Try.prog.cellsOf 53 = 2 := by kernel_rfl
theorem cellsPuts : Try.prog.cellsOf 22 = 1 := by kernel_rfl
theorem ba_mem (l : List ByteArray) {j : Nat} (h : j < l.length) : ba l j ∈ l := by rw [ba_lt l h]; exact List.getElem_mem h
/-- Cells that read as texts. -/
theorem one_texts {W : World} {n : Nat} {cs : List Value} {x : DataW H × List MemPlace} (h : DataW.trod enc Try.prog W 0 (fun _ => true) true n 62 cs = some x) :
    ∃ (A : Option Addr) (c : Nat) (xs : List ByteArray), cs = [.slice A xs.length c] ∧ xs.length ≤ c ∧ c ≤ maxLen ∧ Ss W A xs ∧ Shrt xs := by
  rcases open_strings Try.underlying62 Try.underlying9 cellsStr h with ⟨hcs, hx⟩ | ⟨a, len, cap, zs, hcs, _, hl, hm, hz, hx, hcell, hsz⟩
  · exact ⟨none, 0, [], hcs, by simp, by simp, Ss.nil _ _, fun j hj => absurd hj (Nat.not_lt_zero j)⟩
  · simp only [if_true] at hz
    have hlen : (zs.take len).length = len := by simp; omega
    refine ⟨some a, cap, zs.take len, by rw [hlen, hcs], by omega, hm, fun j hj => ?_, fun j hj => hsz _ (List.mem_of_mem_take (ba_mem _ hj))⟩
    rw [hlen] at hj
    have hc := hcell j (by omega)
    refine ⟨a, rfl, by have := World.block_lt_of_cell? W _ hc; rwa [block_add] at this, ?_⟩
    rw [hc]
    simp [ba, List.getD, hj]
    rfl
/-- Two cells that read as what is put are that. -/
theorem one_pu {W : World} {n : Nat} {cs : List Value} {x : DataW H × List MemPlace} (h : DataW.trod enc Try.prog W 0 (fun _ => true) true n 53 cs = some x) :
    ∃ y : Pu, cs = [.string y.t, .int .i64 y.n] ∧ y.t.size ≤ maxLen := by
  have hl : cs.length = 2 := by
    obtain ⟨xs, n', _, _, hl, _⟩ := DataW.trod_struct Try.underlying53 h
    rw [hl, cellsPut]
  match cs, hl with
  | [c0, c1], _ =>
    obtain ⟨xs, n', _, hx, _, hlen, hg⟩ := DataW.trod_struct Try.underlying53 h
    match xs, hlen with
    | [y0, y1], _ =>
      have g0 : DataW.trod enc Try.prog W 0 (fun _ => true) true n' 9 ((([c0, c1] : List Value).drop 0).take (Try.prog.cellsOf 9)) = some y0 := hg 0 _ rfl
      have g1 : DataW.trod enc Try.prog W 0 (fun _ => true) true n' 3 ((([c0, c1] : List Value).drop 1).take (Try.prog.cellsOf 3)) = some y1 := hg 1 _ rfl
      rw [cellsStr] at g0
      rw [cellsInt] at g1
      simp only [List.drop_zero, List.drop_succ_cons, List.take_succ_cons, List.take_zero] at g0 g1
      obtain ⟨a, e0, _, w0⟩ := DataW.trod_string Try.underlying9 g0
      obtain ⟨b, e1, _, _⟩ := DataW.trod_int Try.underlying3 g1
      simp only [List.cons.injEq, and_true] at e0 e1
      subst e0 e1
      exact ⟨⟨a, b⟩, rfl, w0⟩
def ShrtU (l : List Pu) : Prop := ∀ j, j < l.length → (pu l j).t.size ≤ maxLen
theorem ShrtU.map {l : List Pu} (h : ShrtU l) : Shrt (l.map Pu.t) := fun j hj => by
  have hj' : j < l.length := by simpa using hj
  rw [ba_map l hj']
  exact h j hj'
theorem puts_of (W : World) (a : Addr) : ∀ m : Nat, (∀ i, i < m → ∃ y : Pu, UAt W (a.add (i * 2)) y ∧ y.t.size ≤ maxLen) → ∃ xs : List Pu, xs.length = m ∧ (∀ i, i < m → UAt W (a.add (i * 2)) (pu xs i)) ∧ ShrtU xs := by
  intro m
  induction m with
  | zero => intro _; exact ⟨[], rfl, fun i hi => absurd hi (Nat.not_lt_zero i), fun j hj => absurd hj (Nat.not_lt_zero j)⟩
  | succ m ih =>
    intro h
    obtain ⟨xs, hl, hx, hf⟩ := ih fun i hi => h i (by omega)
    obtain ⟨y, hy, hb⟩ := h m (by omega)
    have e1 : ∀ i, i < m → pu (xs ++ [y]) i = pu xs i := fun i hi => by simp [pu, List.getD, List.getElem?_append_left (show i < xs.length by omega)]
    have e2 : pu (xs ++ [y]) m = y := by simp [pu, List.getD, ← hl]
    refine ⟨xs ++ [y], by simp [hl], fun i hi => ?_, fun i hi => ?_⟩
    · by_cases e : i < m
      · rw [e1 i e]; exact hx i e
      · obtain rfl : i = m := by omega
        rw [e2]; exact hy
    · have hi' : i < m + 1 := by simpa [hl] using hi
      by_cases e : i < m
      · rw [e1 i e]; exact hf i (by omega)
      · obtain rfl : i = m := by omega
        rw [e2]; exact hb
theorem puts_trod {W : World} {fuel : Nat} {cs : List Value} {x : DataW H × List MemPlace} (h : DataW.trod enc Try.prog W 0 (fun _ => true) true fuel 22 cs = some x) :
    ∃ (A : Option Addr) (c : Nat) (xs : List Pu), cs = [.slice A xs.length c] ∧ xs.length ≤ c ∧ c ≤ maxLen ∧ Us W A xs ∧ ShrtU xs := by
  rcases Go.Deep.open_slice Try.underlying22 h with ⟨rfl, _⟩ | ⟨a, len, cap, m, n, D, Pl, rfl, _, hl, hm, hmm, _, hi⟩
  · exact ⟨none, 0, [], rfl, by simp, by simp, Us.nil _ _, fun j hj => absurd hj (Nat.not_lt_zero j)⟩
  · simp only [if_true] at hmm
    rw [cellsPut] at hi
    obtain ⟨xs, hxl, hx, hf⟩ := puts_of W a len fun i hil => by
      obtain ⟨cs', hc, ht⟩ := hi i (by omega)
      obtain ⟨y, rfl, hy⟩ := one_pu ht
      obtain ⟨_, _, hat⟩ := World.cells?_some hc
      exact ⟨y, ⟨hat 0 (by decide), hat 1 (by decide)⟩, hy⟩
    refine ⟨some a, cap, xs, by rw [hxl], by omega, hm, fun j hj => ⟨a, rfl, ?_, hx j (by omega)⟩, hf⟩
    have := World.block_lt_of_cell? W _ (hx j (by omega)).1
    rwa [block_add] at this
end
end Go.Proofs.Ytdbndkccgpmkbaa
