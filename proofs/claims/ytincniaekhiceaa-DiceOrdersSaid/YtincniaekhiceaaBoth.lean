/-
  The program and the document answer the same, whatever is asked.
-/
import Derived.Test.YtincniaekhiceaaLaw
namespace Go.Proofs.Ytincniaekhiceaa
open Go.RowKit Go.Proofs.Ytincniaekhiceaa.Pure

/-- The numbers that are looked at. -/
def cutL (xs : List Int) : List Int := xs.take 257
theorem cutL_len (xs : List Int) : (cutL xs).length ≤ 257 := by unfold cutL; rw [List.length_take]; omega
theorem cut_any (A : Option Addr) (c lo hi : Nat) (xs : List Int) (w : World) (hc : xs.length ≤ c) (hm : c ≤ maxLen) (h : Has w lo hi A xs) :
    ∀ W : World, Calls Try.prog 10 #[.slice A xs.length c] W fun e w' => e = .returned (.slice A (cutL xs).length c) ∧ W = w' := fun W => by
  rcases Nat.lt_or_ge 257 xs.length with hl | hl
  · obtain ⟨ad, rfl, _⟩ := h 0 (by omega)
    have e : (cutL xs).length = 257 := by unfold cutL; rw [List.length_take]; omega
    rw [e]
    exact cut_many ad _ c W hl hc hm
  · have e : (cutL xs).length = xs.length := by unfold cutL; rw [List.length_take]; omega
    rw [e]
    exact cut_few A _ c W hl

theorem below_both (s : ByteArray) (a m : Int) (hs : s.size ≤ 1000) : ∃ n x er : Int,
    (∀ W : World, Calls Try.prog 11 #[.agg #[.string s, .int .i64 a], .int .i64 m] W fun e w' => e = .returned (.tuple #[.int .i64 n, .agg #[.string s, .int .i64 x], .int .i64 er]) ∧ Below W.heap.size W w') ∧
    (∀ W : World, Calls Try.prog 12 #[.agg #[.string s, .int .i64 a], .int .i64 m] W fun e w' => e = .returned (.tuple #[.int .i64 n, .agg #[.string s, .int .i64 x], .int .i64 er]) ∧ Below W.heap.size W w') := by
  by_cases hbad : a < 0 ∨ (s.size : Int) < a
  · exact ⟨0, a, 1, fun W => below_bad s a m W hbad, fun W => rbelow_bad s a m W hbad⟩
  · obtain ⟨a, rfl⟩ : ∃ b : Nat, a = b := ⟨a.toNat, by omega⟩
    by_cases hm : m < 1 ∨ 256 < m
    · exact ⟨0, a, 1, fun W => below_out s a m W (by omega) hm, fun W => rbelow_out s a m W (by omega) hm⟩
    · obtain ⟨m, rfl⟩ : ∃ b : Nat, m = b := ⟨m.toNat, by omega⟩
      exact ⟨_, _, 0, fun W => below_yes s a m W hs (by omega) (by omega) (by omega), fun W => rbelow_yes s a m W hs (by omega) (by omega) (by omega)⟩

theorem check_both (s : ByteArray) (a : Int) : ∃ (er : Int) (b : Bool), (er == 0) = b ∧
    (∀ W : World, Calls Try.prog 13 #[.agg #[.string s, .int .i64 a]] W fun e w' => e = .returned (.int .i64 er) ∧ Below W.heap.size W w') ∧
    (∀ W : World, Calls Try.prog 14 #[.agg #[.string s, .int .i64 a]] W fun e w' => e = .returned (.bool b) ∧ Below W.heap.size W w') := by
  by_cases hbad : a < 0 ∨ (s.size : Int) < a
  · exact ⟨1, false, rfl, fun W => check_no s a W hbad, fun W => may_no s a W hbad⟩
  · obtain ⟨a, rfl⟩ : ∃ b : Nat, a = b := ⟨a.toNat, by omega⟩
    exact ⟨0, true, rfl, fun W => check_yes s a W (by omega), fun W => may_yes s a W (by omega)⟩

/-- What Shuffle, or Pick, answers: a slice that holds ys, dice at x, the error. -/
def Answers (W : World) (s : ByteArray) (ys : List Int) (x er : Int) (e : Ending) (w' : World) : Prop :=
  ∃ A c, e = .returned (.tuple #[.slice A ys.length c, .agg #[.string s, .int .i64 x], .int .i64 er]) ∧ ys.length ≤ c ∧ Has w' W.heap.size w'.heap.size A ys ∧ Below W.heap.size W w'

theorem Answers.none_ {W : World} {s : ByteArray} {x er : Int} {e : Ending} {w' : World} (h : e = .returned (.tuple #[.slice none 0 0, .agg #[.string s, .int .i64 x], .int .i64 er]) ∧ Below W.heap.size W w') : Answers W s [] x er e w' :=
  ⟨none, 0, h.1, Nat.le_refl _, Has.nil _ _ _ _, h.2⟩

theorem shuffle_both (s : ByteArray) (a : Int) (A : Option Addr) (c : Nat) (xs : List Int) (hs : s.size ≤ 1000) : ∃ (ys : List Int) (x er : Int), ys.length ≤ 256 ∧
    (∀ (W : World) (lo hi : Nat), Has W lo hi A xs → hi ≤ W.heap.size → Calls Try.prog 15 #[.agg #[.string s, .int .i64 a], .slice A xs.length c] W (Answers W s ys x er)) ∧
    (∀ (W : World) (lo hi : Nat), Has W lo hi A xs → hi ≤ W.heap.size → Calls Try.prog 16 #[.agg #[.string s, .int .i64 a], .slice A xs.length c] W (Answers W s ys x er)) := by
  by_cases hbad : a < 0 ∨ (s.size : Int) < a
  · exact ⟨[], a, 1, by simp, fun W _ _ _ _ => (shuffle_bad s a _ W hbad).mono fun _ _ h => .none_ h, fun W _ _ _ _ => (rshuffle_bad s a A _ c W hbad).mono fun _ _ h => .none_ h⟩
  · obtain ⟨a, rfl⟩ : ∃ b : Nat, a = b := ⟨a.toNat, by omega⟩
    by_cases hn : 256 < xs.length
    · exact ⟨[], a, 1, by simp, fun W _ _ _ _ => (shuffle_full s a A _ c W (by omega) hn).mono fun _ _ h => .none_ h, fun W _ _ _ _ => (rshuffle_full s a A _ c W (by omega) hn).mono fun _ _ h => .none_ h⟩
    · have hl := shufAll_len s.data.toList a xs
      refine ⟨(shufAll s.data.toList a xs).1, ((shufAll s.data.toList a xs).2 : Nat), 0, by omega, fun W lo hi h hh => ?_, fun W lo hi h hh => ?_⟩
      · refine (shuffle_yes s a c lo hi A xs W hs (by omega) (by omega) h hh).mono fun _ _ h => ?_
        obtain ⟨A', c', he, hc, hp⟩ := h
        exact ⟨A', c', by rw [hl]; exact he, by omega, hp⟩
      · refine (rshuffle_yes s a c lo hi A xs W hs (by omega) (by omega) h hh).mono fun _ _ h => ?_
        obtain ⟨A', c', he, hc, hp⟩ := h
        exact ⟨A', c', by rw [hl]; exact he, by omega, hp⟩

theorem pick_both (s : ByteArray) (a k : Int) (A : Option Addr) (c : Nat) (xs : List Int) (hs : s.size ≤ 1000) (hk : k ≤ 9223372036854775807) : ∃ (ys : List Int) (x er : Int), ys.length ≤ 256 ∧
    (∀ (W : World) (lo hi : Nat), Has W lo hi A xs → hi ≤ W.heap.size → Calls Try.prog 18 #[.agg #[.string s, .int .i64 a], .slice A xs.length c, .int .i64 k] W (Answers W s ys x er)) ∧
    (∀ (W : World) (lo hi : Nat), Has W lo hi A xs → hi ≤ W.heap.size → Calls Try.prog 19 #[.agg #[.string s, .int .i64 a], .slice A xs.length c, .int .i64 k] W (Answers W s ys x er)) := by
  by_cases hbad : a < 0 ∨ (s.size : Int) < a
  · refine ⟨[], a, 1, by simp, fun W _ _ _ _ => ?_, fun W _ _ _ _ => (rpick_bad s a k A _ c W hbad).mono fun _ _ h => .none_ h⟩
    by_cases hk0 : k < 0
    · exact (pick_neg s a k _ W hk0).mono fun _ _ h => .none_ h
    · exact (pick_no s a k A _ c W (by omega) fun W => shuffle_bad s a _ W hbad).mono fun _ _ h => .none_ h
  · obtain ⟨a, rfl⟩ : ∃ b : Nat, a = b := ⟨a.toNat, by omega⟩
    by_cases hn : 256 < xs.length
    · refine ⟨[], a, 1, by simp, fun W _ _ _ _ => ?_, fun W _ _ _ _ => (rpick_full s a k A _ c W (by omega) hn).mono fun _ _ h => .none_ h⟩
      by_cases hk0 : k < 0
      · exact (pick_neg s a k _ W hk0).mono fun _ _ h => .none_ h
      · exact (pick_no s a k A _ c W (by omega) fun W => shuffle_full s a A _ c W (by omega) hn).mono fun _ _ h => .none_ h
    · by_cases hk0 : k < 0
      · exact ⟨[], a, 1, by simp, fun W _ _ _ _ => (pick_neg s a k _ W hk0).mono fun _ _ h => .none_ h, fun W _ _ _ _ => (rpick_neg s a k A _ c W (by omega) (by omega) hk0).mono fun _ _ h => .none_ h⟩
      · obtain ⟨k, rfl⟩ : ∃ b : Nat, k = b := ⟨k.toNat, by omega⟩
        have hl := shufAll_len s.data.toList a xs
        exact ⟨(shufAll s.data.toList a xs).1.take k, ((shufAll s.data.toList a xs).2 : Nat), 0, by rw [List.length_take]; omega,
          fun W lo hi h hh => pick_yes s a c lo hi k A xs W hs (by omega) (by omega) (by omega) h hh, fun W lo hi h hh => rpick_yes s a c lo hi k A xs W hs (by omega) (by omega) (by omega) h hh⟩

/-- The law's variables: the dice, and the dice then, of the program and of the document. -/
structure St (w W : World) (s : ByteArray) (a : Int) (bx b_y : Nat) (x y : Int) : Prop where
  d : Box W w.heap.size s a
  x : Box W bx s x
  y : Box W b_y s y
  b : Below w.heap.size w W
  lx : w.heap.size < bx
  ly : bx < b_y

section
variable {w W W' : World} {s : ByteArray} {a x y : Int} {bx b_y : Nat}
theorem St.on (h : St w W s a bx b_y x y) (hb : Below W.heap.size W W') : St w W' s a bx b_y x y := ⟨h.d.on hb, h.x.on hb, h.y.on hb, h.b.trans (hb.mono h.b.size), h.lx, h.ly⟩
theorem St.putx (h : St w W s a bx b_y x y) (x' : Int) : St w ((W.setCell ⟨bx, 0, none⟩ (.string s)).setCell ⟨bx, 1, none⟩ (.int .i64 x')) s a bx b_y x' y := by
  have h1 := h.lx
  have h2 := h.ly
  exact ⟨(h.d.far (by simp; omega) _).far (by simp; omega) _, h.x.put s x', (h.y.far (by simp; omega) _).far (by simp; omega) _, (h.b.setCell (by simp; omega) _).setCell (by simp; omega) _, h1, h2⟩
theorem St.puty (h : St w W s a bx b_y x y) (y' : Int) : St w ((W.setCell ⟨b_y, 0, none⟩ (.string s)).setCell ⟨b_y, 1, none⟩ (.int .i64 y')) s a bx b_y x y' := by
  have h1 := h.lx
  have h2 := h.ly
  exact ⟨(h.d.far (by simp; omega) _).far (by simp; omega) _, (h.x.far (by simp; omega) _).far (by simp; omega) _, h.y.put s y', (h.b.setCell (by simp; omega) _).setCell (by simp; omega) _, h1, h2⟩
theorem St.drew (h : St w W s a bx b_y x y) : St w W.drew s a bx b_y x y := ⟨h.d, h.x, h.y, h.b.drew, h.lx, h.ly⟩
end

/-- A call that leaves the world as it was, in a region that only reads. -/
theorem quiet_eq {P : Program} {f : FuncId} {args : Array Value} {w : World} {n : Nat} {v : Value}
    (h : ∀ W : World, W.heap = w.heap → Calls P f args W fun e w' => e = .returned v ∧ W = w') : Calls P f args (w.drewN n) fun e w' => e = .returned v ∧ ∃ m, w' = w.drewN m :=
  (h (w.drewN n) rfl).mono fun _ _ hh => ⟨hh.1, n, hh.2.symm⟩
end Go.Proofs.Ytincniaekhiceaa
