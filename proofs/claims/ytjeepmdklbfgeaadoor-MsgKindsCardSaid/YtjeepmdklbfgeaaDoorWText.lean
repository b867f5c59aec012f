/-
  The walks of Text and TakeText, of the program and of the document.
-/
import Derived.Test.YtjeepmdklbfgeaaDoorWRnum
import Derived.Test.YtjeepmdklbfgeaaDoorWRtake
import Derived.WalkSpells
namespace Go.Proofs.YtjeepmdklbfgeaaDoor.W
open Go.RowKit Go.Proofs.YtjeepmdklbfgeaaDoor.W.Pure

theorem ret_text {a b : ByteArray} {k l : Int} (h : a = b) (h' : k = l) : Ending.returned (.tuple #[.string a, .int .i64 k]) = .returned (.tuple #[.string b, .int .i64 l]) := by rw [h, h']
/-- A text's octets. -/
def textOf (t : ByteArray) : ByteArray := ⟨(num t.size).toArray⟩ ++ t

set_option maxRecDepth 100000 in
set_option maxHeartbeats 1000000 in
theorem text_in (t : ByteArray) (w : World) (ht : t.size ≤ 200) :
    Calls Tryd.prog 109 #[.string t] w fun e w' => e = .returned (.tuple #[.string (textOf t), .int .i64 0]) ∧ Below w.heap.size w w' := by
  have hn := num_le t.size
  obtain ⟨u, hu⟩ : ∃ u : ByteArray, u = ⟨(num t.size).toArray⟩ := ⟨_, rfl⟩
  have hul : u.size ≤ 10 := by rw [hu]; show (num t.size).toArray.size ≤ 10; simpa using hn
  have HC := Lib.hid (fun (W : World) => num_one t.size w.heap.size W (by omega))
  rw [← hu] at HC
  have HU := Lib.hid hu
  clear hu hn
  go_enter Tryd.func109, Tryd.ntmps109
  go_wp2_with fail
  refine (HC.out _ (by simp) (by go_simp)).mono ?_
  rintro e w' ⟨rfl, hb⟩
  go_wp2
  go_ret2
  exact ⟨ret_text (by rw [HU.out]; rfl) rfl, ((Below.refl _ _).alloc (Nat.le_refl _) _).trans (hb.mono (by simp))⟩

set_option maxRecDepth 100000 in
set_option maxHeartbeats 1000000 in
theorem text_not (t : ByteArray) (w : World) (hs : t.size ≤ 140737488351232) (ht : 200 < t.size) :
    Calls Tryd.prog 109 #[.string t] w fun e w' => e = .returned (.tuple #[.string ⟨#[]⟩, .int .i64 4]) ∧ w = w' := by
  go_enter Tryd.func109, Tryd.ntmps109
  go_wp2
  go_ret2
  exact ⟨rfl, rfl⟩

set_option maxRecDepth 100000 in
set_option maxHeartbeats 1000000 in
theorem rtext_in (t : ByteArray) (w : World) (ht : t.size ≤ 200) :
    Calls Tryd.prog 42 #[.string t] w fun e w' => e = .returned (.string (textOf t)) ∧ Below w.heap.size w w' := by
  have hn := num_le t.size
  obtain ⟨u, hu⟩ : ∃ u : ByteArray, u = ⟨(num t.size).toArray⟩ := ⟨_, rfl⟩
  have hul : u.size ≤ 10 := by rw [hu]; show (num t.size).toArray.size ≤ 10; simpa using hn
  have HC := Lib.hid (fun (W : World) => rnum_one t.size W (by omega))
  rw [← hu] at HC
  have HU := Lib.hid hu
  clear hu hn
  go_enter Tryd.func42, Tryd.ntmps42
  go_wp2_with (go_at_call 43; refine (HC.out _).mono ?_; rintro e w' ⟨rfl, hb⟩)
  go_ret
  exact ⟨ret_str (by rw [HU.out]; rfl), hb⟩

/-- What is taken of a text: of the octets s, from a on. -/
def textL (s : ByteArray) (a : Nat) (r : Nat × Nat × Nat) : ByteArray × Nat × Nat :=
  if r.2.2 ≠ 0 then (⟨#[]⟩, 0, r.2.2)
  else if 200 < r.1 then (⟨#[]⟩, 0, 4)
  else if s.size < a + r.2.1 + r.1 then (⟨#[]⟩, 0, 3)
  else (s.extract (a + r.2.1) (a + r.2.1 + r.1), a + r.2.1 + r.1, 0)
def textV (r : ByteArray × Nat × Nat) : Value := .tuple #[.string r.1, .int .i64 (r.2.1 : Int), .int .i64 (r.2.2 : Int)]

theorem takeL_fits : ∀ (l : List UInt8) (i n : Nat), (takeL l i n).2.2 = 0 → (takeL l i n).2.1 ≤ i + l.length ∧ 1 ≤ (takeL l i n).2.1 := by
  intro l
  induction l with
  | nil => intro i n h; simp [takeL] at h
  | cons o r ih =>
    intro i n h
    rw [takeL] at h ⊢
    split at h
    · simp at h
    · rename_i h1
      rw [if_neg h1]
      split at h
      · rename_i h2
        rw [if_pos h2]
        exact ⟨by simp only [List.length_cons]; omega, by show 1 ≤ i + 1; omega⟩
      · rename_i h2
        rw [if_neg h2]
        have := ih _ _ h
        exact ⟨by simp only [List.length_cons]; omega, this.2⟩

set_option maxRecDepth 100000 in
set_option maxHeartbeats 1000000 in
theorem taketext_in (s : ByteArray) (a : Nat) (w : World) (hs : s.size ≤ 140737488351232) (ha : a ≤ s.size) :
    Calls Tryd.prog 110 #[.string s, .int .i64 a] w fun e w' => e = .returned (textV (textL s a (takeL (s.data.toList.drop a) 0 0))) ∧ w = w' := by
  have hm : s.size ≤ maxLen := by unfold maxLen; omega
  have hfit := takeL_fits (s.data.toList.drop a) 0 0
  have HC := Lib.hid (fun W => take_in s a W hm ha)
  have hlen : (s.data.toList.drop a).length = s.size - a := by simp
  rw [hlen] at hfit
  generalize hr : takeL (s.data.toList.drop a) 0 0 = r at *
  obtain ⟨n, p, k⟩ := r
  clear hr hlen hm
  simp only [takeV] at HC
  simp only at hfit
  by_cases hk : k = 0
  · subst hk
    obtain ⟨hp, hp1⟩ := hfit rfl
    by_cases h200 : 200 < n
    · have hv : Hid (textL s a (n, p, 0) = (⟨#[]⟩, 0, 4)) := Lib.hid (by simp [textL, h200])
      clear hfit
      go_enter Tryd.func110, Tryd.ntmps110
      go_wp2_with fail
      refine (HC.out _).mono ?_
      rintro e w' ⟨rfl, rfl⟩
      go_wp2
      go_ret3
      exact ⟨by rw [hv.out]; rfl, rfl⟩
    · by_cases hsz : s.size < a + p + n
      · have hv : Hid (textL s a (n, p, 0) = (⟨#[]⟩, 0, 3)) := Lib.hid (by simp [textL, h200, hsz])
        clear hfit
        go_enter Tryd.func110, Tryd.ntmps110
        go_wp2_with fail
        refine (HC.out _).mono ?_
        rintro e w' ⟨rfl, rfl⟩
        go_wp2
        go_ret3
        exact ⟨by rw [hv.out]; rfl, rfl⟩
      · have hv : Hid (textL s a (n, p, 0) = (s.extract (a + p) (a + p + n), a + p + n, 0)) := Lib.hid (by simp [textL, h200, hsz])
        clear hfit
        go_enter Tryd.func110, Tryd.ntmps110
        go_wp2_with fail
        refine (HC.out _).mono ?_
        rintro e w' ⟨rfl, rfl⟩
        go_wp2
        go_ret3
        exact ⟨by rw [hv.out]; rfl, rfl⟩
  · have hv : Hid (textL s a (n, p, k) = (⟨#[]⟩, 0, k)) := Lib.hid (by simp [textL, hk])
    have hk' : ((k : Int) == 0) = false := by rw [beq_eq_false_iff_ne]; omega
    have hk'' : ((k : Int) != 0) = true := by rw [bne_iff_ne]; omega
    clear hfit
    go_enter Tryd.func110, Tryd.ntmps110
    go_wp2_with fail
    refine (HC.out _).mono ?_
    rintro e w' ⟨rfl, rfl⟩
    go_wp2
    go_ret3
    exact ⟨by rw [hv.out]; rfl, rfl⟩
set_option maxRecDepth 100000 in
set_option maxHeartbeats 1000000 in
theorem rtaketext_in (s : ByteArray) (a : Nat) (w : World) (hs : s.size ≤ 140737488351232) (ha : a ≤ s.size) :
    Calls Tryd.prog 46 #[.string s, .int .i64 a] w fun e w' => e = .returned (textV (textL s a (takeL (s.data.toList.drop a) 0 0))) ∧ w = w' := by
  have hfit := takeL_fits (s.data.toList.drop a) 0 0
  have HC := Lib.hid (fun W => rtake_in s a W hs ha)
  have hlen : (s.data.toList.drop a).length = s.size - a := by simp
  rw [hlen] at hfit
  generalize hr : takeL (s.data.toList.drop a) 0 0 = r at *
  obtain ⟨n, p, k⟩ := r
  clear hr hlen
  simp only [takeV] at HC
  simp only at hfit
  by_cases hk : k = 0
  · subst hk
    obtain ⟨hp, hp1⟩ := hfit rfl
    by_cases h200 : 200 < n
    · have hv : Hid (textL s a (n, p, 0) = (⟨#[]⟩, 0, 4)) := Lib.hid (by simp [textL, h200])
      clear hfit
      go_enter Tryd.func46, Tryd.ntmps46
      go_wp2_with fail
      refine (HC.out _).mono ?_
      rintro e w' ⟨rfl, rfl⟩
      go_wp2
      go_ret3
      exact ⟨by rw [hv.out]; rfl, rfl⟩
    · by_cases hsz : s.size < a + p + n
      · have hv : Hid (textL s a (n, p, 0) = (⟨#[]⟩, 0, 3)) := Lib.hid (by simp [textL, h200, hsz])
        clear hfit
        go_enter Tryd.func46, Tryd.ntmps46
        go_wp2_with fail
        refine (HC.out _).mono ?_
        rintro e w' ⟨rfl, rfl⟩
        go_wp2
        go_ret3
        exact ⟨by rw [hv.out]; rfl, rfl⟩
      · have hv : Hid (textL s a (n, p, 0) = (s.extract (a + p) (a + p + n), a + p + n, 0)) := Lib.hid (by simp [textL, h200, hsz])
        clear hfit
        go_enter Tryd.func46, Tryd.ntmps46
        go_wp2_with fail
        refine (HC.out _).mono ?_
        rintro e w' ⟨rfl, rfl⟩
        go_wp2
        go_ret3
        exact ⟨by rw [hv.out]; rfl, rfl⟩
  · have hv : Hid (textL s a (n, p, k) = (⟨#[]⟩, 0, k)) := Lib.hid (by simp [textL, hk])
    have hk' : ((k : Int) == 0) = false := by rw [beq_eq_false_iff_ne]; omega
    have hk'' : ((k : Int) != 0) = true := by rw [bne_iff_ne]; omega
    clear hfit
    go_enter Tryd.func46, Tryd.ntmps46
    go_wp2_with fail
    refine (HC.out _).mono ?_
    rintro e w' ⟨rfl, rfl⟩
    go_wp2
    go_ret3
    exact ⟨by rw [hv.out]; rfl, rfl⟩
set_option maxRecDepth 100000 in
set_option maxHeartbeats 1000000 in
theorem taketext_not (s : ByteArray) (a : Int) (w : World) (hs : s.size ≤ 140737488351232) (ha : a < 0 ∨ (s.size : Int) < a) :
    Calls Tryd.prog 110 #[.string s, .int .i64 a] w fun e w' => e = .returned (textV (⟨#[]⟩, 0, 1)) ∧ w = w' := by
  have HC := Lib.hid (fun W => take_not s a W (by unfold maxLen; omega) ha)
  simp only [takeV] at HC
  clear ha
  go_enter Tryd.func110, Tryd.ntmps110
  go_wp2_with fail
  refine (HC.out _).mono ?_
  rintro e w' ⟨rfl, rfl⟩
  go_wp2
  go_ret3
  exact ⟨rfl, rfl⟩

set_option maxRecDepth 100000 in
set_option maxHeartbeats 1000000 in
theorem rtaketext_not (s : ByteArray) (a : Int) (w : World) (hs : s.size ≤ 140737488351232) (ha : a < 0 ∨ (s.size : Int) < a) :
    Calls Tryd.prog 46 #[.string s, .int .i64 a] w fun e w' => e = .returned (textV (⟨#[]⟩, 0, 1)) ∧ w = w' := by
  have HC := Lib.hid (fun W => rtake_not s a W hs ha)
  simp only [takeV] at HC
  clear ha
  go_enter Tryd.func46, Tryd.ntmps46
  go_wp2_with fail
  refine (HC.out _).mono ?_
  rintro e w' ⟨rfl, rfl⟩
  go_wp2
  go_ret3
  exact ⟨rfl, rfl⟩

end Go.Proofs.YtjeepmdklbfgeaaDoor.W
