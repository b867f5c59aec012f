/-
  What stays where some blocks are written; the cells of a block that may be written.
-/
import Derived.Test.YtjeepmdklbfgeaaDoorBase
import Derived.Test.YtjeepmdklbfgeaaDoorMsgD
import Derived.Laws.RangeAny
import Derived.Test.YtjeepmdklbfgeaaDoorWire
import Derived.Test.YtjeepmdklbfgeaaDoorTcheck
import Derived.Shelf.Abstract
namespace Go.Proofs.YtjeepmdklbfgeaaDoor
open Go.Sort Go.RowKit Go.Proofs.YtjeepmdklbfgeaaDoor.Pure

set_option maxRecDepth 100000 in
set_option maxHeartbeats 1000000 in
theorem isnode_any (n : Int) (w : World) : Calls Tryd.prog 26 #[.int .i64 n] w fun e w' => e = .returned (.bool (isN n)) ∧ w = w' := by
  unfold isN
  by_cases h0 : 0 ≤ n
  · have e0 : decide (0 ≤ n) = true := by simpa using h0
    go_enter Tryd.func26, Tryd.ntmps26
    go_wp2
    go_ret
    exact ⟨by simp [h0], rfl⟩
  · have e0 : decide (0 ≤ n) = false := by simpa using h0
    go_enter Tryd.func26, Tryd.ntmps26
    go_wp2
    go_ret
    exact ⟨by simp, rfl⟩
set_option maxRecDepth 100000 in
set_option maxHeartbeats 1000000 in
theorem rnode_any (n : Int) (w : World) : Calls Tryd.prog 28 #[.int .i64 n] w fun e w' => e = .returned (.bool (isN n)) ∧ w = w' := by
  have hN : isN n = (decide (0 ≤ n) && decide (n ≤ 63)) := by
    unfold isN
    congr 1
    exact decide_eq_decide.2 (by omega)
  rw [hN]
  clear hN
  by_cases h0 : 0 ≤ n
  · have e0 : decide (0 ≤ n) = true := by simpa using h0
    go_enter Tryd.func28, Tryd.ntmps28
    go_wp2
    go_ret
    exact ⟨by simp [h0], rfl⟩
  · have e0 : decide (0 ≤ n) = false := by simpa using h0
    go_enter Tryd.func28, Tryd.ntmps28
    go_wp2
    go_ret
    exact ⟨by simp, rfl⟩
/-- Does it stand in names? -/
def inC (c : Nat) : Bool := decide (97 ≤ c ∧ c ≤ 122) || decide (48 ≤ c ∧ c ≤ 57) || decide (c = 45)
theorem inName_is (o : UInt8) : inName o = inC o.toNat := rfl
theorem inC_cases (c : Nat) : (97 ≤ c ∧ c ≤ 122 ∧ inC c = true) ∨ (122 < c ∧ inC c = false) ∨ (57 < c ∧ c < 97 ∧ inC c = false) ∨ (48 ≤ c ∧ c ≤ 57 ∧ inC c = true) ∨ (c = 45 ∧ inC c = true) ∨ (c < 48 ∧ c ≠ 45 ∧ inC c = false) := by
  unfold inC
  by_cases h1 : 97 ≤ c
  · by_cases h2 : c ≤ 122
    · simp [h1, h2]
    · right; left; simp; omega
  · by_cases h3 : 57 < c
    · right; right; left; simp; omega
    · by_cases h4 : 48 ≤ c
      · right; right; right; left; simp; omega
      · by_cases h5 : c = 45
        · subst h5; simp
        · right; right; right; right; right; simp; omega
set_option maxRecDepth 100000 in
set_option maxHeartbeats 2000000 in
theorem innames_any (c : Nat) (w : World) : Calls Tryd.prog 36 #[.int .i32 (c : Int)] w fun e w' => e = .returned (.bool (inC c)) ∧ w = w' := by
  rcases inC_cases c with ⟨h1, h2, e⟩ | ⟨h1, e⟩ | ⟨h1, h2, e⟩ | ⟨h1, h2, e⟩ | ⟨rfl, e⟩ | ⟨h1, h2, e⟩ <;> rw [e] <;> clear e
  all_goals
    go_enter Tryd.func36, Tryd.ntmps36
    go_wp2
    go_ret
    first | exact ⟨rfl, rfl⟩ | (refine ⟨?_, rfl⟩; simp; omega)
theorem at_list (s : ByteArray) (j : Nat) (h : j < s.size) (h' : j < s.data.toList.length) : s.data.toList[j]'h' = s[j]'h := by
  simp
  rfl
theorem all_at (s : ByteArray) (p : UInt8 → Bool) : s.data.toList.all p = true ↔ ∀ j, (h : j < s.size) → p s[j] = true := by
  rw [List.all_eq_true]
  constructor
  · intro h j hj
    have hj' : j < s.data.toList.length := by simpa using hj
    have := h _ (List.getElem_mem hj')
    rwa [at_list s j hj hj'] at this
  · intro h x hx
    obtain ⟨j, hj, rfl⟩ := List.mem_iff_getElem.1 hx
    have hj' : j < s.size := by simpa using hj
    rw [at_list s j hj' hj]
    exact h j hj'
theorem all_not (s : ByteArray) (p : UInt8 → Bool) (j : Nat) (h : j < s.size) (hp : p s[j] = false) : s.data.toList.all p = false := by
  rcases e : s.data.toList.all p with _ | _
  · rfl
  · rw [(all_at s p).1 e j h] at hp; cases hp
set_option maxRecDepth 100000 in
set_option maxHeartbeats 2000000 in
theorem name_any (s : ByteArray) (w : World) (hs : s.size ≤ 140737488351232) : Calls Tryd.prog 15 #[.string s] w fun e w' => e = .returned (.bool (nameB s)) ∧ Below w.heap.size w w' := by
  by_cases h1 : s.size < 1
  · have e : nameB s = false := by unfold nameB; simp; omega
    rw [e]
    go_enter Tryd.func15, Tryd.ntmps15
    go_wp2
    go_ret
    exact ⟨rfl, Below.refl _ _⟩
  by_cases h2 : 20 < s.size
  · have e : nameB s = false := by unfold nameB; simp; omega
    rw [e]
    go_enter Tryd.func15, Tryd.ntmps15
    go_wp2
    go_ret
    exact ⟨rfl, Below.refl _ _⟩
  have HE : Hid (nameB s = s.data.toList.all inName) := Lib.hid (by
    unfold nameB
    have : (decide (1 ≤ s.size) && decide (s.size ≤ 20)) = true := by simp; omega
    rw [this, Bool.and_true])
  have HC := Lib.hid innames_any
  go_enter Tryd.func15, Tryd.ntmps15
  go_wp2
  go_loopw [4] (fun _ w' => ∃ pos : Nat, w' = w.iter s pos ∧ pos ≤ s.size ∧ Hid (∀ j, (h : j < s.size) → j < pos → inName s[j] = true)) (fun _ w' => s.size - w'.iterPos w.heap.size)
  case atStart => exact ⟨0, rfl, Nat.zero_le _, Lib.hid fun j _ h => absurd h (Nat.not_lt_zero j)⟩
  case round =>
    obtain ⟨pos, rfl, hle, hok⟩ := hrel
    by_cases hp : pos < s.size
    · have hnx : ∀ ty, (Instr.next (.pointer (some ⟨w.heap.size, 0, none⟩)) true ty).run Tryd.prog (w.iter s pos) = _ := fun ty => run_next_any w s pos ty hp
      by_cases ha : (s[pos]'hp).toNat < 128
      · rw [decode_ascii s pos hp ha] at hnx
        simp only [] at hnx
        rcases hB : inName s[pos] with _ | _
        · have hF : nameB s = false := by
            rw [HE.out]
            exact all_not s inName pos hp hB
          have HC2 := Lib.hid (fun W => HC.out (s[pos]'hp).toNat W)
          rw [← inName_is, hB] at HC2
          generalize (s[pos]'hp).toNat = c at *
          clear hB
          go_wp2_with (go_at_call 36; refine (HC2.out _).mono ?_; rintro e w1 ⟨rfl, rfl⟩)
          go_ret
          rw [hF]
          exact ⟨rfl, (Below.refl _ _).alloc (Nat.le_refl _) _⟩
        · have HC2 := Lib.hid (fun W => HC.out (s[pos]'hp).toNat W)
          rw [← inName_is, hB] at HC2
          have hok2 : Hid (∀ j, (h : j < s.size) → j < pos + 1 → inName s[j] = true) := Lib.hid fun j h hj => by
            rcases Nat.lt_or_ge j pos with h' | h'
            · exact hok.out j h h'
            · obtain rfl : j = pos := by omega
              exact hB
          generalize (s[pos]'hp).toNat = c at *
          clear hB
          go_wp2_with (go_at_call 36; refine (HC2.out _).mono ?_; rintro e w1 ⟨rfl, rfl⟩)
          go_roundw
          case rel => exact ⟨pos + 1, rfl, by omega, hok2⟩
          case measure => simp; omega
      · have hd := (decode_high s pos hp (by omega)).1
        have hF : nameB s = false := by
          rw [HE.out]
          refine all_not s inName pos hp ?_
          rw [inName_is]
          unfold inC
          simp; omega
        have HC2 := Lib.hid (fun W => HC.out (Utf8.decode s pos).1 W)
        have hI : inC (Utf8.decode s pos).1 = false := by unfold inC; simp; omega
        rw [hI] at HC2
        generalize (Utf8.decode s pos).1 = c at *
        generalize (Utf8.decode s pos).2 = v at *
        clear hI hd
        go_wp2_with (go_at_call 36; refine (HC2.out _).mono ?_; rintro e w1 ⟨rfl, rfl⟩)
        go_ret
        rw [hF]
        exact ⟨rfl, (Below.refl _ _).alloc (Nat.le_refl _) _⟩
    · have hnx : ∀ ty, (Instr.next (.pointer (some ⟨w.heap.size, 0, none⟩)) true ty).run Tryd.prog (w.iter s pos) = _ := fun ty => run_next_end w s pos ty hp
      have hT : nameB s = true := by
        rw [HE.out, all_at]
        exact fun j hj => hok.out j hj (by omega)
      go_wp2
      go_ret
      rw [hT]
      exact ⟨rfl, (Below.refl _ _).alloc (Nat.le_refl _) _⟩
set_option maxRecDepth 100000 in
set_option maxHeartbeats 2000000 in
theorem rname_any (s : ByteArray) (w : World) (hs : s.size ≤ 140737488351232) : Calls Tryd.prog 16 #[.string s] w fun e w' => e = .returned (.bool (nameB s)) ∧ w = w' := by
  go_enter Tryd.func16, Tryd.ntmps16
  go_wp2
  go_loop [3] (fun i => ∃ k : Nat, i = .int .i64 k ∧ k ≤ s.size ∧ Hid (∀ j, (h : j < s.size) → j < k → inName s[j] = true)) (fun i => s.size - (intOf i).toNat)
  case atStart => exact ⟨0, rfl, Nat.zero_le _, Lib.hid fun j _ h => absurd h (Nat.not_lt_zero j)⟩
  case round =>
    obtain ⟨k, rfl, hle, hok⟩ := hrel
    by_cases hp : k < s.size
    · have ho := (s[k]'hp).toNat_lt
      rcases hB : inName s[k] with _ | _
      · have hF : nameB s = false := by
          unfold nameB
          rw [all_not s inName k hp hB, Bool.false_and]
        rw [inName_is] at hB
        generalize hc : (s[k]'hp).toNat = c at *
        rcases inC_cases c with ⟨h1, h2, e⟩ | ⟨h1, e⟩ | ⟨h1, h2, e⟩ | ⟨h1, h2, e⟩ | ⟨h0, e⟩ | ⟨h1, h2, e⟩ <;> first | (rw [e] at hB; cases hB; done) | skip
        all_goals
          clear hB e
          first | have d1 : decide ((c : Int) ≤ 122) = true := (by simp; omega) | have d1 : decide ((c : Int) ≤ 122) = false := (by simp; omega)
          first | have d2 : decide ((c : Int) ≤ 57) = true := (by simp; omega) | have d2 : decide ((c : Int) ≤ 57) = false := (by simp; omega)
          first | have d3 : ((c : Int) == 45) = false := (by simp; omega) | have d3 : ((c : Int) == 45) = true := (by simp; omega)
          go_wp2
          go_ret
          first | exact ⟨rfl, rfl⟩ | (rw [hF]; exact ⟨rfl, rfl⟩)
      · have hok2 : Hid (∀ j, (h : j < s.size) → j < k + 1 → inName s[j] = true) := Lib.hid fun j h hj => by
          rcases Nat.lt_or_ge j k with h' | h'
          · exact hok.out j h h'
          · obtain rfl : j = k := by omega
            exact hB
        rw [inName_is] at hB
        generalize hc : (s[k]'hp).toNat = c at *
        rcases inC_cases c with ⟨h1, h2, e⟩ | ⟨h1, e⟩ | ⟨h1, h2, e⟩ | ⟨h1, h2, e⟩ | ⟨h0, e⟩ | ⟨h1, h2, e⟩ <;> first | (rw [e] at hB; cases hB; done) | skip
        all_goals
          clear hB e
          first | have d1 : decide ((c : Int) ≤ 122) = true := (by simp; omega) | have d1 : decide ((c : Int) ≤ 122) = false := (by simp; omega)
          first | have d2 : decide ((c : Int) ≤ 57) = true := (by simp; omega) | have d2 : decide ((c : Int) ≤ 57) = false := (by simp; omega)
          first | have d3 : ((c : Int) == 45) = false := (by simp; omega) | have d3 : ((c : Int) == 45) = true := (by simp; omega)
          go_wp2
          go_round
          case rel => exact ⟨k + 1, by go_num, by omega, hok2⟩
          case measure => simp [intOf]; omega
    · have e0 : decide ((k : Int) < (s.size : Int)) = false := by simp; omega
      have e0' : decide (k < s.size) = false := by simpa using hp
      have hT : s.data.toList.all inName = true := by
        rw [all_at]
        exact fun j hj => hok.out j hj (by omega)
      have HE : Hid (nameB s = (decide (1 ≤ s.size) && decide (s.size ≤ 20))) := Lib.hid (by unfold nameB; rw [hT, Bool.true_and])
      clear hT
      by_cases h1 : 1 ≤ s.size
      · have e1 : decide (1 ≤ s.size) = true := by simpa using h1
        rw [e1, Bool.true_and] at HE
        by_cases h2 : s.size ≤ 20
        · go_wp2
          go_ret
          rw [HE.out]
          exact ⟨by simp [h2]; omega, rfl⟩
        · go_wp2
          go_ret
          rw [HE.out]
          exact ⟨by simp [h2]; omega, rfl⟩
      · have e1 : decide (1 ≤ s.size) = false := by simpa using h1
        rw [e1, Bool.false_and] at HE
        go_wp2
        go_ret
        rw [HE.out]
        exact ⟨rfl, rfl⟩
end Go.Proofs.YtjeepmdklbfgeaaDoor

namespace Go.Proofs.YtjeepmdklbfgeaaDoor
open Go.Sort Go.RowKit Go.Proofs.YtjeepmdklbfgeaaDoor.Pure Go.Proofs.YtjeepmdklbfgeaaDoor.W Go.Proofs.YtjeepmdklbfgeaaDoor.W.Pure

/-- Octets as a text. -/
def tx (l : List UInt8) : ByteArray := ⟨l.toArray⟩
theorem tx_app (a b : List UInt8) : tx a ++ tx b = tx (a ++ b) := ByteArray.mk_append_mk a b
theorem tx_size (a : List UInt8) : (tx a).size = a.length := by show a.toArray.size = _; simp
theorem tx_list (a : List UInt8) : (tx a).data.toList = a := by simp [tx]
theorem ret_tx {a b : ByteArray} (h : a = b) : Ending.returned (.string a) = .returned (.string b) := by rw [h]
theorem nums1 (a : Nat) : nums [a] = num a := by simp [nums]
theorem nums2 (a b : Nat) : nums [a, b] = num a ++ num b := by simp [nums]
theorem nums3 (a b c : Nat) : nums [a, b, c] = num a ++ (num b ++ num c) := by simp [nums]
/-- Of one number, two, three, which lie at the head of a block. -/
theorem tnum1 (a g : Nat) (w : World) (ha : a < 2 ^ 64) (hg : g < w.heap.size) (h0 : w.cell? ⟨g, 0, none⟩ = some (.int .u64 a)) :
    Calls Tryd.prog 22 #[.slice (some ⟨g, 0, none⟩) 1 1] w fun e w' => e = .returned (.string (tx (num a))) ∧ Below w.heap.size w w' := num_one a g w ha hg h0
theorem tnum2 (a b g : Nat) (w : World) (ha : a < 2 ^ 64) (hb : b < 2 ^ 64) (hg : g < w.heap.size) (h0 : w.cell? ⟨g, 0, none⟩ = some (.int .u64 a)) (h1 : w.cell? ⟨g, 1, none⟩ = some (.int .u64 b)) :
    Calls Tryd.prog 22 #[.slice (some ⟨g, 0, none⟩) 2 2] w fun e w' => e = .returned (.string (tx (num a ++ num b))) ∧ Below w.heap.size w w' := by
  have h := num_any (some ⟨g, 0, none⟩) 2 [a, b] w (by simp) (by simpa using ⟨ha, hb⟩) (fun j hj => ⟨⟨g, 0, none⟩, rfl, hg, by
    match j, hj with
    | 0, _ => simpa [Addr.add] using h0
    | 1, _ => simpa [Addr.add] using h1⟩)
  rw [nums2] at h
  exact h
theorem tnum3 (a b c g : Nat) (w : World) (ha : a < 2 ^ 64) (hb : b < 2 ^ 64) (hc : c < 2 ^ 64) (hg : g < w.heap.size) (h0 : w.cell? ⟨g, 0, none⟩ = some (.int .u64 a)) (h1 : w.cell? ⟨g, 1, none⟩ = some (.int .u64 b)) (h2 : w.cell? ⟨g, 2, none⟩ = some (.int .u64 c)) :
    Calls Tryd.prog 22 #[.slice (some ⟨g, 0, none⟩) 3 3] w fun e w' => e = .returned (.string (tx (num a ++ (num b ++ num c)))) ∧ Below w.heap.size w w' := by
  have h := num_any (some ⟨g, 0, none⟩) 3 [a, b, c] w (by simp) (by simpa using ⟨ha, hb, hc⟩) (fun j hj => ⟨⟨g, 0, none⟩, rfl, hg, by
    match j, hj with
    | 0, _ => simpa [Addr.add] using h0
    | 1, _ => simpa [Addr.add] using h1
    | 2, _ => simpa [Addr.add] using h2⟩)
  rw [nums3] at h
  exact h
theorem num_le' (n : Nat) : (num n).length ≤ 10 := num_le n
theorem layK_le (x : Kn) : (layK x).length ≤ 20 := by
  unfold layK; rw [List.length_append]; have := num_le x.i.toNat; have := num_le x.s.toNat; omega
theorem layN_le (x : Nw) : (layN x).length ≤ 30 := by
  unfold layN; rw [List.length_append]; have := num_le x.w.toNat; have := layK_le x.k; omega
theorem flat_le {α : Type} (f : α → List UInt8) (c : Nat) (hf : ∀ x, (f x).length ≤ c) (l : List α) : (l.flatMap f).length ≤ c * l.length := by
  induction l with
  | nil => simp
  | cons x l ih => rw [List.flatMap_cons, List.length_append, List.length_cons, Nat.mul_succ]; have := hf x; omega

set_option maxRecDepth 100000 in
set_option maxHeartbeats 4000000 in
theorem layknow_any (x : Kn) (w : World) (hf : Fit x) (hm : mayK x = true) : Calls Tryd.prog 65 #[.agg #[.int .u64 x.i, .int .i64 x.s]] w fun e w' => e = .returned (.string (tx (layK x))) ∧ Below w.heap.size w w' := by
  obtain ⟨f1, f2⟩ := hf
  obtain ⟨m1, m2⟩ := (mayK_iff x).1 hm
  obtain ⟨n, hn⟩ : ∃ n : Nat, x.i = (n : Int) := ⟨x.i.toNat, (nat_of f1).symm⟩
  obtain ⟨k, hk⟩ : ∃ k : Nat, x.s = (k : Int) := ⟨x.s.toNat, (nat_of m1).symm⟩
  have hL : layK x = num n ++ num k := by unfold layK; rw [hn, hk]; rfl
  rw [hn] at f2
  rw [hk] at m2
  rw [hL, hn, hk]
  have HC := Lib.hid (fun (W : World) (g : Nat) => tnum2 n k g W (by omega) (by omega))
  generalize num n ++ num k = L at *
  clear hL hn hk hm f1 m1
  go_enter Tryd.func65, Tryd.ntmps65
  go_wp2_with fail
  refine (HC.out _ _ (by simp) (by go_simp) (by go_simp)).mono ?_
  rintro e w' ⟨rfl, hb⟩
  go_wp2
  go_ret
  exact ⟨rfl, (((Below.refl _ _).alloc (Nat.le_refl _) _).alloc (by simp) _).trans (hb.mono (by simp; omega))⟩
set_option maxRecDepth 100000 in
set_option maxHeartbeats 4000000 in
theorem laynews_any (y : Nw) (w : World) (hf : Fit y.k) (hm : oneB y = true) : Calls Tryd.prog 73 #[.agg #[.int .i64 y.w, .int .u64 y.i, .int .i64 y.s]] w fun e w' => e = .returned (.string (tx (layN y))) ∧ Below w.heap.size w w' := by
  obtain ⟨m1, m2, m3, m4⟩ := (oneB_iff y).1 hm
  have HK := Lib.hid (fun (W : World) => layknow_any y.k W hf (by rw [mayK_iff]; exact ⟨m3, m4⟩))
  obtain ⟨d, hd⟩ : ∃ d : Nat, y.w = (d : Int) := ⟨y.w.toNat, (nat_of m1).symm⟩
  have hL : tx (layN y) = tx (num d) ++ tx (layK y.k) := by rw [tx_app]; unfold layN; rw [hd]; rfl
  rw [hd] at m2
  have HC := Lib.hid (fun (W : World) (g : Nat) => tnum1 d g W (by omega))
  have s1 : (tx (num d)).size ≤ 10 := by rw [tx_size]; exact num_le d
  have s2 : (tx (layK y.k)).size ≤ 20 := by rw [tx_size]; exact layK_le y.k
  rw [hL, hd]
  obtain ⟨x, hx⟩ : ∃ x : Kn, x = y.k := ⟨_, rfl⟩
  have hi : y.i = x.i := by rw [hx]; rfl
  have hs : y.s = x.s := by rw [hx]; rfl
  rw [hi, hs]
  rw [← hx] at HK s2
  rw [← hx]
  generalize tx (num d) = L1 at *
  generalize tx (layK x) = L2 at *
  clear hL hi hs hx hd hm hf m1 m3 m4
  have hW : IntKind.u64.wrap (d : Int) = (d : Int) := IntWalk.u64_in _ ⟨by omega, by omega⟩
  have hAdd : ¬ 9223372036854775807 < L1.size + L2.size := by omega
  go_enter Tryd.func73, Tryd.ntmps73
  go_upto_region 1 with (fail)
  have hB : Below w.heap.size w (w.alloc (.cells #[.int .i64 (d : Int), .int .u64 x.i, .int .i64 x.s] 63)) := (Below.refl _ _).alloc (Nat.le_refl _) _
  have c0 : (w.alloc (.cells #[.int .i64 (d : Int), .int .u64 x.i, .int .i64 x.s] 63)).cell? ⟨w.heap.size, 0, none⟩ = some (.int .i64 (d : Int)) := by go_simp
  have c1 : (w.alloc (.cells #[.int .i64 (d : Int), .int .u64 x.i, .int .i64 x.s] 63)).cell? ⟨w.heap.size, 1, none⟩ = some (.int .u64 x.i) := by go_simp
  have c2 : (w.alloc (.cells #[.int .i64 (d : Int), .int .u64 x.i, .int .i64 x.s] 63)).cell? ⟨w.heap.size, 2, none⟩ = some (.int .i64 x.s) := by go_simp
  have hsz : w.heap.size < (w.alloc (.cells #[.int .i64 (d : Int), .int .u64 x.i, .int .i64 x.s] 63)).heap.size := by simp
  generalize w.alloc (.cells #[.int .i64 (d : Int), .int .u64 x.i, .int .i64 x.s] 63) = w2 at *
  refine z_enter [(0, true), (1, true), (2, true), (5, true), (6, true), (3, false), (4, false), (7, false), (8, true), (9, true)] (fun w' => w'.cell? ⟨w.heap.size, 0, none⟩ = some (.int .i64 (d : Int)) ∧ w'.cell? ⟨w.heap.size, 1, none⟩ = some (.int .u64 x.i) ∧ w'.cell? ⟨w.heap.size, 2, none⟩ = some (.int .i64 x.s)) (by kernel_rfl) (by kernel_rfl) (by kernel_rfl) (fun _ _ d _ _ h => by cases d <;> exact h) ⟨c0, c1, c2⟩ ?_
  simp only [pickL, List.drop_succ_cons, List.drop_zero]
  have hB0 : Hid (Below w.heap.size w w2.drew) := Lib.hid (hB.trans ⟨rfl, rfl, rfl, Nat.le_refl _, fun _ _ => rfl⟩)
  have hsz0 : w.heap.size < w2.drew.heap.size := hsz
  have C0 : Hid (w2.drew.cell? ⟨w.heap.size, 0, none⟩ = some (.int .i64 (d : Int)) ∧ w2.drew.cell? ⟨w.heap.size, 1, none⟩ = some (.int .u64 x.i) ∧ w2.drew.cell? ⟨w.heap.size, 2, none⟩ = some (.int .i64 x.s)) := Lib.hid ⟨c0, c1, c2⟩
  clear hB c0 c1 c2 hsz
  generalize w2.drew = w3 at *
  iterate 5 (first | (refine' z_yes ?_ (by rfl) ?_ ?_; rotate_left; (intro w' hS; (try dsimp only at hS); go_simp; try (with_reducible rfl)); simp only [Act.put, List.setIfInBounds_toArray, List.set_cons_zero, List.set_cons_succ]) | (refine z_no (by rfl) ?_; simp only [Act.put, List.setIfInBounds_toArray, List.set_cons_zero, List.set_cons_succ]))
  refine z_mem ?_
  intro K hK
  go_simp
  have hB1 : Hid (Below w.heap.size w (w3.alloc (.cells #[.int .u64 (d : Int)] 22))) := Lib.hid (hB0.out.alloc (Nat.le_of_lt hsz0) _)
  have C1 : Hid ((w3.alloc (.cells #[.int .u64 (d : Int)] 22)).cell? ⟨w.heap.size, 0, none⟩ = some (.int .i64 (d : Int)) ∧ (w3.alloc (.cells #[.int .u64 (d : Int)] 22)).cell? ⟨w.heap.size, 1, none⟩ = some (.int .u64 x.i) ∧ (w3.alloc (.cells #[.int .u64 (d : Int)] 22)).cell? ⟨w.heap.size, 2, none⟩ = some (.int .i64 x.s)) := Lib.hid (by
    have hb : Below w3.heap.size w3 (w3.alloc (.cells #[.int .u64 (d : Int)] 22)) := (Below.refl _ _).alloc (Nat.le_refl _) _
    exact ⟨(hb.cell hsz0).trans C0.out.1, (hb.cell hsz0).trans C0.out.2.1, (hb.cell hsz0).trans C0.out.2.2⟩)
  have hN : (w3.alloc (.cells #[.int .u64 (d : Int)] 22)).cell? ⟨w3.heap.size, 0, none⟩ = some (.int .u64 (d : Int)) := by go_simp
  have hsz1 : w.heap.size < (w3.alloc (.cells #[.int .u64 (d : Int)] 22)).heap.size := by simp; omega
  have hg : w3.heap.size < (w3.alloc (.cells #[.int .u64 (d : Int)] 22)).heap.size := by simp
  generalize w3.alloc (.cells #[.int .u64 (d : Int)] 22) = w4 at *
  generalize w3.heap.size = g at *
  refine hK.out _ _ C1.out ?_
  clear hK C0 hB0 hsz0
  refine z_mem ?_
  intro K hK
  go_simp
  refine (HC.out _ _ hg hN).mono ?_
  rintro e w5 ⟨rfl, hb⟩
  have hB2 : Hid (Below w.heap.size w w5) := Lib.hid (hB1.out.trans (hb.mono hB1.out.size))
  have C2 : Hid (w5.cell? ⟨w.heap.size, 0, none⟩ = some (.int .i64 (d : Int)) ∧ w5.cell? ⟨w.heap.size, 1, none⟩ = some (.int .u64 x.i) ∧ w5.cell? ⟨w.heap.size, 2, none⟩ = some (.int .i64 x.s)) := Lib.hid ⟨(hb.cell hsz1).trans C1.out.1, (hb.cell hsz1).trans C1.out.2.1, (hb.cell hsz1).trans C1.out.2.2⟩
  have hsz2 : w.heap.size < w5.heap.size := Nat.lt_of_lt_of_le hsz1 hb.size
  refine hK.out _ _ C2.out ?_
  clear hK C1 hB1 hsz1 hb hN hg
  refine z_mem ?_
  intro K hK
  go_simp
  refine (HK.out _).mono ?_
  rintro e w6 ⟨rfl, hb⟩
  have hB3 : Hid (Below w.heap.size w w6) := Lib.hid (hB2.out.trans (hb.mono hB2.out.size))
  have C3 : Hid (w6.cell? ⟨w.heap.size, 0, none⟩ = some (.int .i64 (d : Int)) ∧ w6.cell? ⟨w.heap.size, 1, none⟩ = some (.int .u64 x.i) ∧ w6.cell? ⟨w.heap.size, 2, none⟩ = some (.int .i64 x.s)) := Lib.hid ⟨(hb.cell hsz2).trans C2.out.1, (hb.cell hsz2).trans C2.out.2.1, (hb.cell hsz2).trans C2.out.2.2⟩
  refine hK.out _ _ C3.out ?_
  clear hK C2 hB2 hsz2 hb
  iterate 2 (first | (refine' z_yes ?_ (by rfl) ?_ ?_; rotate_left; (intro w' hS; (try dsimp only at hS); go_simp; try (with_reducible rfl)); simp only [Act.put, List.setIfInBounds_toArray, List.set_cons_zero, List.set_cons_succ]) | (refine z_no (by rfl) ?_; simp only [Act.put, List.setIfInBounds_toArray, List.set_cons_zero, List.set_cons_succ]))
  refine z_nil ?_
  go_wp2_with fail
  go_ret
  exact ⟨rfl, hB3.out⟩
set_option maxRecDepth 100000 in
set_option maxHeartbeats 4000000 in
theorem laylist_Know (A : Option Addr) (c : Nat) (l : List Kn) (w : World) (hn : l.length ≤ 64) (h : Lst w A l) (hf : ∀ y ∈ l, Fit y) (hm : ∀ y ∈ l, mayK y = true) :
    Calls Tryd.prog 81 #[.slice A l.length c, .func (.func 65) #[] #[]] w fun e w' => e = .returned (.string (tx (num l.length ++ l.flatMap layK))) ∧ Below w.heap.size w w' := by
  have H := Lib.hid h
  have HY := Lib.hid (fun (y : Kn) (hy : y ∈ l) (W : World) => layknow_any y W (hf y hy) (hm y hy))
  have HC := Lib.hid (fun (W : World) (g : Nat) => tnum1 l.length g W (by omega))
  have hT : tx (num l.length) = tx (num l.length ++ (l.take 0).flatMap layK) := by simp
  have hS0 : (tx (num l.length)).size ≤ 10 := by rw [tx_size]; exact num_le _
  have HT := Lib.hid hT
  have HE : Hid (∀ k, k ≤ l.length → (tx (num l.length ++ (l.take k).flatMap layK)).size ≤ 10 + 20 * k) := Lib.hid (fun k hk => by
    rw [tx_size, List.length_append]
    have h1 := num_le l.length
    have h2 := flat_le layK 20 layK_le (l.take k)
    rw [List.length_take, Nat.min_eq_left hk] at h2
    omega)
  clear h hf hm hT
  generalize hq : tx (num l.length) = q0 at *
  clear hq
  go_enter Tryd.func81, Tryd.ntmps81
  go_wp2_with fail
  refine (HC.out _ _ (by simp) (by go_simp)).mono ?_
  rintro e w1 ⟨rfl, hb1⟩
  have HB0 : Hid (Below w.heap.size w w1) := Lib.hid (((Below.refl _ _).alloc (Nat.le_refl _) _).trans (hb1.mono (by simp)))
  clear hb1
  go_wp2_with fail
  go_loopw [5, 15] (fun v i wr => ∃ (k : Nat) (q : ByteArray), v = .string q ∧ i = .int .i64 k ∧ k ≤ l.length ∧ q.size ≤ 10 + 20 * k ∧ Hid (q = tx (num l.length ++ (l.take k).flatMap layK)) ∧ Hid (Below w.heap.size w wr)) (fun _ i _ => l.length - (intOf i).toNat)
  case atStart => exact ⟨0, q0, rfl, rfl, Nat.zero_le _, by omega, HT, HB0⟩
  case round =>
    obtain ⟨k, q, rfl, rfl, hk, hqs, hq, hb⟩ := hrel
    by_cases hlt : k < l.length
    · obtain ⟨ad, rfl, hlo, h1⟩ := (H.out.on hb.out) k hlt
      have HX := Lib.hid (fun W => HY.out (kn l k) (by rw [show kn l k = l[k] by simp [kn, hlt]]; exact List.getElem_mem hlt) W)
      have hsz : (tx (layK (kn l k))).size ≤ 20 := by rw [tx_size]; exact layK_le _
      have HN : Hid (tx (num l.length ++ (l.take (k + 1)).flatMap layK) = tx (num l.length ++ (l.take k).flatMap layK) ++ tx (layK (kn l k))) := Lib.hid (by
        rw [tx_app, List.take_succ_eq_append_getElem hlt, List.flatMap_append, show kn l k = l[k] by simp [kn, hlt], List.append_assoc]
        simp)
      generalize kn l k = x at *
      obtain ⟨a0, a1⟩ := h1.flat
      have k0 : (0 : Int) ≤ (k : Int) := by omega
      have k1 : (k : Int) < (l.length : Int) := by omega
      have e0 : decide ((k : Int) < (l.length : Int)) = true := by simpa using k1
      have hsw := hb.out.size
      have HB1 : Hid (Below w.heap.size w (wr.alloc (.cells #[.int .u64 x.i, .int .i64 x.s] 24))) := Lib.hid (hb.out.alloc hsw _)
      generalize hz : tx (layK x) = z at *
      clear h1 hz
      go_wp2_with (go_at_call 65; refine (HX.out _).mono ?_; rintro e w2 ⟨rfl, hb2⟩)
      go_roundw
      case rel => exact ⟨k + 1, q ++ z, rfl, by go_num, by omega, by simp; omega, Lib.hid (by rw [hq.out, HN.out]), Lib.hid (HB1.out.trans (hb2.mono HB1.out.size))⟩
      case measure => simp [intOf]; omega
    · have hkl : k = l.length := by omega
      have e0 : decide ((k : Int) < (l.length : Int)) = false := by simp; omega
      have e0' : decide (k < l.length) = false := by simpa using hlt
      have HQ : Hid (q = tx (num l.length ++ l.flatMap layK)) := Lib.hid (by rw [hq.out, hkl, List.take_length])
      clear hkl
      go_wp2_with fail
      go_ret
      exact ⟨ret_tx HQ.out, hb.out⟩
set_option maxRecDepth 100000 in
set_option maxHeartbeats 4000000 in
theorem laylist_News (A : Option Addr) (c : Nat) (l : List Nw) (w : World) (hn : l.length ≤ 64) (h : Ns w A l) (hf : ∀ y ∈ l, Fit y.k) (hm : ∀ y ∈ l, oneB y = true) :
    Calls Tryd.prog 72 #[.slice A l.length c, .func (.func 73) #[] #[]] w fun e w' => e = .returned (.string (tx (num l.length ++ l.flatMap layN))) ∧ Below w.heap.size w w' := by
  have H := Lib.hid h
  have HY := Lib.hid (fun (y : Nw) (hy : y ∈ l) (W : World) => laynews_any y W (hf y hy) (hm y hy))
  have HC := Lib.hid (fun (W : World) (g : Nat) => tnum1 l.length g W (by omega))
  have hT : tx (num l.length) = tx (num l.length ++ (l.take 0).flatMap layN) := by simp
  have hS0 : (tx (num l.length)).size ≤ 10 := by rw [tx_size]; exact num_le _
  have HT := Lib.hid hT
  have HE : Hid (∀ k, k ≤ l.length → (tx (num l.length ++ (l.take k).flatMap layN)).size ≤ 10 + 30 * k) := Lib.hid (fun k hk => by
    rw [tx_size, List.length_append]
    have h1 := num_le l.length
    have h2 := flat_le layN 30 layN_le (l.take k)
    rw [List.length_take, Nat.min_eq_left hk] at h2
    omega)
  clear h hf hm hT
  generalize hq : tx (num l.length) = q0 at *
  clear hq
  go_enter Tryd.func72, Tryd.ntmps72
  go_wp2_with fail
  refine (HC.out _ _ (by simp) (by go_simp)).mono ?_
  rintro e w1 ⟨rfl, hb1⟩
  have HB0 : Hid (Below w.heap.size w w1) := Lib.hid (((Below.refl _ _).alloc (Nat.le_refl _) _).trans (hb1.mono (by simp)))
  clear hb1
  go_wp2_with fail
  go_loopw [5, 15] (fun v i wr => ∃ (k : Nat) (q : ByteArray), v = .string q ∧ i = .int .i64 k ∧ k ≤ l.length ∧ q.size ≤ 10 + 30 * k ∧ Hid (q = tx (num l.length ++ (l.take k).flatMap layN)) ∧ Hid (Below w.heap.size w wr)) (fun _ i _ => l.length - (intOf i).toNat)
  case atStart => exact ⟨0, q0, rfl, rfl, Nat.zero_le _, by omega, HT, HB0⟩
  case round =>
    obtain ⟨k, q, rfl, rfl, hk, hqs, hq, hb⟩ := hrel
    by_cases hlt : k < l.length
    · obtain ⟨ad, rfl, hlo, h1⟩ := (H.out.on hb.out) k hlt
      have HX := Lib.hid (fun W => HY.out (nw l k) (by rw [show nw l k = l[k] by simp [nw, hlt]]; exact List.getElem_mem hlt) W)
      have hsz : (tx (layN (nw l k))).size ≤ 30 := by rw [tx_size]; exact layN_le _
      have HN : Hid (tx (num l.length ++ (l.take (k + 1)).flatMap layN) = tx (num l.length ++ (l.take k).flatMap layN) ++ tx (layN (nw l k))) := Lib.hid (by
        rw [tx_app, List.take_succ_eq_append_getElem hlt, List.flatMap_append, show nw l k = l[k] by simp [nw, hlt], List.append_assoc]
        simp)
      generalize nw l k = x at *
      obtain ⟨a0, a1, a2⟩ := h1.flat
      have k0 : (0 : Int) ≤ (k : Int) := by omega
      have k1 : (k : Int) < (l.length : Int) := by omega
      have e0 : decide ((k : Int) < (l.length : Int)) = true := by simpa using k1
      have hsw := hb.out.size
      have HB1 : Hid (Below w.heap.size w (wr.alloc (.cells #[.int .i64 x.w, .int .u64 x.i, .int .i64 x.s] 63))) := Lib.hid (hb.out.alloc hsw _)
      generalize hz : tx (layN x) = z at *
      clear h1 hz
      go_wp2_with (go_at_call 73; refine (HX.out _).mono ?_; rintro e w2 ⟨rfl, hb2⟩)
      go_roundw
      case rel => exact ⟨k + 1, q ++ z, rfl, by go_num, by omega, by simp; omega, Lib.hid (by rw [hq.out, HN.out]), Lib.hid (HB1.out.trans (hb2.mono HB1.out.size))⟩
      case measure => simp [intOf]; omega
    · have hkl : k = l.length := by omega
      have e0 : decide ((k : Int) < (l.length : Int)) = false := by simp; omega
      have e0' : decide (k < l.length) = false := by simpa using hlt
      have HQ : Hid (q = tx (num l.length ++ l.flatMap layN)) := Lib.hid (by rw [hq.out, hkl, List.take_length])
      clear hkl
      go_wp2_with fail
      go_ret
      exact ⟨ret_tx HQ.out, hb.out⟩
set_option maxRecDepth 100000 in
set_option maxHeartbeats 4000000 in
theorem laytext_any (s : ByteArray) (w : World) (hs : s.size ≤ 200) : Calls Tryd.prog 92 #[.string s] w fun e w' => e = .returned (.string (tx (num s.size ++ s.data.toList))) ∧ Below w.heap.size w w' := by
  have hT : textOf s = tx (num s.size ++ s.data.toList) := by
    rw [← tx_app]
    unfold textOf
    congr 1
  have HC := Lib.hid (fun (W : World) => text_in s W hs)
  rw [hT] at HC
  generalize tx (num s.size ++ s.data.toList) = q at *
  clear hT
  go_enter Tryd.func92, Tryd.ntmps92
  go_wp2_with (go_at_call 109; refine (HC.out _).mono ?_; rintro e w1 ⟨rfl, hb⟩)
  go_ret
  exact ⟨rfl, hb⟩
set_option maxRecDepth 100000 in
set_option maxHeartbeats 4000000 in
theorem laygood_any (g : Bool) (w : World) : Calls Tryd.prog 98 #[.bool g] w fun e w' => e = .returned (.string (tx (num (if g = true then 1 else 0)))) ∧ Below w.heap.size w w' := by
  rcases g with _ | _
  · have HC := Lib.hid (fun (W : World) (g : Nat) => tnum1 0 g W (by omega))
    have e : (if false = true then 1 else 0 : Nat) = 0 := rfl
    rw [e]
    clear e
    generalize tx (num 0) = q at *
    go_enter Tryd.func98, Tryd.ntmps98
    go_wp2_with (go_at_call 22; refine (HC.out _ _ (by simp) (by go_simp)).mono ?_; rintro e w1 ⟨rfl, hb⟩)
    go_ret
    exact ⟨rfl, ((Below.refl _ _).alloc (Nat.le_refl _) _).trans (hb.mono (by simp))⟩
  · have HC := Lib.hid (fun (W : World) (g : Nat) => tnum1 1 g W (by omega))
    have e : (if true = true then 1 else 0 : Nat) = 1 := rfl
    rw [e]
    clear e
    generalize tx (num 1) = q at *
    go_enter Tryd.func98, Tryd.ntmps98
    go_wp2_with (go_at_call 22; refine (HC.out _ _ (by simp) (by go_simp)).mono ?_; rintro e w1 ⟨rfl, hb⟩)
    go_ret
    exact ⟨rfl, ((Below.refl _ _).alloc (Nat.le_refl _) _).trans (hb.mono (by simp))⟩
end Go.Proofs.YtjeepmdklbfgeaaDoor

namespace Go.Proofs.YtjeepmdklbfgeaaDoor
open Go.Sort Go.RowKit Go.Proofs.YtjeepmdklbfgeaaDoor.Pure

/-- Numbers in a slice. -/
def Is (w : World) (A : Option Addr) (xs : List Nat) : Prop := ∀ j, j < xs.length → ∃ ad, A = some ad ∧ ad.block < w.heap.size ∧ w.cell? (ad.add j) = some (.int .i64 ((xs.getD j 0 : Nat) : Int))
theorem Is.on {w w' : World} {A : Option Addr} {xs : List Nat} (h : Is w A xs) (hb : Below w.heap.size w w') : Is w' A xs := fun j hj => by
  obtain ⟨ad, e, h1, h2⟩ := h j hj
  exact ⟨ad, e, Nat.lt_of_lt_of_le h1 hb.size, (hb.cell (by rw [block_add]; exact h1)).trans h2⟩
theorem Is.nil (w : World) (A : Option Addr) : Is w A [] := fun j hj => absurd hj (by simp)
def Parts (w : World) (xs : List Nat) (e : Ending) (w' : World) : Prop := ∃ (A : Option Addr) (c : Nat), e = .returned (.slice A xs.length c) ∧ Is w' A xs ∧ (∀ ad, A = some ad → w.heap.size ≤ ad.block) ∧ Below w.heap.size w w'
theorem Is.new (w : World) (xs : List Nat) (cs : Array Value) (t : TypeId) (h : ∀ j, j < xs.length → cs[j]? = some (.int .i64 ((xs.getD j 0 : Nat) : Int))) : Is (w.alloc (.cells cs t)) (some ⟨w.heap.size, 0, none⟩) xs := fun j hj => by
  refine ⟨_, rfl, by simp, ?_⟩
  have e : (⟨w.heap.size, 0, none⟩ : Addr).add j = ⟨w.heap.size, j, none⟩ := by unfold Addr.add; split <;> simp_all
  rw [e, World.cell?_alloc_new]
  exact h j hj
theorem Parts.new (w : World) (xs : List Nat) (cs : Array Value) (t : TypeId) (h : ∀ j, j < xs.length → cs[j]? = some (.int .i64 ((xs.getD j 0 : Nat) : Int))) : Parts w xs (.returned (.slice (some ⟨w.heap.size, 0, none⟩) xs.length xs.length)) (w.alloc (.cells cs t)) :=
  ⟨_, _, rfl, Is.new w xs cs t h, (fun ad e => by injection e with e; rw [← e]; exact Nat.le_refl _), (Below.refl _ _).alloc (Nat.le_refl _) _⟩
set_option maxRecDepth 100000 in
set_option maxHeartbeats 4000000 in
theorem partsof_any (k : Int) (w : World) : Calls Tryd.prog 24 #[.int .i64 k] w (Parts w (pof k)) := by
  rcases kinds k with (rfl | rfl | rfl | rfl | rfl | rfl | rfl | rfl | rfl | rfl | rfl | rfl) | ⟨hk, e⟩
  · have hP := Lib.hid (Parts.new w [0, 2, 3] #[.int .i64 0, .int .i64 2, .int .i64 3] 3 (fun j hj => by match j, hj with | 0, _ => rfl | 1, _ => rfl | 2, _ => rfl))
    have e : pof 1 = [0, 2, 3] := rfl
    rw [e]
    clear e
    go_enter Tryd.func24, Tryd.ntmps24
    go_wp2
    go_ret
    exact hP.out
  · have hP := Lib.hid (Parts.new w [0, 1, 3] #[.int .i64 0, .int .i64 1, .int .i64 3] 3 (fun j hj => by match j, hj with | 0, _ => rfl | 1, _ => rfl | 2, _ => rfl))
    have e : pof 2 = [0, 1, 3] := rfl
    rw [e]
    clear e
    go_enter Tryd.func24, Tryd.ntmps24
    go_wp2
    go_ret
    exact hP.out
  · have hP := Lib.hid (Parts.new w [0, 1, 2, 3] #[.int .i64 0, .int .i64 1, .int .i64 2, .int .i64 3] 3 (fun j hj => by match j, hj with | 0, _ => rfl | 1, _ => rfl | 2, _ => rfl | 3, _ => rfl))
    have e : pof 3 = [0, 1, 2, 3] := rfl
    rw [e]
    clear e
    go_enter Tryd.func24, Tryd.ntmps24
    go_wp2
    go_ret
    exact hP.out
  · have hP := Lib.hid (Parts.new w [0, 1] #[.int .i64 0, .int .i64 1] 3 (fun j hj => by match j, hj with | 0, _ => rfl | 1, _ => rfl))
    have e : pof 4 = [0, 1] := rfl
    rw [e]
    clear e
    go_enter Tryd.func24, Tryd.ntmps24
    go_wp2
    go_ret
    exact hP.out
  · have hP := Lib.hid (Parts.new w [4] #[.int .i64 4] 3 (fun j hj => by match j, hj with | 0, _ => rfl))
    have e : pof 5 = [4] := rfl
    rw [e]
    clear e
    go_enter Tryd.func24, Tryd.ntmps24
    go_wp2
    go_ret
    exact hP.out
  · have hP := Lib.hid (Parts.new w [4] #[.int .i64 4] 3 (fun j hj => by match j, hj with | 0, _ => rfl))
    have e : pof 6 = [4] := rfl
    rw [e]
    clear e
    go_enter Tryd.func24, Tryd.ntmps24
    go_wp2
    go_ret
    exact hP.out
  · have hP := Lib.hid (Parts.new w [5, 6, 7] #[.int .i64 5, .int .i64 6, .int .i64 7] 3 (fun j hj => by match j, hj with | 0, _ => rfl | 1, _ => rfl | 2, _ => rfl))
    have e : pof 7 = [5, 6, 7] := rfl
    rw [e]
    clear e
    go_enter Tryd.func24, Tryd.ntmps24
    go_wp2
    go_ret
    exact hP.out
  · have hP := Lib.hid (Parts.new w [5, 6, 7] #[.int .i64 5, .int .i64 6, .int .i64 7] 3 (fun j hj => by match j, hj with | 0, _ => rfl | 1, _ => rfl | 2, _ => rfl))
    have e : pof 8 = [5, 6, 7] := rfl
    rw [e]
    clear e
    go_enter Tryd.func24, Tryd.ntmps24
    go_wp2
    go_ret
    exact hP.out
  · have hP := Lib.hid (Parts.new w [5, 6] #[.int .i64 5, .int .i64 6] 3 (fun j hj => by match j, hj with | 0, _ => rfl | 1, _ => rfl))
    have e : pof 9 = [5, 6] := rfl
    rw [e]
    clear e
    go_enter Tryd.func24, Tryd.ntmps24
    go_wp2
    go_ret
    exact hP.out
  · have hP := Lib.hid (Parts.new w [6, 7] #[.int .i64 6, .int .i64 7] 3 (fun j hj => by match j, hj with | 0, _ => rfl | 1, _ => rfl))
    have e : pof 10 = [6, 7] := rfl
    rw [e]
    clear e
    go_enter Tryd.func24, Tryd.ntmps24
    go_wp2
    go_ret
    exact hP.out
  · have hP := Lib.hid (Parts.new w [5, 6, 7, 8, 9] #[.int .i64 5, .int .i64 6, .int .i64 7, .int .i64 8, .int .i64 9] 3 (fun j hj => by match j, hj with | 0, _ => rfl | 1, _ => rfl | 2, _ => rfl | 3, _ => rfl | 4, _ => rfl))
    have e : pof 11 = [5, 6, 7, 8, 9] := rfl
    rw [e]
    clear e
    go_enter Tryd.func24, Tryd.ntmps24
    go_wp2
    go_ret
    exact hP.out
  · have hP := Lib.hid (Parts.new w [8, 9, 10] #[.int .i64 8, .int .i64 9, .int .i64 10] 3 (fun j hj => by match j, hj with | 0, _ => rfl | 1, _ => rfl | 2, _ => rfl))
    have e : pof 12 = [8, 9, 10] := rfl
    rw [e]
    clear e
    go_enter Tryd.func24, Tryd.ntmps24
    go_wp2
    go_ret
    exact hP.out
  · rw [e]
    have hP : Hid (Parts w [] (.returned (.slice none 0 0)) w) := Lib.hid ⟨none, 0, rfl, Is.nil _ _, (fun ad e => by cases e), Below.refl _ _⟩
    have e1 : (k == 1) = false := by simp; omega
    have e2 : (k == 2) = false := by simp; omega
    have e3 : (k == 3) = false := by simp; omega
    have e4 : (k == 4) = false := by simp; omega
    have e5 : (k == 5) = false := by simp; omega
    have e6 : (k == 6) = false := by simp; omega
    have e7 : (k == 7) = false := by simp; omega
    have e8 : (k == 8) = false := by simp; omega
    have e9 : (k == 9) = false := by simp; omega
    have e10 : (k == 10) = false := by simp; omega
    have e11 : (k == 11) = false := by simp; omega
    have e12 : (k == 12) = false := by simp; omega
    clear e hk
    go_enter Tryd.func24, Tryd.ntmps24
    go_wp2
    go_ret
    exact hP.out
set_option maxRecDepth 100000 in
set_option maxHeartbeats 4000000 in
theorem index_any (A : Option Addr) (c : Nat) (xs : List Nat) (i : Nat) (w : World) (hn : xs.length ≤ 1000) (h : Is w A xs) :
    Calls Tryd.prog 101 #[.slice A xs.length c, .int .i64 (i : Int)] w fun e w' => ∃ r : Int, e = .returned (.int .i64 r) ∧ Hid (0 ≤ r ↔ i ∈ xs) ∧ w = w' := by
  have Hc := Lib.hid h
  clear h
  go_enter Tryd.func101, Tryd.ntmps101
  go_wp2_with fail
  go_loop [8] (fun j => ∃ k : Nat, j = .int .i64 k ∧ k ≤ xs.length ∧ Hid (∀ m, m < k → xs.getD m 0 ≠ i)) (fun j => xs.length - (intOf j).toNat)
  case atStart => exact ⟨0, rfl, Nat.zero_le _, Lib.hid fun m hm => absurd hm (Nat.not_lt_zero m)⟩
  case round =>
    obtain ⟨k, rfl, hk, hok⟩ := hrel
    by_cases hlt : k < xs.length
    · obtain ⟨ad, rfl, hbk, hcell⟩ := Hc.out k hlt
      have k0 : (0 : Int) ≤ (k : Int) := by omega
      have k1 : (k : Int) < (xs.length : Int) := by omega
      have e0 : decide ((k : Int) < (xs.length : Int)) = true := by simpa using k1
      have e0' : decide (k < xs.length) = true := by simpa using hlt
      have hm : xs.getD k 0 ∈ xs := by
        rw [show xs.getD k 0 = xs[k] by simp [List.getD, hlt]]; exact List.getElem_mem hlt
      by_cases he : i = xs.getD k 0
      · have hC : Hid ((0 : Int) ≤ (k : Int) ↔ i ∈ xs) := Lib.hid ⟨fun _ => he ▸ hm, fun _ => k0⟩
        have e1 : ((i : Int) == ((xs.getD k 0 : Nat) : Int)) = true := by rw [← he]; simp
        generalize xs.getD k 0 = x at *
        clear hm he
        go_wp2_with fail
        go_ret
        exact ⟨_, rfl, hC, rfl⟩
      · have e1 : ((i : Int) == ((xs.getD k 0 : Nat) : Int)) = false := beq_eq_false_iff_ne.2 (fun e => he (by omega))
        have hok2 : Hid (∀ m, m < k + 1 → xs.getD m 0 ≠ i) := Lib.hid fun m hm => by
          rcases Nat.lt_or_ge m k with h' | h'
          · exact hok.out m h'
          · obtain rfl : m = k := by omega
            exact fun e => he e.symm
        generalize xs.getD k 0 = x at *
        clear hm he
        go_wp2_with fail
        go_round
        case rel => exact ⟨k + 1, by go_num, by omega, hok2⟩
        case measure => simp [intOf]; omega
    · have e0 : decide ((k : Int) < (xs.length : Int)) = false := by simp; omega
      have e0' : decide (k < xs.length) = false := by simpa using hlt
      have hC : Hid ((0 : Int) ≤ -1 ↔ i ∈ xs) := Lib.hid (by
        refine ⟨fun h => absurd h (by decide), fun hm => ?_⟩
        obtain ⟨m, hm, e⟩ := List.mem_iff_getElem.1 hm
        exact absurd (by simp [List.getD, hm, e]) (hok.out m (by omega)))
      go_wp2_with fail
      go_ret
      exact ⟨_, rfl, hC, rfl⟩
set_option maxRecDepth 100000 in
set_option maxHeartbeats 4000000 in
theorem contains_any (A : Option Addr) (c : Nat) (xs : List Nat) (i : Nat) (w : World) (hn : xs.length ≤ 1000) (h : Is w A xs) :
    Calls Tryd.prog 27 #[.slice A xs.length c, .int .i64 (i : Int)] w fun e w' => e = .returned (.bool (xs.contains i)) ∧ w = w' := by
  have HC := Lib.hid (index_any A c xs i w hn h)
  clear h
  go_enter Tryd.func27, Tryd.ntmps27
  go_wp2_with (go_at_call 101; refine HC.out.mono ?_; rintro e w1 ⟨r, rfl, hr, rfl⟩)
  go_ret
  exact ⟨ret_bool (by rw [Bool.eq_iff_iff]; simpa using hr.out), rfl⟩
set_option maxRecDepth 100000 in
set_option maxHeartbeats 4000000 in
theorem maynews_any (A : Option Addr) (c : Nat) (l : List Nw) (w : World) (hn : l.length ≤ 1000) (h : Ns w A l) :
    Calls Tryd.prog 69 #[.slice A l.length c] w fun e w' => e = .returned (.bool (mayNs l)) ∧ Below w.heap.size w w' := by
  by_cases h8 : 8 < l.length
  · have e0 : decide ((8 : Int) < (l.length : Int)) = true := by simp; omega
    have e0' : decide (8 < l.length) = true := by simpa using h8
    have hF : mayNs l = false := by unfold mayNs; simp; omega
    rw [hF]
    clear h hF
    go_enter Tryd.func69, Tryd.ntmps69
    go_wp2_with fail
    go_ret
    exact ⟨rfl, Below.refl _ _⟩
  have d0 : decide ((8 : Int) < (l.length : Int)) = false := by simp; omega
  have d0' : decide (8 < l.length) = false := by simpa using h8
  have H := Lib.hid h
  have HL : Hid (mayNs l = l.all oneB) := Lib.hid (by unfold mayNs; rw [show decide (l.length ≤ 8) = true by simp; omega, Bool.true_and])
  have HI := Lib.hid isnode_any
  have HK := Lib.hid (fun (W : World) (x : Kn) (g : Nat) (h : Bx W g x) (L : Bool) (hL : mayK x = L) => check_any (some ⟨g, 0, none⟩) 1 [x] W (by simp) (fun j hj => ⟨_, rfl, h.lt, by
    match j, hj with
    | 0, _ => exact ⟨by simpa [Addr.add, kn] using h.1, by simpa [Addr.add, kn] using h.2⟩⟩) L (by simpa [mayL] using hL))
  have ho : okE true = 0 := rfl
  have hz : okE false = 1 := rfl
  clear h
  go_enter Tryd.func69, Tryd.ntmps69
  go_wp2_with fail
  go_loopw [10] (fun i wr => ∃ k : Nat, i = .int .i64 k ∧ k ≤ l.length ∧ Hid (∀ j, j < k → oneB (nw l j) = true) ∧ Hid (Below w.heap.size w wr)) (fun i _ => l.length - (intOf i).toNat)
  case atStart => exact ⟨0, rfl, Nat.zero_le _, Lib.hid (fun j hj => absurd hj (Nat.not_lt_zero j)), Lib.hid (Below.refl _ _)⟩
  case round =>
    obtain ⟨k, rfl, hk, hok, hb⟩ := hrel
    by_cases hlt : k < l.length
    · obtain ⟨ad, rfl, hlo, h1⟩ := (H.out.on hb.out) k hlt
      have HX : Hid (oneB (nw l k) = (isN (nw l k).w && mayK ⟨(nw l k).i, (nw l k).s⟩)) := Lib.hid rfl
      have HF : Hid (oneB (nw l k) = false → mayNs l = false) := Lib.hid (fun h => by
        rw [HL.out]
        rcases e : l.all oneB with _ | _
        · rfl
        · rw [List.all_eq_true.1 e _ (nw_mem l hlt)] at h; cases h)
      have HS : Hid (oneB (nw l k) = true → ∀ j, j < k + 1 → oneB (nw l j) = true) := Lib.hid (fun h j hj => by
        rcases Nat.lt_or_ge j k with hjk | hjk
        · exact hok.out j hjk
        · obtain rfl : j = k := by omega
          exact h)
      generalize hO : oneB (nw l k) = O at *
      generalize nw l k = x at *
      obtain ⟨a0, a1, a2⟩ := h1.flat
      obtain ⟨xw, xi, xs⟩ := x
      simp only [] at a0 a1 a2 HX
      have k0 : (0 : Int) ≤ (k : Int) := by omega
      have k1 : (k : Int) < (l.length : Int) := by omega
      have e0 : decide ((k : Int) < (l.length : Int)) = true := by simpa using k1
      have e0' : decide (k < l.length) = true := by simpa using hlt
      have hsw := hb.out.size
      have HB1 : Hid (Below w.heap.size w (wr.alloc (.cells #[.int .i64 xw, .int .u64 xi, .int .i64 xs] 63))) := Lib.hid (hb.out.alloc hsw _)
      rcases hN : isN xw with _ | _
      · have hOF : O = false := by rw [HX.out, hN]; rfl
        have HR := Lib.hid (HF.out hOF)
        have HIx := Lib.hid (fun W => HI.out xw W)
        rw [hN] at HIx
        clear h1 hO hOF HX HF HS HI hN
        go_wp2_with (go_at_call 26; refine (HIx.out _).mono ?_; rintro e w2 ⟨rfl, rfl⟩)
        go_ret
        exact ⟨ret_bool HR.out.symm, HB1.out⟩
      · have HIx := Lib.hid (fun W => HI.out xw W)
        rw [hN] at HIx
        have HB2 : Hid (Below w.heap.size w ((wr.alloc (.cells #[.int .i64 xw, .int .u64 xi, .int .i64 xs] 63)).alloc (.cells #[.int .u64 xi, .int .i64 xs] 24))) := Lib.hid (HB1.out.alloc HB1.out.size _)
        have BX : Hid (Bx ((wr.alloc (.cells #[.int .i64 xw, .int .u64 xi, .int .i64 xs] 63)).alloc (.cells #[.int .u64 xi, .int .i64 xs] 24)) (wr.heap.size + 1) ⟨xi, xs⟩) := Lib.hid (by have := Bx.new (wr.alloc (.cells #[.int .i64 xw, .int .u64 xi, .int .i64 xs] 63)) ⟨xi, xs⟩ 24; simpa using this)
        rcases hM : mayK ⟨xi, xs⟩ with _ | _
        · have hOF : O = false := by rw [HX.out, hN, hM]; rfl
          have HR := Lib.hid (HF.out hOF)
          have HKx := Lib.hid (HK.out _ _ _ BX.out _ hM)
          rw [hz] at HKx
          clear h1 hO hOF HX HF HS HI hN HK hM
          go_wp2_with (first | (go_at_call 26; refine (HIx.out _).mono ?_; rintro e w2 ⟨rfl, rfl⟩) | (go_at_call 62; refine HKx.out.mono ?_; rintro e w2 ⟨rfl, hb2⟩))
          go_ret
          exact ⟨ret_bool HR.out.symm, HB2.out.trans (hb2.mono HB2.out.size)⟩
        · have hOT : O = true := by rw [HX.out, hN, hM]; rfl
          have HS2 := Lib.hid (HS.out hOT)
          have HKx := Lib.hid (HK.out _ _ _ BX.out _ hM)
          rw [ho] at HKx
          clear h1 hO hOT HX HF HS HI hN HK hM
          go_wp2_with (first | (go_at_call 26; refine (HIx.out _).mono ?_; rintro e w2 ⟨rfl, rfl⟩) | (go_at_call 62; refine HKx.out.mono ?_; rintro e w2 ⟨rfl, hb2⟩))
          go_roundw
          case rel => exact ⟨k + 1, by go_num, by omega, HS2, Lib.hid (HB2.out.trans (hb2.mono HB2.out.size))⟩
          case measure => simp [intOf]; omega
    · have e0 : decide ((k : Int) < (l.length : Int)) = false := by simp; omega
      have e0' : decide (k < l.length) = false := by simpa using hlt
      have hT : mayNs l = true := by
        rw [HL.out, List.all_eq_true]
        intro x hx
        obtain ⟨j, hj, rfl⟩ := List.mem_iff_getElem.1 hx
        have := hok.out j (by omega)
        rwa [nw_lt l hj] at this
      have HR := Lib.hid hT
      clear hT
      go_wp2_with fail
      go_ret
      exact ⟨ret_bool HR.out.symm, hb.out⟩
end Go.Proofs.YtjeepmdklbfgeaaDoor

namespace Go.Proofs.YtjeepmdklbfgeaaDoor
open Go.Sort Go.RowKit Go.Proofs.YtjeepmdklbfgeaaDoor.Pure Go.Proofs.YtjeepmdklbfgeaaDoor.W Go.Proofs.YtjeepmdklbfgeaaDoor.W.Pure

/-- A message, its news and its table as values. -/
def mvv (m : Mg) (nv tv : Value) : Value := .agg #[.int .i64 m.kd, .int .i64 m.fr, .int .i64 m.to, .int .u64 (m.sq : Int), .int .i64 m.wh, .int .u64 m.k.i, .int .i64 m.k.s, nv, tv, .int .u64 (m.ep : Int), .int .u64 (m.bo : Int), .int .i64 m.ak, .string m.ts, .int .u64 (m.tn : Int), .bool m.gd]
/-- The value v is the message m. -/
def MsgV (w : World) (v : Value) (m : Mg) : Prop :=
  ∃ (A : Option Addr) (cA : Nat) (T : Option Addr) (cT : Nat), v = mvv m (.slice A m.ns.length cA) (.slice T m.tb.length cT) ∧ Ns w A m.ns ∧ Lst w T m.tb ∧ m.ns.length ≤ 1000 ∧ m.tb.length ≤ 1000 ∧ m.ts.size ≤ 1000
theorem MsgV.on {w w' : World} {v : Value} {m : Mg} (h : MsgV w v m) (hb : Below w.heap.size w w') : MsgV w' v m := by
  obtain ⟨A, cA, T, cT, rfl, hA, hT, l1, l2, l3⟩ := h
  exact ⟨A, cA, T, cT, rfl, hA.on hb, hT.on hb, l1, l2, l3⟩
theorem empty_list : (⟨#[]⟩ : ByteArray).toList = [] := by rw [ByteArray.toList_eq]
theorem str_nil (s : ByteArray) : s.toList = [] ↔ s = ⟨#[]⟩ := ⟨fun h => text_eq (h.trans empty_list.symm), fun h => by rw [h, empty_list]⟩
theorem ret_bool' {a b : Bool} (h : a = b) : Ending.returned (.bool a) = .returned (.bool b) := by rw [h]
set_option maxRecDepth 100000 in
set_option maxHeartbeats 4000000 in
theorem of0_any (m : Mg) (v : Value) (w : World) (h : MsgV w v m) : Calls Tryd.prog 48 #[v] w fun e w' => e = .returned (.int .u64 (m.sq : Int)) ∧ Below w.heap.size w w' := by
  obtain ⟨A, cA, T, cT, rfl, hA, hT, l1, l2, l3⟩ := h
  have HB : Hid (Below w.heap.size w (w.alloc (.cells #[.int .i64 m.kd, .int .i64 m.fr, .int .i64 m.to, .int .u64 (m.sq : Int), .int .i64 m.wh, .int .u64 m.k.i, .int .i64 m.k.s, (.slice A m.ns.length cA), (.slice T m.tb.length cT), .int .u64 (m.ep : Int), .int .u64 (m.bo : Int), .int .i64 m.ak, .string m.ts, .int .u64 (m.tn : Int), .bool m.gd] 28))) := Lib.hid ((Below.refl _ _).alloc (Nat.le_refl _) _)
  unfold mvv
  generalize m.kd = kd at *
  generalize m.fr = fr at *
  generalize m.to = tt at *
  generalize m.sq = sq at *
  generalize m.wh = wh at *
  generalize m.k.i = ki at *
  generalize m.k.s = ks at *
  generalize m.ns = ns at *
  generalize m.tb = tb at *
  generalize m.ep = ep at *
  generalize m.bo = bo at *
  generalize m.ak = ak at *
  generalize m.ts = ts at *
  generalize m.tn = tn at *
  generalize m.gd = gd at *
  go_enter Tryd.func48, Tryd.ntmps48
  go_wp2_with fail
  go_ret
  exact ⟨rfl, HB.out⟩
set_option maxRecDepth 100000 in
set_option maxHeartbeats 4000000 in
theorem of5_any (m : Mg) (v : Value) (w : World) (h : MsgV w v m) : Calls Tryd.prog 50 #[v] w fun e w' => e = .returned (.int .u64 (m.ep : Int)) ∧ Below w.heap.size w w' := by
  obtain ⟨A, cA, T, cT, rfl, hA, hT, l1, l2, l3⟩ := h
  have HB : Hid (Below w.heap.size w (w.alloc (.cells #[.int .i64 m.kd, .int .i64 m.fr, .int .i64 m.to, .int .u64 (m.sq : Int), .int .i64 m.wh, .int .u64 m.k.i, .int .i64 m.k.s, (.slice A m.ns.length cA), (.slice T m.tb.length cT), .int .u64 (m.ep : Int), .int .u64 (m.bo : Int), .int .i64 m.ak, .string m.ts, .int .u64 (m.tn : Int), .bool m.gd] 28))) := Lib.hid ((Below.refl _ _).alloc (Nat.le_refl _) _)
  unfold mvv
  generalize m.kd = kd at *
  generalize m.fr = fr at *
  generalize m.to = tt at *
  generalize m.sq = sq at *
  generalize m.wh = wh at *
  generalize m.k.i = ki at *
  generalize m.k.s = ks at *
  generalize m.ns = ns at *
  generalize m.tb = tb at *
  generalize m.ep = ep at *
  generalize m.bo = bo at *
  generalize m.ak = ak at *
  generalize m.ts = ts at *
  generalize m.tn = tn at *
  generalize m.gd = gd at *
  go_enter Tryd.func50, Tryd.ntmps50
  go_wp2_with fail
  go_ret
  exact ⟨rfl, HB.out⟩
set_option maxRecDepth 100000 in
set_option maxHeartbeats 4000000 in
theorem of6_any (m : Mg) (v : Value) (w : World) (h : MsgV w v m) : Calls Tryd.prog 52 #[v] w fun e w' => e = .returned (.int .u64 (m.bo : Int)) ∧ Below w.heap.size w w' := by
  obtain ⟨A, cA, T, cT, rfl, hA, hT, l1, l2, l3⟩ := h
  have HB : Hid (Below w.heap.size w (w.alloc (.cells #[.int .i64 m.kd, .int .i64 m.fr, .int .i64 m.to, .int .u64 (m.sq : Int), .int .i64 m.wh, .int .u64 m.k.i, .int .i64 m.k.s, (.slice A m.ns.length cA), (.slice T m.tb.length cT), .int .u64 (m.ep : Int), .int .u64 (m.bo : Int), .int .i64 m.ak, .string m.ts, .int .u64 (m.tn : Int), .bool m.gd] 28))) := Lib.hid ((Below.refl _ _).alloc (Nat.le_refl _) _)
  unfold mvv
  generalize m.kd = kd at *
  generalize m.fr = fr at *
  generalize m.to = tt at *
  generalize m.sq = sq at *
  generalize m.wh = wh at *
  generalize m.k.i = ki at *
  generalize m.k.s = ks at *
  generalize m.ns = ns at *
  generalize m.tb = tb at *
  generalize m.ep = ep at *
  generalize m.bo = bo at *
  generalize m.ak = ak at *
  generalize m.ts = ts at *
  generalize m.tn = tn at *
  generalize m.gd = gd at *
  go_enter Tryd.func52, Tryd.ntmps52
  go_wp2_with fail
  go_ret
  exact ⟨rfl, HB.out⟩
set_option maxRecDepth 100000 in
set_option maxHeartbeats 4000000 in
theorem of9_any (m : Mg) (v : Value) (w : World) (h : MsgV w v m) : Calls Tryd.prog 54 #[v] w fun e w' => e = .returned (.int .u64 (m.tn : Int)) ∧ Below w.heap.size w w' := by
  obtain ⟨A, cA, T, cT, rfl, hA, hT, l1, l2, l3⟩ := h
  have HB : Hid (Below w.heap.size w (w.alloc (.cells #[.int .i64 m.kd, .int .i64 m.fr, .int .i64 m.to, .int .u64 (m.sq : Int), .int .i64 m.wh, .int .u64 m.k.i, .int .i64 m.k.s, (.slice A m.ns.length cA), (.slice T m.tb.length cT), .int .u64 (m.ep : Int), .int .u64 (m.bo : Int), .int .i64 m.ak, .string m.ts, .int .u64 (m.tn : Int), .bool m.gd] 28))) := Lib.hid ((Below.refl _ _).alloc (Nat.le_refl _) _)
  unfold mvv
  generalize m.kd = kd at *
  generalize m.fr = fr at *
  generalize m.to = tt at *
  generalize m.sq = sq at *
  generalize m.wh = wh at *
  generalize m.k.i = ki at *
  generalize m.k.s = ks at *
  generalize m.ns = ns at *
  generalize m.tb = tb at *
  generalize m.ep = ep at *
  generalize m.bo = bo at *
  generalize m.ak = ak at *
  generalize m.ts = ts at *
  generalize m.tn = tn at *
  generalize m.gd = gd at *
  go_enter Tryd.func54, Tryd.ntmps54
  go_wp2_with fail
  go_ret
  exact ⟨rfl, HB.out⟩
set_option maxRecDepth 100000 in
set_option maxHeartbeats 4000000 in
theorem always_any (m : Mg) (v : Value) (w : World) (h : MsgV w v m) : Calls Tryd.prog 95 #[v] w fun e w' => e = .returned (.bool true) ∧ Below w.heap.size w w' := by
  obtain ⟨A, cA, T, cT, rfl, hA, hT, l1, l2, l3⟩ := h
  have HB : Hid (Below w.heap.size w (w.alloc (.cells #[.int .i64 m.kd, .int .i64 m.fr, .int .i64 m.to, .int .u64 (m.sq : Int), .int .i64 m.wh, .int .u64 m.k.i, .int .i64 m.k.s, (.slice A m.ns.length cA), (.slice T m.tb.length cT), .int .u64 (m.ep : Int), .int .u64 (m.bo : Int), .int .i64 m.ak, .string m.ts, .int .u64 (m.tn : Int), .bool m.gd] 28))) := Lib.hid ((Below.refl _ _).alloc (Nat.le_refl _) _)
  unfold mvv
  generalize m.kd = kd at *
  generalize m.fr = fr at *
  generalize m.to = tt at *
  generalize m.sq = sq at *
  generalize m.wh = wh at *
  generalize m.k.i = ki at *
  generalize m.k.s = ks at *
  generalize m.ns = ns at *
  generalize m.tb = tb at *
  generalize m.ep = ep at *
  generalize m.bo = bo at *
  generalize m.ak = ak at *
  generalize m.ts = ts at *
  generalize m.tn = tn at *
  generalize m.gd = gd at *
  go_enter Tryd.func95, Tryd.ntmps95
  go_wp2_with fail
  go_ret
  exact ⟨rfl, HB.out⟩
set_option maxRecDepth 100000 in
set_option maxHeartbeats 4000000 in
theorem may1_any (m : Mg) (v : Value) (w : World) (h : MsgV w v m) : Calls Tryd.prog 56 #[v] w fun e w' => e = .returned (.bool (mayP 1 m)) ∧ Below w.heap.size w w' := by
  obtain ⟨A, cA, T, cT, rfl, hA, hT, l1, l2, l3⟩ := h
  have HB : Hid (Below w.heap.size w (w.alloc (.cells #[.int .i64 m.kd, .int .i64 m.fr, .int .i64 m.to, .int .u64 (m.sq : Int), .int .i64 m.wh, .int .u64 m.k.i, .int .i64 m.k.s, (.slice A m.ns.length cA), (.slice T m.tb.length cT), .int .u64 (m.ep : Int), .int .u64 (m.bo : Int), .int .i64 m.ak, .string m.ts, .int .u64 (m.tn : Int), .bool m.gd] 28))) := Lib.hid ((Below.refl _ _).alloc (Nat.le_refl _) _)
  have HC := Lib.hid (fun W => isnode_any m.wh W)
  have hR : mayP 1 m = isN m.wh := rfl
  rw [hR]
  clear hR
  generalize isN m.wh = R at *
  unfold mvv
  generalize m.kd = kd at *
  generalize m.fr = fr at *
  generalize m.to = tt at *
  generalize m.sq = sq at *
  generalize m.wh = wh at *
  generalize m.k.i = ki at *
  generalize m.k.s = ks at *
  generalize m.ns = ns at *
  generalize m.tb = tb at *
  generalize m.ep = ep at *
  generalize m.bo = bo at *
  generalize m.ak = ak at *
  generalize m.ts = ts at *
  generalize m.tn = tn at *
  generalize m.gd = gd at *
  go_enter Tryd.func56, Tryd.ntmps56
  go_wp2_with (go_at_call 26; refine (HC.out _).mono ?_; rintro e w2 ⟨rfl, rfl⟩)
  go_ret
  exact ⟨rfl, HB.out⟩
set_option maxRecDepth 100000 in
set_option maxHeartbeats 4000000 in
theorem may2_any (m : Mg) (v : Value) (w : World) (h : MsgV w v m) : Calls Tryd.prog 61 #[v] w fun e w' => e = .returned (.bool (mayP 2 m)) ∧ Below w.heap.size w w' := by
  obtain ⟨A, cA, T, cT, rfl, hA, hT, l1, l2, l3⟩ := h
  have HB : Hid (Below w.heap.size w (w.alloc (.cells #[.int .i64 m.kd, .int .i64 m.fr, .int .i64 m.to, .int .u64 (m.sq : Int), .int .i64 m.wh, .int .u64 m.k.i, .int .i64 m.k.s, (.slice A m.ns.length cA), (.slice T m.tb.length cT), .int .u64 (m.ep : Int), .int .u64 (m.bo : Int), .int .i64 m.ak, .string m.ts, .int .u64 (m.tn : Int), .bool m.gd] 28))) := Lib.hid ((Below.refl _ _).alloc (Nat.le_refl _) _)
  have HK := Lib.hid (fun (W : World) (g : Nat) (h : Bx W g m.k) => check_any (some ⟨g, 0, none⟩) 1 [m.k] W (by simp) (fun j hj => ⟨_, rfl, h.lt, by
    match j, hj with
    | 0, _ => exact ⟨by simpa [Addr.add, kn] using h.1, by simpa [Addr.add, kn] using h.2⟩⟩) (mayP 2 m) (by simp [mayL, mayP]))
  have HB2 : Hid (Below w.heap.size w ((w.alloc (.cells #[.int .i64 m.kd, .int .i64 m.fr, .int .i64 m.to, .int .u64 (m.sq : Int), .int .i64 m.wh, .int .u64 m.k.i, .int .i64 m.k.s, (.slice A m.ns.length cA), (.slice T m.tb.length cT), .int .u64 (m.ep : Int), .int .u64 (m.bo : Int), .int .i64 m.ak, .string m.ts, .int .u64 (m.tn : Int), .bool m.gd] 28)).alloc (.cells #[.int .u64 m.k.i, .int .i64 m.k.s] 24))) := Lib.hid (HB.out.alloc (by simp) _)
  have BX : Hid (Bx ((w.alloc (.cells #[.int .i64 m.kd, .int .i64 m.fr, .int .i64 m.to, .int .u64 (m.sq : Int), .int .i64 m.wh, .int .u64 m.k.i, .int .i64 m.k.s, (.slice A m.ns.length cA), (.slice T m.tb.length cT), .int .u64 (m.ep : Int), .int .u64 (m.bo : Int), .int .i64 m.ak, .string m.ts, .int .u64 (m.tn : Int), .bool m.gd] 28)).alloc (.cells #[.int .u64 m.k.i, .int .i64 m.k.s] 24)) (w.heap.size + 1) m.k) := Lib.hid (by have := Bx.new (w.alloc (.cells #[.int .i64 m.kd, .int .i64 m.fr, .int .i64 m.to, .int .u64 (m.sq : Int), .int .i64 m.wh, .int .u64 m.k.i, .int .i64 m.k.s, (.slice A m.ns.length cA), (.slice T m.tb.length cT), .int .u64 (m.ep : Int), .int .u64 (m.bo : Int), .int .i64 m.ak, .string m.ts, .int .u64 (m.tn : Int), .bool m.gd] 28)) m.k 24; simpa using this)
  have HC := Lib.hid (HK.out _ _ BX.out)
  clear HK BX
  have hO : okE (mayP 2 m) = 0 ↔ mayP 2 m = true := by cases mayP 2 m <;> simp [okE]
  generalize mayP 2 m = R at *
  unfold mvv
  generalize m.kd = kd at *
  generalize m.fr = fr at *
  generalize m.to = tt at *
  generalize m.sq = sq at *
  generalize m.wh = wh at *
  generalize m.k.i = ki at *
  generalize m.k.s = ks at *
  generalize m.ns = ns at *
  generalize m.tb = tb at *
  generalize m.ep = ep at *
  generalize m.bo = bo at *
  generalize m.ak = ak at *
  generalize m.ts = ts at *
  generalize m.tn = tn at *
  generalize m.gd = gd at *
  go_enter Tryd.func61, Tryd.ntmps61
  go_wp2_with (go_at_call 62; refine HC.out.mono ?_; rintro e w2 ⟨rfl, hb⟩)
  go_ret
  exact ⟨ret_bool' (by rw [Bool.eq_iff_iff]; simpa using hO), HB2.out.trans (hb.mono HB2.out.size)⟩
set_option maxRecDepth 100000 in
set_option maxHeartbeats 4000000 in
theorem may3_any (m : Mg) (v : Value) (w : World) (h : MsgV w v m) : Calls Tryd.prog 68 #[v] w fun e w' => e = .returned (.bool (mayP 3 m)) ∧ Below w.heap.size w w' := by
  obtain ⟨A, cA, T, cT, rfl, hA, hT, l1, l2, l3⟩ := h
  have HB : Hid (Below w.heap.size w (w.alloc (.cells #[.int .i64 m.kd, .int .i64 m.fr, .int .i64 m.to, .int .u64 (m.sq : Int), .int .i64 m.wh, .int .u64 m.k.i, .int .i64 m.k.s, (.slice A m.ns.length cA), (.slice T m.tb.length cT), .int .u64 (m.ep : Int), .int .u64 (m.bo : Int), .int .i64 m.ak, .string m.ts, .int .u64 (m.tn : Int), .bool m.gd] 28))) := Lib.hid ((Below.refl _ _).alloc (Nat.le_refl _) _)
  have HC := Lib.hid (fun (W : World) (hb : Below w.heap.size w W) => maynews_any A cA m.ns W l1 (hA.on hb))
  have hR : mayP 3 m = mayNs m.ns := rfl
  rw [hR]
  clear hR hA
  generalize mayNs m.ns = R at *
  unfold mvv
  generalize m.kd = kd at *
  generalize m.fr = fr at *
  generalize m.to = tt at *
  generalize m.sq = sq at *
  generalize m.wh = wh at *
  generalize m.k.i = ki at *
  generalize m.k.s = ks at *
  generalize m.ns = ns at *
  generalize m.tb = tb at *
  generalize m.ep = ep at *
  generalize m.bo = bo at *
  generalize m.ak = ak at *
  generalize m.ts = ts at *
  generalize m.tn = tn at *
  generalize m.gd = gd at *
  go_enter Tryd.func68, Tryd.ntmps68
  go_wp2_with (go_at_call 69; refine (HC.out _ HB.out).mono ?_; rintro e w2 ⟨rfl, hb⟩)
  go_ret
  exact ⟨rfl, HB.out.trans (hb.mono HB.out.size)⟩
set_option maxRecDepth 100000 in
set_option maxHeartbeats 4000000 in
theorem may4_any (m : Mg) (v : Value) (w : World) (h : MsgV w v m) : Calls Tryd.prog 77 #[v] w fun e w' => e = .returned (.bool (mayP 4 m)) ∧ Below w.heap.size w w' := by
  obtain ⟨A, cA, T, cT, rfl, hA, hT, l1, l2, l3⟩ := h
  have HB : Hid (Below w.heap.size w (w.alloc (.cells #[.int .i64 m.kd, .int .i64 m.fr, .int .i64 m.to, .int .u64 (m.sq : Int), .int .i64 m.wh, .int .u64 m.k.i, .int .i64 m.k.s, (.slice A m.ns.length cA), (.slice T m.tb.length cT), .int .u64 (m.ep : Int), .int .u64 (m.bo : Int), .int .i64 m.ak, .string m.ts, .int .u64 (m.tn : Int), .bool m.gd] 28))) := Lib.hid ((Below.refl _ _).alloc (Nat.le_refl _) _)
  have HC := Lib.hid (fun (W : World) (hb : Below w.heap.size w W) => tcheck_any T cT m.tb W l2 (hT.on hb) (mayP 4 m) rfl)
  have hO : okE (mayP 4 m) = 0 ↔ mayP 4 m = true := by cases mayP 4 m <;> simp [okE]
  clear hT
  generalize mayP 4 m = R at *
  unfold mvv
  generalize m.kd = kd at *
  generalize m.fr = fr at *
  generalize m.to = tt at *
  generalize m.sq = sq at *
  generalize m.wh = wh at *
  generalize m.k.i = ki at *
  generalize m.k.s = ks at *
  generalize m.ns = ns at *
  generalize m.tb = tb at *
  generalize m.ep = ep at *
  generalize m.bo = bo at *
  generalize m.ak = ak at *
  generalize m.ts = ts at *
  generalize m.tn = tn at *
  generalize m.gd = gd at *
  go_enter Tryd.func77, Tryd.ntmps77
  go_wp2_with (go_at_call 78; refine (HC.out _ HB.out).mono ?_; rintro e w2 ⟨rfl, hb⟩)
  go_ret
  exact ⟨ret_bool' (by rw [Bool.eq_iff_iff]; simpa using hO), HB.out.trans (hb.mono HB.out.size)⟩
set_option maxRecDepth 100000 in
set_option maxHeartbeats 4000000 in
theorem may7_any (m : Mg) (v : Value) (w : World) (h : MsgV w v m) : Calls Tryd.prog 84 #[v] w fun e w' => e = .returned (.bool (mayP 7 m)) ∧ Below w.heap.size w w' := by
  obtain ⟨A, cA, T, cT, rfl, hA, hT, l1, l2, l3⟩ := h
  have HB : Hid (Below w.heap.size w (w.alloc (.cells #[.int .i64 m.kd, .int .i64 m.fr, .int .i64 m.to, .int .u64 (m.sq : Int), .int .i64 m.wh, .int .u64 m.k.i, .int .i64 m.k.s, (.slice A m.ns.length cA), (.slice T m.tb.length cT), .int .u64 (m.ep : Int), .int .u64 (m.bo : Int), .int .i64 m.ak, .string m.ts, .int .u64 (m.tn : Int), .bool m.gd] 28))) := Lib.hid ((Below.refl _ _).alloc (Nat.le_refl _) _)
  have hR : mayP 7 m = (decide (0 ≤ m.ak) && decide (m.ak ≤ 1099511627776)) := rfl
  rw [hR]
  clear hR
  rcases e0 : decide (0 ≤ m.ak) with _ | _
  · rw [Bool.false_and]
    unfold mvv
    generalize m.kd = kd at *
    generalize m.fr = fr at *
    generalize m.to = tt at *
    generalize m.sq = sq at *
    generalize m.wh = wh at *
    generalize m.k.i = ki at *
    generalize m.k.s = ks at *
    generalize m.ns = ns at *
    generalize m.tb = tb at *
    generalize m.ep = ep at *
    generalize m.bo = bo at *
    generalize m.ak = ak at *
    generalize m.ts = ts at *
    generalize m.tn = tn at *
    generalize m.gd = gd at *
    go_enter Tryd.func84, Tryd.ntmps84
    go_wp2_with fail
    go_ret
    exact ⟨rfl, HB.out⟩
  rw [Bool.true_and]
  unfold mvv
  generalize m.kd = kd at *
  generalize m.fr = fr at *
  generalize m.to = tt at *
  generalize m.sq = sq at *
  generalize m.wh = wh at *
  generalize m.k.i = ki at *
  generalize m.k.s = ks at *
  generalize m.ns = ns at *
  generalize m.tb = tb at *
  generalize m.ep = ep at *
  generalize m.bo = bo at *
  generalize m.ak = ak at *
  generalize m.ts = ts at *
  generalize m.tn = tn at *
  generalize m.gd = gd at *
  go_enter Tryd.func84, Tryd.ntmps84
  go_wp2_with fail
  go_ret
  exact ⟨rfl, HB.out⟩
set_option maxRecDepth 100000 in
set_option maxHeartbeats 4000000 in
theorem may8_any (m : Mg) (v : Value) (w : World) (h : MsgV w v m) : Calls Tryd.prog 89 #[v] w fun e w' => e = .returned (.bool (mayP 8 m)) ∧ Below w.heap.size w w' := by
  obtain ⟨A, cA, T, cT, rfl, hA, hT, l1, l2, l3⟩ := h
  have HB : Hid (Below w.heap.size w (w.alloc (.cells #[.int .i64 m.kd, .int .i64 m.fr, .int .i64 m.to, .int .u64 (m.sq : Int), .int .i64 m.wh, .int .u64 m.k.i, .int .i64 m.k.s, (.slice A m.ns.length cA), (.slice T m.tb.length cT), .int .u64 (m.ep : Int), .int .u64 (m.bo : Int), .int .i64 m.ak, .string m.ts, .int .u64 (m.tn : Int), .bool m.gd] 28))) := Lib.hid ((Below.refl _ _).alloc (Nat.le_refl _) _)
  have HC := Lib.hid (fun (W : World) => name_any m.ts W (by omega))
  have hR : mayP 8 m = nameB m.ts := rfl
  rw [hR]
  clear hR
  generalize nameB m.ts = R at *
  unfold mvv
  generalize m.kd = kd at *
  generalize m.fr = fr at *
  generalize m.to = tt at *
  generalize m.sq = sq at *
  generalize m.wh = wh at *
  generalize m.k.i = ki at *
  generalize m.k.s = ks at *
  generalize m.ns = ns at *
  generalize m.tb = tb at *
  generalize m.ep = ep at *
  generalize m.bo = bo at *
  generalize m.ak = ak at *
  generalize m.ts = ts at *
  generalize m.tn = tn at *
  generalize m.gd = gd at *
  go_enter Tryd.func89, Tryd.ntmps89
  go_wp2_with (go_at_call 15; refine (HC.out _).mono ?_; rintro e w2 ⟨rfl, hb⟩)
  go_ret
  exact ⟨rfl, HB.out.trans (hb.mono HB.out.size)⟩
set_option maxRecDepth 100000 in
set_option maxHeartbeats 4000000 in
theorem zero1_any (m : Mg) (v : Value) (w : World) (h : MsgV w v m) : Calls Tryd.prog 57 #[v] w fun e w' => e = .returned (.bool (zeroP 1 m)) ∧ Below w.heap.size w w' := by
  obtain ⟨A, cA, T, cT, rfl, hA, hT, l1, l2, l3⟩ := h
  have HB : Hid (Below w.heap.size w (w.alloc (.cells #[.int .i64 m.kd, .int .i64 m.fr, .int .i64 m.to, .int .u64 (m.sq : Int), .int .i64 m.wh, .int .u64 m.k.i, .int .i64 m.k.s, (.slice A m.ns.length cA), (.slice T m.tb.length cT), .int .u64 (m.ep : Int), .int .u64 (m.bo : Int), .int .i64 m.ak, .string m.ts, .int .u64 (m.tn : Int), .bool m.gd] 28))) := Lib.hid ((Below.refl _ _).alloc (Nat.le_refl _) _)
  have hR : zeroP 1 m = decide (m.wh = 0) := rfl
  rw [hR]
  clear hR
  unfold mvv
  generalize m.kd = kd at *
  generalize m.fr = fr at *
  generalize m.to = tt at *
  generalize m.sq = sq at *
  generalize m.wh = wh at *
  generalize m.k.i = ki at *
  generalize m.k.s = ks at *
  generalize m.ns = ns at *
  generalize m.tb = tb at *
  generalize m.ep = ep at *
  generalize m.bo = bo at *
  generalize m.ak = ak at *
  generalize m.ts = ts at *
  generalize m.tn = tn at *
  generalize m.gd = gd at *
  go_enter Tryd.func57, Tryd.ntmps57
  go_wp2_with fail
  go_ret
  exact ⟨ret_bool' (by rw [Bool.eq_iff_iff]; simp), HB.out⟩
set_option maxRecDepth 100000 in
set_option maxHeartbeats 4000000 in
theorem zero2_any (m : Mg) (v : Value) (w : World) (h : MsgV w v m) : Calls Tryd.prog 63 #[v] w fun e w' => e = .returned (.bool (zeroP 2 m)) ∧ Below w.heap.size w w' := by
  obtain ⟨A, cA, T, cT, rfl, hA, hT, l1, l2, l3⟩ := h
  have HB : Hid (Below w.heap.size w (w.alloc (.cells #[.int .i64 m.kd, .int .i64 m.fr, .int .i64 m.to, .int .u64 (m.sq : Int), .int .i64 m.wh, .int .u64 m.k.i, .int .i64 m.k.s, (.slice A m.ns.length cA), (.slice T m.tb.length cT), .int .u64 (m.ep : Int), .int .u64 (m.bo : Int), .int .i64 m.ak, .string m.ts, .int .u64 (m.tn : Int), .bool m.gd] 28))) := Lib.hid ((Below.refl _ _).alloc (Nat.le_refl _) _)
  have hR : zeroP 2 m = (decide (m.k.i = 0) && decide (m.k.s = 0)) := by
    show decide (m.k = z0) = _
    rw [Bool.eq_iff_iff, Bool.and_eq_true, decide_eq_true_eq, decide_eq_true_eq, decide_eq_true_eq]
    constructor
    · intro e; rw [e]; exact ⟨rfl, rfl⟩
    · rintro ⟨e1, e2⟩; rcases hk : m.k with ⟨i, s⟩; rw [hk] at e1 e2; simp only at e1 e2; rw [e1, e2]; rfl
  rw [hR]
  clear hR
  unfold mvv
  generalize m.kd = kd at *
  generalize m.fr = fr at *
  generalize m.to = tt at *
  generalize m.sq = sq at *
  generalize m.wh = wh at *
  generalize m.k.i = ki at *
  generalize m.k.s = ks at *
  generalize m.ns = ns at *
  generalize m.tb = tb at *
  generalize m.ep = ep at *
  generalize m.bo = bo at *
  generalize m.ak = ak at *
  generalize m.ts = ts at *
  generalize m.tn = tn at *
  generalize m.gd = gd at *
  by_cases h1 : ki = 0
  · subst h1
    by_cases h2 : ks = 0
    · subst h2
      go_enter Tryd.func63, Tryd.ntmps63
      go_wp2_with fail
      go_ret
      exact ⟨rfl, HB.out⟩
    · go_enter Tryd.func63, Tryd.ntmps63
      go_wp2_with fail
      go_ret
      exact ⟨ret_bool' (by simp [h2]), HB.out⟩
  · go_enter Tryd.func63, Tryd.ntmps63
    go_wp2_with fail
    go_ret
    exact ⟨ret_bool' (by simp [h1]), HB.out⟩
set_option maxRecDepth 100000 in
set_option maxHeartbeats 4000000 in
theorem zero3_any (m : Mg) (v : Value) (w : World) (h : MsgV w v m) : Calls Tryd.prog 70 #[v] w fun e w' => e = .returned (.bool (zeroP 3 m)) ∧ Below w.heap.size w w' := by
  obtain ⟨A, cA, T, cT, rfl, hA, hT, l1, l2, l3⟩ := h
  have HB : Hid (Below w.heap.size w (w.alloc (.cells #[.int .i64 m.kd, .int .i64 m.fr, .int .i64 m.to, .int .u64 (m.sq : Int), .int .i64 m.wh, .int .u64 m.k.i, .int .i64 m.k.s, (.slice A m.ns.length cA), (.slice T m.tb.length cT), .int .u64 (m.ep : Int), .int .u64 (m.bo : Int), .int .i64 m.ak, .string m.ts, .int .u64 (m.tn : Int), .bool m.gd] 28))) := Lib.hid ((Below.refl _ _).alloc (Nat.le_refl _) _)
  have hR : zeroP 3 m = decide (m.ns.length = 0) := by
    show decide (m.ns = []) = _
    rw [Bool.eq_iff_iff, decide_eq_true_eq, decide_eq_true_eq, List.length_eq_zero_iff]
  rw [hR]
  clear hR hA
  generalize m.ns.length = n at *
  unfold mvv
  generalize m.kd = kd at *
  generalize m.fr = fr at *
  generalize m.to = tt at *
  generalize m.sq = sq at *
  generalize m.wh = wh at *
  generalize m.k.i = ki at *
  generalize m.k.s = ks at *
  generalize m.tb = tb at *
  generalize m.ep = ep at *
  generalize m.bo = bo at *
  generalize m.ak = ak at *
  generalize m.ts = ts at *
  generalize m.tn = tn at *
  generalize m.gd = gd at *
  go_enter Tryd.func70, Tryd.ntmps70
  go_wp2_with fail
  go_ret
  exact ⟨ret_bool' (by rw [Bool.eq_iff_iff]; simp), HB.out⟩
set_option maxRecDepth 100000 in
set_option maxHeartbeats 4000000 in
theorem zero4_any (m : Mg) (v : Value) (w : World) (h : MsgV w v m) : Calls Tryd.prog 79 #[v] w fun e w' => e = .returned (.bool (zeroP 4 m)) ∧ Below w.heap.size w w' := by
  obtain ⟨A, cA, T, cT, rfl, hA, hT, l1, l2, l3⟩ := h
  have HB : Hid (Below w.heap.size w (w.alloc (.cells #[.int .i64 m.kd, .int .i64 m.fr, .int .i64 m.to, .int .u64 (m.sq : Int), .int .i64 m.wh, .int .u64 m.k.i, .int .i64 m.k.s, (.slice A m.ns.length cA), (.slice T m.tb.length cT), .int .u64 (m.ep : Int), .int .u64 (m.bo : Int), .int .i64 m.ak, .string m.ts, .int .u64 (m.tn : Int), .bool m.gd] 28))) := Lib.hid ((Below.refl _ _).alloc (Nat.le_refl _) _)
  have hR : zeroP 4 m = decide (m.tb.length = 0) := by
    show decide (m.tb = []) = _
    rw [Bool.eq_iff_iff, decide_eq_true_eq, decide_eq_true_eq, List.length_eq_zero_iff]
  rw [hR]
  clear hR hT
  generalize m.tb.length = n at *
  unfold mvv
  generalize m.kd = kd at *
  generalize m.fr = fr at *
  generalize m.to = tt at *
  generalize m.sq = sq at *
  generalize m.wh = wh at *
  generalize m.k.i = ki at *
  generalize m.k.s = ks at *
  generalize m.ns = ns at *
  generalize m.ep = ep at *
  generalize m.bo = bo at *
  generalize m.ak = ak at *
  generalize m.ts = ts at *
  generalize m.tn = tn at *
  generalize m.gd = gd at *
  go_enter Tryd.func79, Tryd.ntmps79
  go_wp2_with fail
  go_ret
  exact ⟨ret_bool' (by rw [Bool.eq_iff_iff]; simp), HB.out⟩
set_option maxRecDepth 100000 in
set_option maxHeartbeats 4000000 in
theorem zero7_any (m : Mg) (v : Value) (w : World) (h : MsgV w v m) : Calls Tryd.prog 85 #[v] w fun e w' => e = .returned (.bool (zeroP 7 m)) ∧ Below w.heap.size w w' := by
  obtain ⟨A, cA, T, cT, rfl, hA, hT, l1, l2, l3⟩ := h
  have HB : Hid (Below w.heap.size w (w.alloc (.cells #[.int .i64 m.kd, .int .i64 m.fr, .int .i64 m.to, .int .u64 (m.sq : Int), .int .i64 m.wh, .int .u64 m.k.i, .int .i64 m.k.s, (.slice A m.ns.length cA), (.slice T m.tb.length cT), .int .u64 (m.ep : Int), .int .u64 (m.bo : Int), .int .i64 m.ak, .string m.ts, .int .u64 (m.tn : Int), .bool m.gd] 28))) := Lib.hid ((Below.refl _ _).alloc (Nat.le_refl _) _)
  have hR : zeroP 7 m = decide (m.ak = 0) := rfl
  rw [hR]
  clear hR
  unfold mvv
  generalize m.kd = kd at *
  generalize m.fr = fr at *
  generalize m.to = tt at *
  generalize m.sq = sq at *
  generalize m.wh = wh at *
  generalize m.k.i = ki at *
  generalize m.k.s = ks at *
  generalize m.ns = ns at *
  generalize m.tb = tb at *
  generalize m.ep = ep at *
  generalize m.bo = bo at *
  generalize m.ak = ak at *
  generalize m.ts = ts at *
  generalize m.tn = tn at *
  generalize m.gd = gd at *
  go_enter Tryd.func85, Tryd.ntmps85
  go_wp2_with fail
  go_ret
  exact ⟨ret_bool' (by rw [Bool.eq_iff_iff]; simp), HB.out⟩
set_option maxRecDepth 100000 in
set_option maxHeartbeats 4000000 in
theorem zero8_any (m : Mg) (v : Value) (w : World) (h : MsgV w v m) : Calls Tryd.prog 90 #[v] w fun e w' => e = .returned (.bool (zeroP 8 m)) ∧ Below w.heap.size w w' := by
  obtain ⟨A, cA, T, cT, rfl, hA, hT, l1, l2, l3⟩ := h
  have HB : Hid (Below w.heap.size w (w.alloc (.cells #[.int .i64 m.kd, .int .i64 m.fr, .int .i64 m.to, .int .u64 (m.sq : Int), .int .i64 m.wh, .int .u64 m.k.i, .int .i64 m.k.s, (.slice A m.ns.length cA), (.slice T m.tb.length cT), .int .u64 (m.ep : Int), .int .u64 (m.bo : Int), .int .i64 m.ak, .string m.ts, .int .u64 (m.tn : Int), .bool m.gd] 28))) := Lib.hid ((Below.refl _ _).alloc (Nat.le_refl _) _)
  have hR : zeroP 8 m = decide (m.ts = ⟨#[]⟩) := rfl
  rw [hR]
  clear hR
  unfold mvv
  generalize m.kd = kd at *
  generalize m.fr = fr at *
  generalize m.to = tt at *
  generalize m.sq = sq at *
  generalize m.wh = wh at *
  generalize m.k.i = ki at *
  generalize m.k.s = ks at *
  generalize m.ns = ns at *
  generalize m.tb = tb at *
  generalize m.ep = ep at *
  generalize m.bo = bo at *
  generalize m.ak = ak at *
  generalize m.ts = ts at *
  generalize m.tn = tn at *
  generalize m.gd = gd at *
  go_enter Tryd.func90, Tryd.ntmps90
  go_wp2_with fail
  go_ret
  exact ⟨ret_bool' (by rw [Bool.eq_iff_iff]; simp [str_nil]), HB.out⟩
set_option maxRecDepth 100000 in
set_option maxHeartbeats 4000000 in
theorem zero10_any (m : Mg) (v : Value) (w : World) (h : MsgV w v m) : Calls Tryd.prog 96 #[v] w fun e w' => e = .returned (.bool (zeroP 10 m)) ∧ Below w.heap.size w w' := by
  obtain ⟨A, cA, T, cT, rfl, hA, hT, l1, l2, l3⟩ := h
  have HB : Hid (Below w.heap.size w (w.alloc (.cells #[.int .i64 m.kd, .int .i64 m.fr, .int .i64 m.to, .int .u64 (m.sq : Int), .int .i64 m.wh, .int .u64 m.k.i, .int .i64 m.k.s, (.slice A m.ns.length cA), (.slice T m.tb.length cT), .int .u64 (m.ep : Int), .int .u64 (m.bo : Int), .int .i64 m.ak, .string m.ts, .int .u64 (m.tn : Int), .bool m.gd] 28))) := Lib.hid ((Below.refl _ _).alloc (Nat.le_refl _) _)
  have hR : zeroP 10 m = !m.gd := rfl
  rw [hR]
  clear hR
  unfold mvv
  generalize m.kd = kd at *
  generalize m.fr = fr at *
  generalize m.to = tt at *
  generalize m.sq = sq at *
  generalize m.wh = wh at *
  generalize m.k.i = ki at *
  generalize m.k.s = ks at *
  generalize m.ns = ns at *
  generalize m.tb = tb at *
  generalize m.ep = ep at *
  generalize m.bo = bo at *
  generalize m.ak = ak at *
  generalize m.ts = ts at *
  generalize m.tn = tn at *
  generalize m.gd = gd at *
  go_enter Tryd.func96, Tryd.ntmps96
  go_wp2_with fail
  go_ret
  exact ⟨rfl, HB.out⟩
set_option maxRecDepth 100000 in
set_option maxHeartbeats 4000000 in
theorem zeronum_any (f g n : Nat) (m : Mg) (v : Value) (w : World) (h : MsgV w v m) (hg : w.cell? ⟨g, 0, none⟩ = some (.func (.func f) #[] #[])) (hf : Enters Tryd.prog f)
    (hc : ∀ W : World, MsgV W v m → Calls Tryd.prog f #[v] W fun e w' => e = .returned (.int .u64 (n : Int)) ∧ Below W.heap.size W w') :
    Calls Tryd.prog 104 #[v, .pointer (some ⟨g, 0, none⟩)] w fun e w' => e = .returned (.bool (decide (n = 0))) ∧ Below w.heap.size w w' := by
  have hm := h
  obtain ⟨A, cA, T, cT, rfl, hA, hT, l1, l2, l3⟩ := h
  have HB : Hid (Below w.heap.size w (w.alloc (.cells #[.int .i64 m.kd, .int .i64 m.fr, .int .i64 m.to, .int .u64 (m.sq : Int), .int .i64 m.wh, .int .u64 m.k.i, .int .i64 m.k.s, (.slice A m.ns.length cA), (.slice T m.tb.length cT), .int .u64 (m.ep : Int), .int .u64 (m.bo : Int), .int .i64 m.ak, .string m.ts, .int .u64 (m.tn : Int), .bool m.gd] 28))) := Lib.hid ((Below.refl _ _).alloc (Nat.le_refl _) _)
  have hg2 : (w.alloc (.cells #[.int .i64 m.kd, .int .i64 m.fr, .int .i64 m.to, .int .u64 (m.sq : Int), .int .i64 m.wh, .int .u64 m.k.i, .int .i64 m.k.s, (.slice A m.ns.length cA), (.slice T m.tb.length cT), .int .u64 (m.ep : Int), .int .u64 (m.bo : Int), .int .i64 m.ak, .string m.ts, .int .u64 (m.tn : Int), .bool m.gd] 28)).cell? ⟨g, 0, none⟩ = some (.func (.func f) #[] #[]) := (HB.out.cell (World.block_lt_of_cell? w _ hg)).trans hg
  have HC := Lib.hid (hc _ (hm.on HB.out))
  have hf' : ∀ (args : Array Value) (w : World), (callFunc f args).run Tryd.prog w = .ok (.enter f args) w := hf
  clear hf
  clear hA hT hm hc hg
  unfold mvv at *
  generalize m.kd = kd at *
  generalize m.fr = fr at *
  generalize m.to = tt at *
  generalize m.sq = sq at *
  generalize m.wh = wh at *
  generalize m.k.i = ki at *
  generalize m.k.s = ks at *
  generalize m.ns = ns at *
  generalize m.tb = tb at *
  generalize m.ep = ep at *
  generalize m.bo = bo at *
  generalize m.ak = ak at *
  generalize m.ts = ts at *
  generalize m.tn = tn at *
  generalize m.gd = gd at *
  go_enter Tryd.func104, Tryd.ntmps104
  go_wp2_with (go_at_fn f; refine HC.out.mono ?_; rintro e w2 ⟨rfl, hb⟩)
  go_ret
  exact ⟨ret_bool' (by rw [Bool.eq_iff_iff]; simp), HB.out.trans (hb.mono HB.out.size)⟩
end Go.Proofs.YtjeepmdklbfgeaaDoor

namespace Go.Proofs.YtjeepmdklbfgeaaDoor
open Go.Sort Go.RowKit Go.Proofs.YtjeepmdklbfgeaaDoor.Pure Go.Proofs.YtjeepmdklbfgeaaDoor.W Go.Proofs.YtjeepmdklbfgeaaDoor.W.Pure

/-- Of the blocks below B only those of S may have been written. -/
structure Kp (B : Nat) (S : List Nat) (w w' : World) : Prop where
  os : w'.os = w.os
  tape : w'.tape = w.tape
  output : w'.output = w.output
  size : w.heap.size ≤ w'.heap.size
  block : ∀ k, k < B → ¬ k ∈ S → w'.heap[k]? = w.heap[k]?
section
variable {B : Nat} {S : List Nat} {a b c w w' : World}
theorem Kp.of (h : Below B w w') : Kp B S w w' := ⟨h.os, h.tape, h.output, h.size, fun k hk _ => h.block k hk⟩
theorem Kp.below (h : Kp B [] w w') : Below B w w' := ⟨h.os, h.tape, h.output, h.size, fun k hk => h.block k hk (by simp)⟩
theorem Kp.refl (B : Nat) (S : List Nat) (w : World) : Kp B S w w := ⟨rfl, rfl, rfl, Nat.le_refl _, fun _ _ _ => rfl⟩
theorem Kp.trans (h : Kp B S a b) (k : Kp B S b c) : Kp B S a c :=
  ⟨k.os.trans h.os, k.tape.trans h.tape, k.output.trans h.output, Nat.le_trans h.size k.size, fun i hi hn => (k.block i hi hn).trans (h.block i hi hn)⟩
/-- Fewer blocks, more that may be written; what lies above plays no part. -/
theorem Kp.mono {B' : Nat} {S' : List Nat} (h : Kp B S a b) (hB : B' ≤ B) (hS : ∀ k, k < B' → k ∈ S → k ∈ S') : Kp B' S' a b :=
  ⟨h.os, h.tape, h.output, h.size, fun i hi hn => h.block i (by omega) (fun e => hn (hS i hi e))⟩
theorem Kp.set (h : Kp B S a w) {p : Addr} (hp : p.block ∈ S ∨ B ≤ p.block) (u : Value) : Kp B S a (w.setCell p u) :=
  ⟨h.os, h.tape, h.output, by simpa using h.size, fun i hi hn => (Below.heap_setCell w p u i (fun e => by
    rcases hp with hp | hp
    · exact hn (e ▸ hp)
    · omega)).trans (h.block i hi hn)⟩
theorem Kp.alloc (h : Kp B S a w) (hB : B ≤ w.heap.size) (o : Obj) : Kp B S a (w.alloc o) := h.trans (Kp.of ((Below.refl B w).alloc hB o))
theorem Kp.cell (h : Kp B S w w') {p : Addr} (hp : p.block < B) (hn : ¬ p.block ∈ S) : w'.cell? p = w.cell? p := World.cell?_of_block (h.block _ hp hn)
theorem Kp.frozen (h : Kp B S w w') {p : Addr} (hp : p.block < B) (hn : ¬ p.block ∈ S) : w'.frozen? p = w.frozen? p := World.frozen?_of_block (h.block _ hp hn)
end

/-- The cells of block b are cs; they may be written. -/
def Row (w : World) (b : Nat) (cs : List Value) : Prop := (∀ j, j < cs.length → w.cell? ⟨b, j, none⟩ = cs[j]?) ∧ ∀ o : Nat, w.frozen? ⟨b, o, none⟩ = false
section
variable {w w' : World} {b : Nat} {cs : List Value} {B : Nat} {S : List Nat}
theorem Row.lt (h : Row w b cs) (hc : 0 < cs.length) : b < w.heap.size := by
  have := h.1 0 hc
  rw [List.getElem?_eq_getElem hc] at this
  exact World.block_lt_of_cell? w _ this
theorem Row.at_ (h : Row w b cs) (j : Nat) (v : Value) (hv : cs[j]? = some v) : w.cell? ⟨b, j, none⟩ = some v :=
  (h.1 j (List.getElem?_eq_some_iff.1 hv).1).trans hv
theorem Row.kp (h : Row w b cs) (hk : Kp B S w w') (hB : b < B) (hS : ¬ b ∈ S) : Row w' b cs :=
  ⟨fun j hj => (hk.cell hB hS).trans (h.1 j hj), fun o => (hk.frozen (p := ⟨b, o, none⟩) hB hS).trans (h.2 o)⟩
theorem Row.on (h : Row w b cs) (hb : Below w.heap.size w w') (hc : 0 < cs.length) : Row w' b cs := h.kp (Kp.of (S := []) hb) (h.lt hc) (by simp)
theorem Row.new (w : World) (cs : Array Value) (t : TypeId) : Row (w.alloc (.cells cs t)) w.heap.size cs.toList :=
  ⟨fun j _ => by rw [World.cell?_alloc_new]; simp, fun o => World.frozen?_alloc_new w _ _ o⟩
theorem Row.set (h : Row w b cs) (j : Nat) (hj : j < cs.length) (v : Value) : Row (w.setCell ⟨b, j, none⟩ v) b (cs.set j v) := by
  refine ⟨fun i hi => ?_, fun o => by rw [World.frozen?_setCell]; exact h.2 o⟩
  rw [List.length_set] at hi
  rw [List.getElem?_set]
  by_cases e : j = i
  · subst e
    rw [if_pos rfl, if_pos hj]
    exact World.cell?_setCell_same _ _ _ (h.at_ j cs[j] (by simp [hj]))
  · rw [if_neg e, World.cell?_setCell_other _ _ _ _ (fun e' => e (by injection e'))]
    exact h.1 i hi
theorem Row.other (h : Row w b cs) {p : Addr} (hp : b ≠ p.block) (v : Value) : Row (w.setCell p v) b cs :=
  ⟨fun i hi => by rw [World.cell?_setCell_other _ _ _ _ (fun e => hp (by rw [e]))]; exact h.1 i hi, fun o => by rw [World.frozen?_setCell]; exact h.2 o⟩
end
theorem OwnN.kp {w w' : World} {B : Nat} {v : Value} {xs : List Nw} {S : List Nat} (h : OwnN w B v xs) (hk : Kp w.heap.size S w w') (hS : ∀ k ∈ S, k < B) : OwnN w' B v xs :=
  h.keep fun k e => hk.block k (h.ge k e).2 (fun hm => by have := (h.ge k e).1; have := hS k hm; omega)
theorem Own.kp {w w' : World} {B : Nat} {v : Value} {xs : List Kn} {S : List Nat} (h : Own w B v xs) (hk : Kp w.heap.size S w w') (hS : ∀ k ∈ S, k < B) : Own w' B v xs := by
  refine ⟨h.1, ?_⟩
  have hge := h.ge
  rcases h.2 with h | ⟨g, cap, cur, rfl, h2, h3, h4⟩
  · exact .inl h
  · exact .inr ⟨g, cap, cur, rfl, h2, (hk.block g (hge g rfl).2 (fun hm => by have := hS g hm; omega)).trans h3, h4⟩

/-- Octets that are taken, in block b. -/
def TkAt (w : World) (b : Nat) (s : ByteArray) (t : Tk) : Prop := Row w b [.string s, .int .i64 (t.p : Int), .bool t.b]
theorem TkAt.lt {w : World} {b : Nat} {s : ByteArray} {t : Tk} (h : TkAt w b s t) : b < w.heap.size := Row.lt h (show 0 < 3 by decide)
theorem TkAt.kp {w w' : World} {b : Nat} {s : ByteArray} {t : Tk} {S : List Nat} (h : TkAt w b s t) (hk : Kp w.heap.size S w w') (hS : ¬ b ∈ S) : TkAt w' b s t := Row.kp h hk h.lt hS
theorem TkAt.on {w w' : World} {b : Nat} {s : ByteArray} {t : Tk} (h : TkAt w b s t) (hb : Below w.heap.size w w') : TkAt w' b s t := Row.on h hb (show 0 < 3 by decide)
theorem TkAt.cells {w : World} {b : Nat} {s : ByteArray} {t : Tk} (h : TkAt w b s t) : w.cell? ⟨b, 0, none⟩ = some (.string s) ∧ w.cell? ⟨b, 1, none⟩ = some (.int .i64 (t.p : Int)) ∧ w.cell? ⟨b, 2, none⟩ = some (.bool t.b) ∧ ∀ o : Nat, w.frozen? ⟨b, o, none⟩ = false :=
  ⟨Row.at_ h 0 _ rfl, Row.at_ h 1 _ rfl, Row.at_ h 2 _ rfl, h.2⟩
theorem TkAt.go {w : World} {b : Nat} {s : ByteArray} {t : Tk} (h : TkAt w b s t) (n : Nat) : TkAt (w.setCell ⟨b, 1, none⟩ (.int .i64 (n : Int))) b s ⟨n, t.b⟩ := Row.set h 1 (by decide : 1 < 3) _
theorem TkAt.bad {w : World} {b : Nat} {s : ByteArray} {t : Tk} (h : TkAt w b s t) : TkAt (w.setCell ⟨b, 2, none⟩ (.bool true)) b s ⟨t.p, true⟩ := Row.set h 2 (by decide : 2 < 3) _
theorem block_addr (b o : Nat) : (⟨b, o, none⟩ : Addr).block = b := rfl
/-- What a call that takes leaves. -/
def Took (w : World) (b : Nat) (s : ByteArray) (t : Tk) (w' : World) : Prop := TkAt w' b s t ∧ Kp w.heap.size [b] w w'
end Go.Proofs.YtjeepmdklbfgeaaDoor
