/-
  The walks of Add, Sort, Due, Drop, Next.
-/
import Derived.Test.YtbhpinmdpngbkaaPop
namespace Go.Proofs.Ytbhpinmdpngbkaa
open Go.RowKit Go.Proofs.Ytbhpinmdpngbkaa.Pure

/-- All of a heap, in order. -/
def All (g : Nat) (v : Value) (xs : List Tm) (w : World) (e : Ending) (w' : World) : Prop :=
  ∃ lv, e = .returned lv ∧ Own w' w.heap.size lv (srt xs) ∧ Kept w w' (Its g v)
theorem Until.all {B g : Nat} {v : Value} {xs : List Tm} {w : World} {e : Ending} {w' : World} (h : Until B g v xs 9223372036854775807 w e w') (hx : ∀ x ∈ xs, x.a ≤ 9223372036854775807) : All g v xs w e w' := by
  obtain ⟨lv, v', ys, zs, rfl, ht, hz⟩ := h
  have : zs = [] := by
    rcases zs with _ | ⟨z, r⟩
    · rfl
    · have h1 := hz z (List.mem_cons_self ..)
      have h2 := hx z (ht.perm.subset (List.mem_append_right _ (List.mem_cons_self ..)))
      omega
  subst this
  refine ⟨lv, rfl, ?_, ht.kept⟩
  have hp := ht.perm
  rw [List.append_nil] at hp
  rw [srt_eq ht.sorted hp]
  exact ht.own

set_option maxRecDepth 100000 in
set_option maxHeartbeats 1000000 in
theorem all_any (B g : Nat) (v : Value) (xs : List Tm) (w : World) (hn : xs.length ≤ 1000) (hx : ∀ x ∈ xs, x.a ≤ 9223372036854775807) (h : Hp w B g v xs) (hi : IsHeap xs) :
    Calls Try.prog 26 #[.pointer (some ⟨g, 0, none⟩)] w (All g v xs w) := by
  have HU : Hid (Calls Try.prog 32 #[.pointer (some ⟨g, 0, none⟩), .int .i64 9223372036854775807] w (All g v xs w)) := Lib.hid ((until_any B g v xs 9223372036854775807 w hn h hi).mono fun _ _ hu => hu.all hx)
  clear h hi hx
  go_enter Try.func26, Try.ntmps26
  go_wp2_with fail
  refine HU.out.mono ?_
  rintro e w1 ⟨lv, rfl, ho, hk⟩
  have HE := Lib.hid (And.intro ho hk)
  clear ho hk
  go_wp2_with fail
  go_ret
  exact ⟨lv, rfl, HE.out⟩

/-- What stands: a heap, all of it new. -/
def Stands (xs : List Tm) (w : World) (e : Ending) (w' : World) : Prop :=
  ∃ g v, e = .returned (.pointer (some ⟨g, 0, none⟩)) ∧ Hp w' w.heap.size g v xs ∧ Below w.heap.size w w'

set_option maxRecDepth 100000 in
set_option maxHeartbeats 1000000 in
theorem standing_any (A : Option Addr) (c lo hi : Nat) (xs : List Tm) (w : World) (hn : xs.length ≤ 1000) (h : Has w lo hi A xs) (hh : hi ≤ w.heap.size) :
    Calls Try.prog 24 #[.slice A xs.length c] w (Stands xs w) := by
  have HC := Lib.hid (clone_any A c xs lo hi w hn h hh)
  clear h
  go_enter Try.func24, Try.ntmps24
  go_wp2_with fail
  refine HC.out.mono ?_
  rintro e w1 ⟨v, rfl, hown, hb1⟩
  obtain ⟨A', c', rfl, _, _⟩ := hown.has
  have HE : Hid (Stands xs w (.returned (.pointer (some ⟨w1.heap.size, 0, none⟩))) (w1.alloc (.cells #[.slice A' xs.length c'] 61))) := Lib.hid
    ⟨_, _, rfl, ⟨hown.alloc _, by go_simp, by go_simp, fun e => by have := hown.ge _ e; omega, hb1.size⟩, hb1.alloc hb1.size _⟩
  clear hown hb1 HC
  go_wp2_with fail
  go_ret
  exact HE.out

theorem Hp.size_le {w : World} {B g : Nat} {v : Value} {xs : List Tm} (h : Hp w B g v xs) : B < w.heap.size := Nat.lt_of_le_of_lt h.lo h.bound
theorem Its.ge {w : World} {B g : Nat} {v : Value} {xs : List Tm} (h : Hp w B g v xs) : ∀ k, Its g v k → B ≤ k := fun k hk => by
  rcases hk with e | e
  · rw [e]; exact h.lo
  · exact (h.own.ge k e).1

/-- What Add, or Sort, answers where it adds: a slice of its own, in order. -/
def Added (W : World) (zs : List Tm) (e : Ending) (w' : World) : Prop :=
  ∃ lv, e = .returned (.tuple #[lv, .int .i64 0]) ∧ Own w' W.heap.size lv zs ∧ Below W.heap.size W w'

set_option maxRecDepth 100000 in
set_option maxHeartbeats 4000000 in
theorem add_yes (A T : Option Addr) (c d lo hi lo' hi' : Nat) (xs ts : List Tm) (w : World) (hm : mayB xs = true) (hn : xs.length + ts.length ≤ 256) (hx : ∀ x ∈ xs ++ ts, x.a ≤ 9223372036854775807)
    (h : Has w lo hi A xs) (hh : hi ≤ w.heap.size) (ht : Has w lo' hi' T ts) (hh' : hi' ≤ w.heap.size) :
    Calls Try.prog 11 #[.slice A xs.length c, .slice T ts.length d] w (Added w (srt (xs ++ ts))) := by
  have HC := Lib.hid (check_any A c lo hi xs w (by omega) h hh true hm)
  have H := Lib.hid h
  have HT := Lib.hid ht
  have HX := Lib.hid hx
  have HS := Lib.hid (heap_of_sorted ((mayB_iff xs).1 hm).2)
  have d1 : decide ((256 : Int) < (xs.length : Int) + (ts.length : Int)) = false := by simp; omega
  clear h ht hx hm
  go_enter Try.func11, Try.ntmps11
  go_wp2_with fail
  refine HC.out.mono ?_
  rintro e w1 ⟨rfl, hb1⟩
  have hok : okE true = 0 := rfl
  rw [hok]
  have HB1 := Lib.hid hb1
  have HST := Lib.hid (standing_any A c lo hi xs w1 (by omega) (H.out.on hb1 hh) (by have := hb1.size; omega))
  clear hb1 HC hok
  go_wp2_with fail
  refine HST.out.mono ?_
  rintro e w2 ⟨g, v, rfl, hh2, hb2⟩
  have HH2 := Lib.hid (hh2)
  have hz1 : w.heap.size ≤ w1.heap.size := HB1.out.size
  have HB2 : Hid (Below w.heap.size w w2) := Lib.hid (HB1.out.trans (hb2.mono hz1))
  clear hh2 hb2 HST
  go_wp2_with fail
  go_loopw [25] (fun i wr => ∃ (k : Nat) (v : Value) (ys : List Tm), i = .int .i64 k ∧ k ≤ ts.length ∧ Hid (Hp wr w1.heap.size g v ys) ∧ Hid (IsHeap ys) ∧ Hid (ys.Perm (xs ++ ts.take k)) ∧ Hid (Below w.heap.size w wr)) (fun i _ => ts.length - (intOf i).toNat)
  case atStart => exact ⟨0, v, xs, by go_num, Nat.zero_le _, HH2, HS, Lib.hid (by simp), HB2⟩
  case round =>
    obtain ⟨k, v, ys, rfl, hk, hp, hi, hpm, hb⟩ := hrel
    have hyl : ys.length = xs.length + k := by have := hpm.out.length_eq; simp at this; omega
    have hyl' : ys.length ≤ 1000 := by omega
    have HYL := Lib.hid hyl
    clear hyl
    by_cases hlt : k < ts.length
    · obtain ⟨ad, rfl, _, _, hat⟩ := (HT.out.on hb.out hh') k hlt
      obtain ⟨p, q, r, s, ex, a1, a2, a3, a4⟩ := hat.cells
      have HEX := Lib.hid ex
      have k0 : (0 : Int) ≤ (k : Int) := by omega
      have k1 : (k : Int) < (ts.length : Int) := by omega
      have hz2 : w1.heap.size ≤ wr.heap.size := Nat.le_of_lt hp.out.size_le
      clear hat ex
      go_wp2_with fail
      refine (hpush_any w1.heap.size g v ys p q r s _ hyl' (hp.out.alloc _) hi.out (by simp; omega)).mono ?_
      rintro e w3 ⟨v3, ys3, rfl, hh3, hi3, hp3, hat3, hk3⟩
      have HH3 := Lib.hid hh3
      have HI3 := Lib.hid hi3
      have HP3 : Hid (ys3.Perm (xs ++ ts.take (k + 1))) := Lib.hid (by
        have e : ts.take (k + 1) = ts.take k ++ [⟨p, q, r, s⟩] := by
          rw [List.take_succ_eq_append_getElem hlt]
          have : ts[k] = ts.getD k zt := by simp [List.getD, hlt]
          rw [this, HEX.out]
        rw [e, ← List.append_assoc]
        exact hp3.trans (hpm.out.append_right _))
      have HB3 : Hid (Below w.heap.size w w3) := Lib.hid ((hb.out.alloc hb.out.size _).trans (hk3.below (by have := hb.out.size; simp; omega) fun i hi => Nat.le_trans hz1 (Its.ge hp.out i hi)))
      clear hh3 hi3 hp3 hat3 hk3 a1 a2 a3 a4 hb hpm hp hi
      go_wp2_with fail
      go_roundw
      case rel => exact ⟨k + 1, v3, ys3, by go_num, by omega, HH3, HI3, HP3, HB3⟩
      case measure => simp [intOf]; omega
    · obtain rfl : k = ts.length := by omega
      have HP : Hid (ys.Perm (xs ++ ts)) := Lib.hid (by have := hpm.out; rwa [List.take_length] at this)
      have HA := Lib.hid (all_any w1.heap.size g v ys wr hyl' (fun x hx => HX.out x (HP.out.subset hx)) hp.out hi.out)
      go_wp2_with fail
      refine HA.out.mono ?_
      rintro e w4 ⟨lv, rfl, ho4, hk4⟩
      have HE : Hid (Added w (srt (xs ++ ts)) (.returned (.tuple #[lv, .int .i64 0])) w4) := Lib.hid ⟨lv, rfl, by
        rw [← srt_congr HP.out]
        exact ho4.mono hb.out.size, hb.out.trans (hk4.below hb.out.size fun i hi => Nat.le_trans hz1 (Its.ge hp.out i hi))⟩
      clear ho4 hk4
      go_wp2_with fail
      go_ret2
      exact HE.out

set_option maxRecDepth 100000 in
set_option maxHeartbeats 1000000 in
theorem add_bad (A T : Option Addr) (c d lo hi m : Nat) (xs : List Tm) (w : World) (hm : mayB xs = false) (hn : xs.length ≤ 1000) (h : Has w lo hi A xs) (hh : hi ≤ w.heap.size) :
    Calls Try.prog 11 #[.slice A xs.length c, .slice T m d] w fun e w' => e = .returned (.tuple #[.slice none 0 0, .int .i64 1]) ∧ Below w.heap.size w w' := by
  have HC := Lib.hid (check_any A c lo hi xs w hn h hh false hm)
  clear h hm
  go_enter Try.func11, Try.ntmps11
  go_wp2_with fail
  refine HC.out.mono ?_
  rintro e w1 ⟨rfl, hb1⟩
  have hok : okE false = 1 := rfl
  rw [hok]
  have HB1 := Lib.hid hb1
  clear hb1 HC hok
  go_wp2_with fail
  go_ret2
  exact ⟨rfl, HB1.out⟩

set_option maxRecDepth 100000 in
set_option maxHeartbeats 1000000 in
theorem add_full (A T : Option Addr) (c d lo hi m : Nat) (xs : List Tm) (w : World) (hm : mayB xs = true) (hn : 256 < xs.length + m) (hm' : m ≤ 1000) (h : Has w lo hi A xs) (hh : hi ≤ w.heap.size) :
    Calls Try.prog 11 #[.slice A xs.length c, .slice T m d] w fun e w' => e = .returned (.tuple #[.slice none 0 0, .int .i64 9]) ∧ Below w.heap.size w w' := by
  have hl := ((mayB_iff xs).1 hm).1
  have HC := Lib.hid (check_any A c lo hi xs w (by omega) h hh true hm)
  have d1 : decide ((256 : Int) < (xs.length : Int) + (m : Int)) = true := by simp; omega
  clear h hm
  go_enter Try.func11, Try.ntmps11
  go_wp2_with fail
  refine HC.out.mono ?_
  rintro e w1 ⟨rfl, hb1⟩
  have hok : okE true = 0 := rfl
  rw [hok]
  have HB1 := Lib.hid hb1
  clear hb1 HC hok
  go_wp2_with fail
  go_ret2
  exact ⟨rfl, HB1.out⟩
end Go.Proofs.Ytbhpinmdpngbkaa
