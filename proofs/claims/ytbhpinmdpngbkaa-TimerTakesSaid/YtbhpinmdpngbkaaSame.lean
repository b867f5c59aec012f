/-
  The walks of the document's Same, Due, Drop.
-/
import Derived.Test.YtbhpinmdpngbkaaDue
import Derived.Laws.StructEq
namespace Go.Proofs.Ytbhpinmdpngbkaa
open Go.RowKit Go.Proofs.Ytbhpinmdpngbkaa.Pure

set_option maxRecDepth 100000 in
set_option maxHeartbeats 1000000 in
theorem same_yes (A A' : Option Addr) (c c' lo hi lo' hi' : Nat) (xs : List Tm) (w : World) (hn : xs.length ≤ 100000) (h : Has w lo hi A xs) (h' : Has w lo' hi' A' xs) :
    Calls Try.prog 17 #[.slice A xs.length c, .slice A' xs.length c'] w fun e w' => e = .returned (.bool true) ∧ Below w.heap.size w w' := by
  have H := Lib.hid h
  have H' := Lib.hid h'
  clear h h'
  go_enter Try.func17, Try.ntmps17
  go_wp2_with fail
  go_loopw [5] (fun i wr => ∃ j m : Nat, j ≤ xs.length ∧ i = .int .i64 j ∧ wr = w.drewN m) (fun i _ => xs.length - (intOf i).toNat)
  case atStart => exact ⟨0, 0, Nat.zero_le _, rfl, rfl⟩
  case round =>
    obtain ⟨j, m, hj, rfl, rfl⟩ := hrel
    by_cases hlt : j < xs.length
    · have j0 : (0 : Int) ≤ (j : Int) := by omega
      have j1 : (j : Int) < (xs.length : Int) := by omega
      obtain ⟨ad, rfl, _, _, hc⟩ := H.out j hlt
      obtain ⟨ad', rfl, _, _, hc'⟩ := H'.out j hlt
      generalize xs.getD j zt = y at *
      obtain ⟨a1, a2, a3, a4⟩ := hc.flat
      obtain ⟨b1, b2, b3, b4⟩ := hc'.flat
      clear hc hc'
      go_wp2_with fail
      go_quiet (fail)
      go_wp2
      go_roundw
      case rel => exact ⟨j + 1, _, by omega, by go_num, rfl⟩
      case measure => simp [intOf]; omega
    · go_wp2
      go_ret
      exact ⟨rfl, below_drewN (Below.refl _ _) _⟩

/-- A slice of the call's own that holds ys; nothing else has changed. -/
def Makes (W : World) (ys : List Tm) (e : Ending) (w' : World) : Prop :=
  ∃ lv, e = .returned lv ∧ Own w' W.heap.size lv ys ∧ Below W.heap.size W w'

set_option maxRecDepth 100000 in
set_option maxHeartbeats 2000000 in
theorem rdue_yes (A : Option Addr) (c lo hi : Nat) (xs : List Tm) (now : Int) (w : World) (hn : xs.length ≤ 1000) (h : Has w lo hi A xs) (hh : hi ≤ w.heap.size) :
    Calls Try.prog 22 #[.slice A xs.length c, .int .i64 now, .bool true] w (Makes w (dueL now xs)) := by
  have H := Lib.hid h
  clear h
  go_enter Try.func22, Try.ntmps22
  go_wp2_with fail
  go_loopw [7, 8] (fun l i wr => ∃ k : Nat, i = .int .i64 k ∧ k ≤ xs.length ∧ Hid (Own wr w.heap.size l ((xs.take k).filter fun x => decide (x.a ≤ now))) ∧ Hid (Below w.heap.size w wr)) (fun _ i _ => xs.length - (intOf i).toNat)
  case atStart => exact ⟨0, by go_num, Nat.zero_le _, Lib.hid (Own.nil _ _), Lib.hid (Below.refl _ _)⟩
  case round =>
    obtain ⟨k, rfl, hk, ho, hb⟩ := hrel
    by_cases hlt : k < xs.length
    · obtain ⟨ad, rfl, _, _, hat⟩ := (H.out.on hb.out hh) k hlt
      obtain ⟨p, q, r, s, ex, a1, a2, a3, a4⟩ := hat.cells
      have HEX := Lib.hid ex
      have k0 : (0 : Int) ≤ (k : Int) := by omega
      have k1 : (k : Int) < (xs.length : Int) := by omega
      have hz2 : w.heap.size ≤ wr.heap.size := hb.out.size
      have HF := Lib.hid (filter_take_succ (fun x => decide (x.a ≤ now)) xs k hlt)
      have hfl := filter_take_len (fun x => decide (x.a ≤ now)) xs k
      rw [HEX.out] at HF
      generalize hF : (xs.take k).filter (fun x => decide (x.a ≤ now)) = F at *
      clear hat ex hF
      by_cases hle : p ≤ now
      · have hd : decide (p ≤ now) = true := by simpa using hle
        have HF2 : Hid ((xs.take (k + 1)).filter (fun x => decide (x.a ≤ now)) = F ++ [⟨p, q, r, s⟩]) := Lib.hid (by rw [HF.out]; simp [hd])
        clear HF hle
        go_wp2_with (at_builtin; refine wpList_append_has rfl _ _ rfl w.heap.size _ F rfl ?c1 (some ⟨wr.heap.size, 0, none⟩) 1 wr.heap.size (wr.heap.size + 1) [⟨p, q, r, s⟩] rfl ?c2 ?c3 ?c4 ?_)
        case c1 => exact ho.out.alloc _
        case c2 => exact has_one wr p q r s 33
        case c3 => simp; omega
        case c4 => simp; omega
        intro lv3 w3 hown3 hgrow3
        have HO : Hid (Own w3 w.heap.size lv3 ((xs.take (k + 1)).filter fun x => decide (x.a ≤ now))) := Lib.hid (by rw [HF2.out]; exact hown3)
        have HB : Hid (Below w.heap.size w w3) := Lib.hid ((hb.out.alloc hz2 _).grown hgrow3 (by simp; omega) (fun k hk => (ho.out.ge k hk).1))
        clear hown3 hgrow3 ho hb a1 a2 a3 a4
        go_wp2_with fail
        go_roundw
        case rel => exact ⟨k + 1, by go_num, by omega, HO, HB⟩
        case measure => simp [intOf]; omega
      · have hd : decide (p ≤ now) = false := by simpa using hle
        have HF2 : Hid ((xs.take (k + 1)).filter (fun x => decide (x.a ≤ now)) = F) := Lib.hid (by rw [HF.out]; simp [hd])
        clear HF hle
        go_wp2_with fail
        go_roundw
        case rel => exact ⟨k + 1, by go_num, by omega, by rw [HF2.out]; exact ho, hb⟩
        case measure => simp [intOf]; omega
    · obtain rfl : k = xs.length := by omega
      have HE : Hid (Makes w (dueL now xs) (.returned u7) wr) := Lib.hid ⟨_, rfl, by
        have := ho.out
        rwa [List.take_length] at this, hb.out⟩
      go_wp2
      go_ret
      exact HE.out

set_option maxRecDepth 100000 in
set_option maxHeartbeats 2000000 in
theorem rdue_rest (A : Option Addr) (c lo hi : Nat) (xs : List Tm) (now : Int) (w : World) (hn : xs.length ≤ 1000) (h : Has w lo hi A xs) (hh : hi ≤ w.heap.size) :
    Calls Try.prog 22 #[.slice A xs.length c, .int .i64 now, .bool false] w (Makes w (restL now xs)) := by
  have H := Lib.hid h
  clear h
  go_enter Try.func22, Try.ntmps22
  go_wp2_with fail
  go_loopw [7, 8] (fun l i wr => ∃ k : Nat, i = .int .i64 k ∧ k ≤ xs.length ∧ Hid (Own wr w.heap.size l ((xs.take k).filter fun x => !decide (x.a ≤ now))) ∧ Hid (Below w.heap.size w wr)) (fun _ i _ => xs.length - (intOf i).toNat)
  case atStart => exact ⟨0, by go_num, Nat.zero_le _, Lib.hid (Own.nil _ _), Lib.hid (Below.refl _ _)⟩
  case round =>
    obtain ⟨k, rfl, hk, ho, hb⟩ := hrel
    by_cases hlt : k < xs.length
    · obtain ⟨ad, rfl, _, _, hat⟩ := (H.out.on hb.out hh) k hlt
      obtain ⟨p, q, r, s, ex, a1, a2, a3, a4⟩ := hat.cells
      have HEX := Lib.hid ex
      have k0 : (0 : Int) ≤ (k : Int) := by omega
      have k1 : (k : Int) < (xs.length : Int) := by omega
      have hz2 : w.heap.size ≤ wr.heap.size := hb.out.size
      have HF := Lib.hid (filter_take_succ (fun x => !decide (x.a ≤ now)) xs k hlt)
      have hfl := filter_take_len (fun x => !decide (x.a ≤ now)) xs k
      rw [HEX.out] at HF
      generalize hF : (xs.take k).filter (fun x => !decide (x.a ≤ now)) = F at *
      clear hat ex hF
      by_cases hle : p ≤ now
      · have hd : decide (p ≤ now) = true := by simpa using hle
        have HF2 : Hid ((xs.take (k + 1)).filter (fun x => !decide (x.a ≤ now)) = F) := Lib.hid (by rw [HF.out]; simp [hd])
        clear HF hle
        go_wp2_with fail
        go_roundw
        case rel => exact ⟨k + 1, by go_num, by omega, by rw [HF2.out]; exact ho, hb⟩
        case measure => simp [intOf]; omega
      · have hd : decide (p ≤ now) = false := by simpa using hle
        have HF2 : Hid ((xs.take (k + 1)).filter (fun x => !decide (x.a ≤ now)) = F ++ [⟨p, q, r, s⟩]) := Lib.hid (by rw [HF.out]; simp [hd])
        clear HF hle
        go_wp2_with (at_builtin; refine wpList_append_has rfl _ _ rfl w.heap.size _ F rfl ?c1 (some ⟨wr.heap.size, 0, none⟩) 1 wr.heap.size (wr.heap.size + 1) [⟨p, q, r, s⟩] rfl ?c2 ?c3 ?c4 ?_)
        case c1 => exact ho.out.alloc _
        case c2 => exact has_one wr p q r s 33
        case c3 => simp; omega
        case c4 => simp; omega
        intro lv3 w3 hown3 hgrow3
        have HO : Hid (Own w3 w.heap.size lv3 ((xs.take (k + 1)).filter fun x => !decide (x.a ≤ now))) := Lib.hid (by rw [HF2.out]; exact hown3)
        have HB : Hid (Below w.heap.size w w3) := Lib.hid ((hb.out.alloc hz2 _).grown hgrow3 (by simp; omega) (fun k hk => (ho.out.ge k hk).1))
        clear hown3 hgrow3 ho hb a1 a2 a3 a4
        go_wp2_with fail
        go_roundw
        case rel => exact ⟨k + 1, by go_num, by omega, HO, HB⟩
        case measure => simp [intOf]; omega
    · obtain rfl : k = xs.length := by omega
      have HE : Hid (Makes w (restL now xs) (.returned u7) wr) := Lib.hid ⟨_, rfl, by
        have := ho.out
        rwa [List.take_length] at this, hb.out⟩
      go_wp2
      go_ret
      exact HE.out

set_option maxRecDepth 100000 in
set_option maxHeartbeats 2000000 in
theorem rdrop_any (A : Option Addr) (c lo hi : Nat) (xs : List Tm) (kind who : Int) (w : World) (hn : xs.length ≤ 1000) (h : Has w lo hi A xs) (hh : hi ≤ w.heap.size) :
    Calls Try.prog 23 #[.slice A xs.length c, .int .i64 kind, .int .i64 who] w (Makes w (dropL kind who xs)) := by
  have H := Lib.hid h
  clear h
  go_enter Try.func23, Try.ntmps23
  go_wp2_with fail
  go_loopw [7, 8] (fun l i wr => ∃ k : Nat, i = .int .i64 k ∧ k ≤ xs.length ∧ Hid (Own wr w.heap.size l ((xs.take k).filter fun x => x.k != kind || x.o != who)) ∧ Hid (Below w.heap.size w wr)) (fun _ i _ => xs.length - (intOf i).toNat)
  case atStart => exact ⟨0, by go_num, Nat.zero_le _, Lib.hid (Own.nil _ _), Lib.hid (Below.refl _ _)⟩
  case round =>
    obtain ⟨k, rfl, hk, ho, hb⟩ := hrel
    by_cases hlt : k < xs.length
    · obtain ⟨ad, rfl, _, _, hat⟩ := (H.out.on hb.out hh) k hlt
      obtain ⟨p, q, r, s, ex, a1, a2, a3, a4⟩ := hat.cells
      have HEX := Lib.hid ex
      have k0 : (0 : Int) ≤ (k : Int) := by omega
      have k1 : (k : Int) < (xs.length : Int) := by omega
      have hz2 : w.heap.size ≤ wr.heap.size := hb.out.size
      have HF := Lib.hid (filter_take_succ (fun x => x.k != kind || x.o != who) xs k hlt)
      have hfl := filter_take_len (fun x => x.k != kind || x.o != who) xs k
      rw [HEX.out] at HF
      generalize hF : (xs.take k).filter (fun x => x.k != kind || x.o != who) = F at *
      clear hat ex hF
      obtain ⟨keep, hkeep⟩ : ∃ keep : Bool, (q != kind || r != who) = keep := ⟨_, rfl⟩
      rcases keep with _ | _
      · have HF2 : Hid ((xs.take (k + 1)).filter (fun x => x.k != kind || x.o != who) = F) := Lib.hid (by rw [HF.out]; simp only [hkeep]; simp)
        have hk2 := Bool.or_eq_false_iff.1 hkeep
        have hq := hk2.1
        have hr := hk2.2
        clear hkeep hk2 HF
        go_wp2_with fail
        go_roundw
        case rel => exact ⟨k + 1, by go_num, by omega, by rw [HF2.out]; exact ho, hb⟩
        case measure => simp [intOf]; omega
      · have HF2 : Hid ((xs.take (k + 1)).filter (fun x => x.k != kind || x.o != who) = F ++ [⟨p, q, r, s⟩]) := Lib.hid (by rw [HF.out]; simp only [hkeep]; simp)
        clear HF
        rcases hq : (q != kind) with _ | _
        · have hr : (r != who) = true := by rw [hq] at hkeep; simpa using hkeep
          clear hkeep
          go_wp2_with (at_builtin; refine wpList_append_has rfl _ _ rfl w.heap.size _ F rfl ?c1 (some ⟨wr.heap.size, 0, none⟩) 1 wr.heap.size (wr.heap.size + 1) [⟨p, q, r, s⟩] rfl ?c2 ?c3 ?c4 ?_)
          case c1 => exact ho.out.alloc _
          case c2 => exact has_one wr p q r s 33
          case c3 => simp; omega
          case c4 => simp; omega
          intro lv3 w3 hown3 hgrow3
          have HO : Hid (Own w3 w.heap.size lv3 ((xs.take (k + 1)).filter fun x => x.k != kind || x.o != who)) := Lib.hid (by rw [HF2.out]; exact hown3)
          have HB : Hid (Below w.heap.size w w3) := Lib.hid ((hb.out.alloc hz2 _).grown hgrow3 (by simp; omega) (fun k hk => (ho.out.ge k hk).1))
          clear hown3 hgrow3 ho hb a1 a2 a3 a4
          go_wp2_with fail
          go_roundw
          case rel => exact ⟨k + 1, by go_num, by omega, HO, HB⟩
          case measure => simp [intOf]; omega
        · clear hkeep
          go_wp2_with (at_builtin; refine wpList_append_has rfl _ _ rfl w.heap.size _ F rfl ?c1 (some ⟨wr.heap.size, 0, none⟩) 1 wr.heap.size (wr.heap.size + 1) [⟨p, q, r, s⟩] rfl ?c2 ?c3 ?c4 ?_)
          case c1 => exact ho.out.alloc _
          case c2 => exact has_one wr p q r s 33
          case c3 => simp; omega
          case c4 => simp; omega
          intro lv3 w3 hown3 hgrow3
          have HO : Hid (Own w3 w.heap.size lv3 ((xs.take (k + 1)).filter fun x => x.k != kind || x.o != who)) := Lib.hid (by rw [HF2.out]; exact hown3)
          have HB : Hid (Below w.heap.size w w3) := Lib.hid ((hb.out.alloc hz2 _).grown hgrow3 (by simp; omega) (fun k hk => (ho.out.ge k hk).1))
          clear hown3 hgrow3 ho hb a1 a2 a3 a4
          go_wp2_with fail
          go_roundw
          case rel => exact ⟨k + 1, by go_num, by omega, HO, HB⟩
          case measure => simp [intOf]; omega
    · obtain rfl : k = xs.length := by omega
      have HE : Hid (Makes w (dropL kind who xs) (.returned u7) wr) := Lib.hid ⟨_, rfl, by
        have := ho.out
        rwa [List.take_length] at this, hb.out⟩
      go_wp2
      go_ret
      exact HE.out
end Go.Proofs.Ytbhpinmdpngbkaa
