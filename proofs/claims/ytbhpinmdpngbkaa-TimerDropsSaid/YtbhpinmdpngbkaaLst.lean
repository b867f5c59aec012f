/-
  What the calls answer, in terms of lists that memory holds.
-/
import Derived.Test.YtbhpinmdpngbkaaRsort
namespace Go.Proofs.Ytbhpinmdpngbkaa
open Go.RowKit Go.Proofs.Ytbhpinmdpngbkaa.Pure

/-- The slice that begins at A holds the timers xs, wherever it lies. -/
def Lst (w : World) (A : Option Addr) (xs : List Tm) : Prop := Has w 0 w.heap.size A xs
section
variable {w w' : World} {A : Option Addr} {xs : List Tm}
theorem Lst.on (h : Lst w A xs) (hb : Below w.heap.size w w') : Lst w' A xs := (Has.on h hb (Nat.le_refl _)).wide (Nat.le_refl _) hb.size
theorem Lst.alloc (h : Lst w A xs) (o : Obj) : Lst (w.alloc o) A xs := h.on ((Below.refl _ _).alloc (Nat.le_refl _) o)
theorem Lst.drew (h : Lst w A xs) : Lst w.drew A xs := h
theorem Lst.nil (w : World) (A : Option Addr) : Lst w A [] := Has.nil _ _ _ _
theorem Lst.of {lo hi : Nat} (h : Has w lo hi A xs) (hh : hi ≤ w.heap.size) : Lst w A xs := h.wide (Nat.zero_le _) hh
theorem Own.lst {B : Nat} {v : Value} (h : Own w B v xs) : ∃ A c, v = .slice A xs.length c ∧ xs.length ≤ c ∧ Lst w A xs := by
  obtain ⟨A, c, e, hc, hh⟩ := h.has
  exact ⟨A, c, e, hc, Lst.of hh (Nat.le_refl _)⟩
end

/-- A call answers the timers ys, and the error er. -/
def Gives (w : World) (ys : List Tm) (er : Int) (e : Ending) (w' : World) : Prop :=
  ∃ A c, e = .returned (.tuple #[.slice A ys.length c, .int .i64 er]) ∧ Lst w' A ys ∧ Below w.heap.size w w'
theorem gives_none {w w' : World} {er : Int} {e : Ending} (h : e = .returned (.tuple #[.slice none 0 0, .int .i64 er]) ∧ Below w.heap.size w w') : Gives w [] er e w' :=
  ⟨none, 0, h.1, Lst.nil _ _, h.2⟩
/-- A call answers the timers ys, the timers zs, and the error er. -/
def Gives2 (w : World) (ys zs : List Tm) (er : Int) (e : Ending) (w' : World) : Prop :=
  ∃ A c A' c', e = .returned (.tuple #[.slice A ys.length c, .slice A' zs.length c', .int .i64 er]) ∧ Lst w' A ys ∧ Lst w' A' zs ∧ Below w.heap.size w w'
/-- A call answers the timers ys. -/
def Lists (w : World) (ys : List Tm) (e : Ending) (w' : World) : Prop :=
  ∃ A c, e = .returned (.slice A ys.length c) ∧ Lst w' A ys ∧ Below w.heap.size w w'
theorem Makes.lists {w w' : World} {ys : List Tm} {e : Ending} (h : Makes w ys e w') : Lists w ys e w' := by
  obtain ⟨lv, rfl, ho, hb⟩ := h
  obtain ⟨A, c, rfl, _, hl⟩ := ho.lst
  exact ⟨A, c, rfl, hl, hb⟩
/-- At, of all of them, is a number that there is. -/
def Fits (xs : List Tm) : Prop := ∀ x ∈ xs, x.a ≤ 9223372036854775807

section
variable {w : World} {A T : Option Addr} {xs ts : List Tm} {c d : Nat}
theorem l_check (h : Lst w A xs) (hn : xs.length ≤ 1000) (L : Bool) (hL : mayB xs = L) : Calls Try.prog 12 #[.slice A xs.length c] w fun e w' => e = .returned (.int .i64 (okE L)) ∧ Below w.heap.size w w' :=
  check_any A c _ _ xs w hn h (Nat.le_refl _) L hL
theorem l_may (h : Lst w A xs) (hn : xs.length ≤ 1000) (L : Bool) (hL : mayB xs = L) : Calls Try.prog 13 #[.slice A xs.length c] w fun e w' => e = .returned (.bool L) ∧ Below w.heap.size w w' :=
  may_any A c _ _ xs w hn h (Nat.le_refl _) L hL
theorem l_add (h : Lst w A xs) (ht : Lst w T ts) (hm : mayB xs = true) (hn : xs.length + ts.length ≤ 256) (hx : Fits xs) (hy : Fits ts) : Calls Try.prog 11 #[.slice A xs.length c, .slice T ts.length d] w (Gives w (srt (xs ++ ts)) 0) :=
  (add_yes A T c d _ _ _ _ xs ts w hm hn (fun x hx' => (List.mem_append.1 hx').elim (hx x) (hy x)) h (Nat.le_refl _) ht (Nat.le_refl _)).mono fun e w' ⟨lv, he, ho, hb⟩ => by
    obtain ⟨A', c', rfl, _, hl⟩ := ho.lst
    exact ⟨A', c', he, hl, hb⟩
theorem l_add_bad (h : Lst w A xs) (m : Nat) (hm : mayB xs = false) (hn : xs.length ≤ 1000) : Calls Try.prog 11 #[.slice A xs.length c, .slice T m d] w (Gives w [] 1) :=
  (add_bad A T c d _ _ m xs w hm hn h (Nat.le_refl _)).mono fun _ _ h => gives_none h
theorem l_add_full (h : Lst w A xs) (m : Nat) (hm : mayB xs = true) (hn : 256 < xs.length + m) (hm' : m ≤ 1000) : Calls Try.prog 11 #[.slice A xs.length c, .slice T m d] w (Gives w [] 9) :=
  (add_full A T c d _ _ m xs w hm hn hm' h (Nat.le_refl _)).mono fun _ _ h => gives_none h
theorem l_sort (ht : Lst w T ts) (hn : ts.length ≤ 256) (hy : Fits ts) : Calls Try.prog 10 #[.slice T ts.length d] w (Gives w (srt ts) 0) :=
  (sort_yes T d _ _ ts w hn hy ht (Nat.le_refl _)).mono fun e w' ⟨lv, he, ho, hb⟩ => by
    obtain ⟨A', c', rfl, _, hl⟩ := ho.lst
    exact ⟨A', c', he, hl, hb⟩
theorem l_sort_full (m : Nat) (hn : 256 < m) (hm' : m ≤ 1000) : Calls Try.prog 10 #[.slice T m d] w (Gives w [] 9) :=
  (sort_full T m d w hn hm').mono fun _ _ h => gives_none h
theorem l_due (h : Lst w A xs) (now : Int) (hm : mayB xs = true) (hx : Fits xs) : Calls Try.prog 19 #[.slice A xs.length c, .int .i64 now] w (Gives2 w (dueL now xs) (restL now xs) 0) :=
  (due_yes A c _ _ xs now w hm hx h (Nat.le_refl _)).mono fun e w' ⟨lv, rv, he, ho, hr, hb⟩ => by
    obtain ⟨A', c', rfl, _, hl⟩ := ho.lst
    obtain ⟨A2, c2, rfl, _, hl2⟩ := hr.lst
    exact ⟨A', c', A2, c2, he, hl, hl2, hb⟩
theorem l_due_bad (h : Lst w A xs) (now : Int) (hm : mayB xs = false) (hn : xs.length ≤ 1000) : Calls Try.prog 19 #[.slice A xs.length c, .int .i64 now] w (Gives2 w [] [] 1) :=
  (due_bad A c _ _ xs now w hm hn h (Nat.le_refl _)).mono fun _ _ ⟨he, hb⟩ => ⟨none, 0, none, 0, he, Lst.nil _ _, Lst.nil _ _, hb⟩
theorem l_drop (h : Lst w A xs) (kind who : Int) (hm : mayB xs = true) : Calls Try.prog 20 #[.slice A xs.length c, .int .i64 kind, .int .i64 who] w (Gives w (dropL kind who xs) 0) :=
  (drop_yes A c _ _ xs kind who w hm h (Nat.le_refl _)).mono fun e w' ⟨lv, he, ho, hb⟩ => by
    obtain ⟨A', c', rfl, _, hl⟩ := ho.lst
    exact ⟨A', c', he, hl, hb⟩
theorem l_drop_bad (h : Lst w A xs) (kind who : Int) (hm : mayB xs = false) (hn : xs.length ≤ 1000) : Calls Try.prog 20 #[.slice A xs.length c, .int .i64 kind, .int .i64 who] w (Gives w [] 1) :=
  (drop_bad A c _ _ xs kind who w hm hn h (Nat.le_refl _)).mono fun _ _ h => gives_none h
theorem l_same {A' : Option Addr} {c' : Nat} (h : Lst w A xs) (h' : Lst w A' xs) (hn : xs.length ≤ 100000) : Calls Try.prog 17 #[.slice A xs.length c, .slice A' xs.length c'] w fun e w' => e = .returned (.bool true) ∧ Below w.heap.size w w' :=
  same_yes A A' c c' _ _ _ _ xs w hn h h'
theorem l_rsort (h : Lst w A xs) (hn : xs.length ≤ 1000) : Calls Try.prog 18 #[.slice A xs.length c] w (Lists w (srt xs)) :=
  (rsort_any A c _ _ xs w hn h (Nat.le_refl _)).mono fun _ _ h => h.lists
theorem l_rdue (h : Lst w A xs) (now : Int) (hn : xs.length ≤ 1000) : Calls Try.prog 22 #[.slice A xs.length c, .int .i64 now, .bool true] w (Lists w (dueL now xs)) :=
  (rdue_yes A c _ _ xs now w hn h (Nat.le_refl _)).mono fun _ _ h => h.lists
theorem l_rrest (h : Lst w A xs) (now : Int) (hn : xs.length ≤ 1000) : Calls Try.prog 22 #[.slice A xs.length c, .int .i64 now, .bool false] w (Lists w (restL now xs)) :=
  (rdue_rest A c _ _ xs now w hn h (Nat.le_refl _)).mono fun _ _ h => h.lists
theorem l_rdrop (h : Lst w A xs) (kind who : Int) (hn : xs.length ≤ 1000) : Calls Try.prog 23 #[.slice A xs.length c, .int .i64 kind, .int .i64 who] w (Lists w (dropL kind who xs)) :=
  (rdrop_any A c _ _ xs kind who w hn h (Nat.le_refl _)).mono fun _ _ h => h.lists
end

/-- Timers that are due at ticks. -/
def atL (is : List Int) : List Tm := is.map fun a => ⟨a, 0, 0, 0⟩
theorem at_take_succ (is : List Int) (k : Nat) (h : k < is.length) : atL (is.take (k + 1)) = atL (is.take k) ++ [⟨is.getD k 0, 0, 0, 0⟩] := by
  unfold atL
  rw [List.take_succ_eq_append_getElem h, List.map_append]
  simp [List.getD, h]

set_option maxRecDepth 100000 in
set_option maxHeartbeats 2000000 in
theorem at_any (ad : Addr) (c : Nat) (is : List Int) (w : World) (hn : is.length ≤ 100) (hlt : ad.block < w.heap.size) (h : ∀ j, j < is.length → w.cell? (ad.add j) = some (.int .i64 (is.getD j 0))) :
    Calls Try.prog 31 #[.slice (some ad) is.length c] w (Lists w (atL is)) := by
  have H := Lib.hid h
  have HM : Hid (∀ e w', Makes w (atL is) e w' → Lists w (atL is) e w') := Lib.hid (fun _ _ h => h.lists)
  clear h
  go_enter Try.func31, Try.ntmps31
  go_wp2_with fail
  go_loopw [3, 4] (fun l i wr => ∃ k : Nat, i = .int .i64 k ∧ k ≤ is.length ∧ Hid (Own wr w.heap.size l (atL (is.take k))) ∧ Hid (Below w.heap.size w wr)) (fun _ i _ => is.length - (intOf i).toNat)
  case atStart => exact ⟨0, by go_num, Nat.zero_le _, Lib.hid (Own.nil _ _), Lib.hid (Below.refl _ _)⟩
  case round =>
    obtain ⟨k, rfl, hk, ho, hb⟩ := hrel
    by_cases hlt' : k < is.length
    · have hcell : wr.cell? (ad.add k) = some (.int .i64 (is.getD k 0)) := (hb.out.cell (by rw [block_add]; exact hlt)).trans (H.out k hlt')
      have k0 : (0 : Int) ≤ (k : Int) := by omega
      have k1 : (k : Int) < (is.length : Int) := by omega
      have hz2 : w.heap.size ≤ wr.heap.size := hb.out.size
      have HF := Lib.hid (at_take_succ is k hlt')
      have hfl : (atL (is.take k)).length ≤ 100 := by unfold atL; rw [List.length_map, List.length_take]; omega
      generalize is.getD k 0 = a at *
      generalize hF : atL (is.take k) = F at *
      clear hF
      go_wp2_with (at_builtin; refine wpList_append_has rfl _ _ rfl w.heap.size _ F rfl ?c1 (some ⟨wr.heap.size, 0, none⟩) 1 wr.heap.size (wr.heap.size + 1) [⟨a, 0, 0, 0⟩] rfl ?c2 ?c3 ?c4 ?_)
      case c1 => exact ho.out.alloc _
      case c2 => exact has_one wr a 0 0 0 33
      case c3 => simp; omega
      case c4 => simp; omega
      intro lv3 w3 hown3 hgrow3
      have HO : Hid (Own w3 w.heap.size lv3 (atL (is.take (k + 1)))) := Lib.hid (by rw [HF.out]; exact hown3)
      have HB : Hid (Below w.heap.size w w3) := Lib.hid ((hb.out.alloc hz2 _).grown hgrow3 (by simp; omega) (fun k hk => (ho.out.ge k hk).1))
      clear hown3 hgrow3 ho hb hcell
      go_wp2_with fail
      go_roundw
      case rel => exact ⟨k + 1, by go_num, by omega, HO, HB⟩
      case measure => simp [intOf]; omega
    · obtain rfl : k = is.length := by omega
      have HE : Hid (Lists w (atL is) (.returned u3) wr) := Lib.hid (HM.out _ _ ⟨_, rfl, by
        have := ho.out
        rwa [List.take_length] at this, hb.out⟩)
      go_wp2
      go_ret
      exact HE.out

theorem ints_new (w : World) (is : List Int) (t : TypeId) : ∀ j, j < is.length → (w.alloc (.cells (is.map (Value.int .i64)).toArray t)).cell? ((⟨w.heap.size, 0, none⟩ : Addr).add j) = some (.int .i64 (is.getD j 0)) := by
  intro j hj
  have e : (⟨w.heap.size, 0, none⟩ : Addr).add j = ⟨w.heap.size, j, none⟩ := by unfold Addr.add; split <;> simp_all
  rw [e, World.cell?_alloc_mark]
  simp [List.getD, hj]
theorem l_at (w : World) (is : List Int) (c : Nat) (hn : is.length ≤ 100) : Calls Try.prog 31 #[.slice (some ⟨w.heap.size, 0, none⟩) is.length c] (w.alloc (.cells (is.map (Value.int .i64)).toArray 2)) (Lists (w.alloc (.cells (is.map (Value.int .i64)).toArray 2)) (atL is)) :=
  at_any _ c is _ hn (by simp) (ints_new w is _)
end Go.Proofs.Ytbhpinmdpngbkaa
