/-
  The walks of Sort, Due, Drop, Next.
-/
import Derived.Test.YtbhpinmdpngbkaaAdd
namespace Go.Proofs.Ytbhpinmdpngbkaa
open Go.RowKit Go.Proofs.Ytbhpinmdpngbkaa.Pure

set_option maxRecDepth 100000 in
set_option maxHeartbeats 1000000 in
theorem sort_yes (T : Option Addr) (d lo hi : Nat) (ts : List Tm) (w : World) (hn : ts.length ≤ 256) (hx : ∀ x ∈ ts, x.a ≤ 9223372036854775807) (ht : Has w lo hi T ts) (hh : hi ≤ w.heap.size) :
    Calls Try.prog 10 #[.slice T ts.length d] w (Added w (srt ts)) := by
  have HA := Lib.hid (add_yes none T 0 d 0 0 lo hi [] ts w (by rfl) (by simpa using hn) (by simpa using hx) (Has.nil _ _ _ _) (Nat.zero_le _) ht hh)
  clear ht hx
  go_enter Try.func10, Try.ntmps10
  go_wp2_with fail
  refine HA.out.mono ?_
  rintro e w1 ⟨lv, rfl, ho, hb⟩
  have HE : Hid (Added w (srt ts) (.returned (.tuple #[lv, .int .i64 0])) w1) := Lib.hid ⟨lv, rfl, ho, hb⟩
  clear ho hb
  go_wp2_with fail
  go_ret2
  exact HE.out
set_option maxRecDepth 100000 in
set_option maxHeartbeats 1000000 in
theorem sort_full (T : Option Addr) (m d : Nat) (w : World) (hn : 256 < m) (hm : m ≤ 1000) :
    Calls Try.prog 10 #[.slice T m d] w fun e w' => e = .returned (.tuple #[.slice none 0 0, .int .i64 9]) ∧ Below w.heap.size w w' := by
  have HA := Lib.hid (add_full none T 0 d 0 0 m [] w (by rfl) (by simpa using hn) hm (Has.nil _ _ _ _) (Nat.zero_le _))
  go_enter Try.func10, Try.ntmps10
  go_wp2_with fail
  refine HA.out.mono ?_
  rintro e w1 ⟨rfl, hb⟩
  have HE := Lib.hid hb
  clear hb
  go_wp2_with fail
  go_ret2
  exact ⟨rfl, HE.out⟩

/-- Those that are due, and the others. -/
def dueL (now : Int) (xs : List Tm) : List Tm := xs.filter fun x => decide (x.a ≤ now)
def restL (now : Int) (xs : List Tm) : List Tm := xs.filter fun x => !decide (x.a ≤ now)
theorem due_of {now : Int} {xs ys zs : List Tm} (hx : Sorted xs) (hp : (ys ++ zs).Perm xs) (hy : Sorted ys) (h1 : ∀ y ∈ ys, y.a ≤ now) (h2 : ∀ z ∈ zs, now < z.a) : ys = dueL now xs ∧ srt zs = restL now xs := by
  have f1 : (ys ++ zs).filter (fun x => decide (x.a ≤ now)) = ys := by
    rw [List.filter_append, List.filter_eq_self.2 (fun y hy => by simpa using h1 y hy), List.filter_eq_nil_iff.2 (fun z hz => by have := h2 z hz; simp; omega), List.append_nil]
  have f2 : (ys ++ zs).filter (fun x => !decide (x.a ≤ now)) = zs := by
    rw [List.filter_append, List.filter_eq_nil_iff.2 (fun y hy => by simpa using h1 y hy), List.filter_eq_self.2 (fun z hz => by have := h2 z hz; simp; omega), List.nil_append]
  constructor
  · refine sorted_unique hy (hx.filter _) ?_
    have := hp.filter (fun x => decide (x.a ≤ now))
    rwa [f1] at this
  · refine srt_eq (hx.filter _) ?_
    have := hp.filter (fun x => !decide (x.a ≤ now))
    rw [f2] at this
    exact this.symm

/-- What Due answers where timers may be. -/
def Dues (W : World) (ys zs : List Tm) (e : Ending) (w' : World) : Prop :=
  ∃ lv rv, e = .returned (.tuple #[lv, rv, .int .i64 0]) ∧ Own w' W.heap.size lv ys ∧ Own w' W.heap.size rv zs ∧ Below W.heap.size W w'

set_option maxRecDepth 100000 in
set_option maxHeartbeats 2000000 in
theorem due_yes (A : Option Addr) (c lo hi : Nat) (xs : List Tm) (now : Int) (w : World) (hm : mayB xs = true) (hx : ∀ x ∈ xs, x.a ≤ 9223372036854775807)
    (h : Has w lo hi A xs) (hh : hi ≤ w.heap.size) :
    Calls Try.prog 19 #[.slice A xs.length c, .int .i64 now] w (Dues w (dueL now xs) (restL now xs)) := by
  have hl := ((mayB_iff xs).1 hm).1
  have HC := Lib.hid (check_any A c lo hi xs w (by omega) h hh true hm)
  have H := Lib.hid h
  have HX := Lib.hid hx
  have HSO := Lib.hid ((mayB_iff xs).1 hm).2
  clear h hx hm
  go_enter Try.func19, Try.ntmps19
  go_wp2_with fail
  refine HC.out.mono ?_
  rintro e w1 ⟨rfl, hb1⟩
  have hok : okE true = 0 := rfl
  rw [hok]
  have HB1 := Lib.hid hb1
  have HST := Lib.hid (standing_any A c lo hi xs w1 (by omega) (H.out.on hb1 hh) (by have := hb1.size; omega))
  clear hb1 HC hok
  go_wp2_with fail
  refine HST.out.mono ?_
  rintro e w2 ⟨g, v, rfl, hh2, hb2⟩
  have HH2 := Lib.hid (hh2)
  have hz1 : w.heap.size ≤ w1.heap.size := HB1.out.size
  have HB2 : Hid (Below w.heap.size w w2) := Lib.hid (HB1.out.trans (hb2.mono hz1))
  have HU := Lib.hid (until_any w1.heap.size g v xs now w2 (by omega) hh2 (heap_of_sorted HSO.out))
  clear hh2 hb2 HST
  go_wp2_with fail
  refine HU.out.mono ?_
  rintro e w3 ⟨lv, v3, ys, zs, rfl, ht, hz⟩
  have HT := Lib.hid ht
  have HZ := Lib.hid hz
  have hzl : zs.length ≤ 1000 := by have := ht.len; omega
  have HA := Lib.hid (all_any w1.heap.size g v3 zs w3 hzl (fun z hz => HX.out z (HT.out.perm.subset (List.mem_append_right _ hz))) ht.hp ht.heap)
  clear ht hz HU
  go_wp2_with fail
  refine HA.out.mono ?_
  rintro e w4 ⟨rv, rfl, ho4, hk4⟩
  have HE : Hid (Dues w (dueL now xs) (restL now xs) (.returned (.tuple #[lv, rv, .int .i64 0])) w4) := Lib.hid (by
    obtain ⟨e1, e2⟩ := due_of HSO.out HT.out.perm HT.out.sorted HT.out.due HZ.out
    have hs3 : w2.heap.size ≤ w3.heap.size := HT.out.kept.size
    have hs2 : w.heap.size ≤ w2.heap.size := HB2.out.size
    refine ⟨lv, rv, rfl, ?_, ?_, ?_⟩
    · rw [← e1]
      refine (HT.out.own.mono hs2).keep fun k e => ?_
      have h1 := HT.out.own.ge k e
      refine hk4.block k h1.2 fun hi => ?_
      rcases hi with e3 | e3
      · have := HH2.out.bound; omega
      · have := (HH2.out.own.ge k (HT.out.same ▸ e3)).2; omega
    · rw [← e2]
      exact ho4.mono (by omega)
    · refine HB2.out.trans ((HT.out.kept.below hs2 fun i hi => Nat.le_trans hz1 (Its.ge HH2.out i hi)).trans (hk4.below (by omega) fun i hi => Nat.le_trans hz1 (Its.ge HT.out.hp i hi))))
  clear ho4 hk4
  go_wp2_with fail
  go_ret3
  exact HE.out

set_option maxRecDepth 100000 in
set_option maxHeartbeats 1000000 in
theorem due_bad (A : Option Addr) (c lo hi : Nat) (xs : List Tm) (now : Int) (w : World) (hm : mayB xs = false) (hn : xs.length ≤ 1000) (h : Has w lo hi A xs) (hh : hi ≤ w.heap.size) :
    Calls Try.prog 19 #[.slice A xs.length c, .int .i64 now] w fun e w' => e = .returned (.tuple #[.slice none 0 0, .slice none 0 0, .int .i64 1]) ∧ Below w.heap.size w w' := by
  have HC := Lib.hid (check_any A c lo hi xs w hn h hh false hm)
  clear h hm
  go_enter Try.func19, Try.ntmps19
  go_wp2_with fail
  refine HC.out.mono ?_
  rintro e w1 ⟨rfl, hb1⟩
  have hok : okE false = 1 := rfl
  rw [hok]
  have HB1 := Lib.hid hb1
  clear hb1 HC hok
  go_wp2_with fail
  go_ret3
  exact ⟨rfl, HB1.out⟩

/-- Those that are not of a kind, and of somebody. -/
def dropL (kind who : Int) (xs : List Tm) : List Tm := xs.filter fun x => x.k != kind || x.o != who
theorem filter_take_succ (f : Tm → Bool) (xs : List Tm) (j : Nat) (h : j < xs.length) : (xs.take (j + 1)).filter f = (xs.take j).filter f ++ if f (xs.getD j zt) then [xs.getD j zt] else [] := by
  have e : xs.getD j zt = xs[j] := by simp [List.getD, h]
  rw [List.take_succ_eq_append_getElem h, List.filter_append, e]
  cases hf : f xs[j] <;> simp [hf]
theorem filter_take_len (f : Tm → Bool) (xs : List Tm) (j : Nat) : ((xs.take j).filter f).length ≤ xs.length :=
  Nat.le_trans (List.length_filter_le _ _) (by rw [List.length_take]; omega)

/-- What Drop answers where timers may be. -/
def Drops (W : World) (ys : List Tm) (e : Ending) (w' : World) : Prop :=
  ∃ lv, e = .returned (.tuple #[lv, .int .i64 0]) ∧ Own w' W.heap.size lv ys ∧ Below W.heap.size W w'

set_option maxRecDepth 100000 in
set_option maxHeartbeats 4000000 in
theorem drop_yes (A : Option Addr) (c lo hi : Nat) (xs : List Tm) (kind who : Int) (w : World) (hm : mayB xs = true) (h : Has w lo hi A xs) (hh : hi ≤ w.heap.size) :
    Calls Try.prog 20 #[.slice A xs.length c, .int .i64 kind, .int .i64 who] w (Drops w (dropL kind who xs)) := by
  have hl := ((mayB_iff xs).1 hm).1
  have HC := Lib.hid (check_any A c lo hi xs w (by omega) h hh true hm)
  have H := Lib.hid h
  clear h hm
  go_enter Try.func20, Try.ntmps20
  go_wp2_with fail
  refine HC.out.mono ?_
  rintro e w1 ⟨rfl, hb1⟩
  have hok : okE true = 0 := rfl
  rw [hok]
  have HB1 := Lib.hid hb1
  clear hb1 HC hok
  go_wp2_with fail
  go_loopw [9, 19] (fun l i wr => ∃ k : Nat, i = .int .i64 k ∧ k ≤ xs.length ∧ Hid (Own wr w.heap.size l ((xs.take k).filter fun x => x.k != kind || x.o != who)) ∧ Hid (Below w.heap.size w wr)) (fun _ i _ => xs.length - (intOf i).toNat)
  case atStart => exact ⟨0, by go_num, Nat.zero_le _, Lib.hid (Own.nil _ _), HB1⟩
  case round =>
    obtain ⟨k, rfl, hk, ho, hb⟩ := hrel
    by_cases hlt : k < xs.length
    · obtain ⟨ad, rfl, _, _, hat⟩ := (H.out.on hb.out hh) k hlt
      obtain ⟨p, q, r, s, ex, a1, a2, a3, a4⟩ := hat.cells
      have HEX := Lib.hid ex
      have k0 : (0 : Int) ≤ (k : Int) := by omega
      have k1 : (k : Int) < (xs.length : Int) := by omega
      have hz2 : w.heap.size ≤ wr.heap.size := hb.out.size
      have HF := Lib.hid (filter_take_succ (fun x => x.k != kind || x.o != who) xs k hlt)
      have hfl := filter_take_len (fun x => x.k != kind || x.o != who) xs k
      rw [HEX.out] at HF
      generalize hF : (xs.take k).filter (fun x => x.k != kind || x.o != who) = F at *
      clear hat ex hF
      have hcond : ∃ keep : Bool, (q != kind || r != who) = keep := ⟨_, rfl⟩
      obtain ⟨keep, hkeep⟩ := hcond
      rcases keep with _ | _
      · have HF2 : Hid ((xs.take (k + 1)).filter (fun x => x.k != kind || x.o != who) = F) := Lib.hid (by rw [HF.out]; simp only [hkeep]; simp)
        have hk2 := Bool.or_eq_false_iff.1 hkeep
        have hq := hk2.1
        have hr := hk2.2
        clear hkeep hk2 HF
        go_wp2_with fail
        go_roundw
        case rel => exact ⟨k + 1, by go_num, by omega, by rw [HF2.out]; exact Lib.hid (ho.out.alloc _), Lib.hid (hb.out.alloc hb.out.size _)⟩
        case measure => simp [intOf]; omega
      · have HF2 : Hid ((xs.take (k + 1)).filter (fun x => x.k != kind || x.o != who) = F ++ [⟨p, q, r, s⟩]) := Lib.hid (by rw [HF.out]; simp only [hkeep]; simp)
        clear HF
        rcases hq : (q != kind) with _ | _
        · have hr : (r != who) = true := by rw [hq] at hkeep; simpa using hkeep
          clear hkeep
          go_wp2_with (at_builtin; refine wpList_append_has rfl _ _ rfl w.heap.size _ F rfl ?c1 (some ⟨wr.heap.size + 1, 0, none⟩) 1 (wr.heap.size + 1) (wr.heap.size + 2) [⟨p, q, r, s⟩] rfl ?c2 ?c3 ?c4 ?_)
          case c1 => exact (ho.out.alloc _).alloc _
          case c2 => simpa using has_one (wr.alloc (.cells #[.int .i64 p, .int .i64 q, .int .i64 r, .int .u64 s] 33)) p q r s 33
          case c3 => simp; omega
          case c4 => simp; omega
          intro lv3 w3 hown3 hgrow3
          have HO : Hid (Own w3 w.heap.size lv3 ((xs.take (k + 1)).filter fun x => x.k != kind || x.o != who)) := Lib.hid (by rw [HF2.out]; exact hown3)
          have HB : Hid (Below w.heap.size w w3) := Lib.hid (((hb.out.alloc hz2 _).alloc (by simp; omega) _).grown hgrow3 (by simp; omega) (fun k hk => (ho.out.ge k hk).1))
          clear hown3 hgrow3 ho hb a1 a2 a3 a4
          go_wp2_with fail
          go_roundw
          case rel => exact ⟨k + 1, by go_num, by omega, HO, HB⟩
          case measure => simp [intOf]; omega
        · clear hkeep
          go_wp2_with (at_builtin; refine wpList_append_has rfl _ _ rfl w.heap.size _ F rfl ?c1 (some ⟨wr.heap.size + 1, 0, none⟩) 1 (wr.heap.size + 1) (wr.heap.size + 2) [⟨p, q, r, s⟩] rfl ?c2 ?c3 ?c4 ?_)
          case c1 => exact (ho.out.alloc _).alloc _
          case c2 => simpa using has_one (wr.alloc (.cells #[.int .i64 p, .int .i64 q, .int .i64 r, .int .u64 s] 33)) p q r s 33
          case c3 => simp; omega
          case c4 => simp; omega
          intro lv3 w3 hown3 hgrow3
          have HO : Hid (Own w3 w.heap.size lv3 ((xs.take (k + 1)).filter fun x => x.k != kind || x.o != who)) := Lib.hid (by rw [HF2.out]; exact hown3)
          have HB : Hid (Below w.heap.size w w3) := Lib.hid (((hb.out.alloc hz2 _).alloc (by simp; omega) _).grown hgrow3 (by simp; omega) (fun k hk => (ho.out.ge k hk).1))
          clear hown3 hgrow3 ho hb a1 a2 a3 a4
          go_wp2_with fail
          go_roundw
          case rel => exact ⟨k + 1, by go_num, by omega, HO, HB⟩
          case measure => simp [intOf]; omega
    · obtain rfl : k = xs.length := by omega
      have HE : Hid (Drops w (dropL kind who xs) (.returned (.tuple #[u9, .int .i64 0])) wr) := Lib.hid ⟨_, rfl, by
        have := ho.out
        rwa [List.take_length] at this, hb.out⟩
      go_wp2
      go_ret2
      exact HE.out

set_option maxRecDepth 100000 in
set_option maxHeartbeats 1000000 in
theorem drop_bad (A : Option Addr) (c lo hi : Nat) (xs : List Tm) (kind who : Int) (w : World) (hm : mayB xs = false) (hn : xs.length ≤ 1000) (h : Has w lo hi A xs) (hh : hi ≤ w.heap.size) :
    Calls Try.prog 20 #[.slice A xs.length c, .int .i64 kind, .int .i64 who] w fun e w' => e = .returned (.tuple #[.slice none 0 0, .int .i64 1]) ∧ Below w.heap.size w w' := by
  have HC := Lib.hid (check_any A c lo hi xs w hn h hh false hm)
  clear h hm
  go_enter Try.func20, Try.ntmps20
  go_wp2_with fail
  refine HC.out.mono ?_
  rintro e w1 ⟨rfl, hb1⟩
  have hok : okE false = 1 := rfl
  rw [hok]
  have HB1 := Lib.hid hb1
  clear hb1 HC hok
  go_wp2_with fail
  go_ret2
  exact ⟨rfl, HB1.out⟩

set_option maxRecDepth 100000 in
set_option maxHeartbeats 1000000 in
theorem next_bad (A : Option Addr) (c lo hi : Nat) (xs : List Tm) (w : World) (hm : mayB xs = false) (hn : xs.length ≤ 1000) (h : Has w lo hi A xs) (hh : hi ≤ w.heap.size) :
    Calls Try.prog 21 #[.slice A xs.length c] w fun e w' => e = .returned (.tuple #[.agg #[.int .i64 0, .int .i64 0, .int .i64 0, .int .u64 0], .int .i64 1]) ∧ Below w.heap.size w w' := by
  have HC : Hid (∀ W, Below w.heap.size w W → _) := Lib.hid (fun W (hb : Below w.heap.size w W) => check_any A c lo hi xs W hn (h.on hb hh) (by have := hb.size; omega) false hm)
  clear h hm
  go_enter Try.func21, Try.ntmps21
  go_wp2_with fail
  refine (HC.out _ ((Below.refl _ _).alloc (Nat.le_refl _) _)).mono ?_
  rintro e w1 ⟨rfl, hb1⟩
  have hok : okE false = 1 := rfl
  rw [hok]
  obtain ⟨hc1, hf1⟩ := old hb1
  have hz1 : w.heap.size + 1 ≤ w1.heap.size := by have := hb1.size; simpa using this
  have HB1 : Hid (Below w.heap.size w w1) := Lib.hid (((Below.refl _ _).alloc (Nat.le_refl _) _).trans (hb1.mono (by simp)))
  clear hb1 HC hok
  go_wp2_with fail
  refine bodyPost_ret (v := .tuple #[.agg #[.int .i64 0, .int .i64 0, .int .i64 0, .int .u64 0], .int .i64 1]) (by simp [results, Try.results21, go_sem, hc1]) rfl ⟨rfl, ?_⟩
  exact (((HB1.out.setCell (by simp) _).setCell (by simp) _).setCell (by simp) _).setCell (by simp) _

set_option maxRecDepth 100000 in
set_option maxHeartbeats 1000000 in
theorem next_none (A : Option Addr) (c : Nat) (w : World) :
    Calls Try.prog 21 #[.slice A 0 c] w fun e w' => e = .returned (.tuple #[.agg #[.int .i64 0, .int .i64 0, .int .i64 0, .int .u64 0], .int .i64 6]) ∧ Below w.heap.size w w' := by
  have HC := Lib.hid (fun W => check_any A c 0 0 [] W (by simp) (Has.nil _ _ _ _) (Nat.zero_le _) true (by rfl))
  go_enter Try.func21, Try.ntmps21
  go_wp2_with fail
  refine (HC.out _).mono ?_
  rintro e w1 ⟨rfl, hb1⟩
  have hok : okE true = 0 := rfl
  rw [hok]
  obtain ⟨hc1, hf1⟩ := old hb1
  have hz1 : w.heap.size + 1 ≤ w1.heap.size := by have := hb1.size; simpa using this
  have HB1 : Hid (Below w.heap.size w w1) := Lib.hid (((Below.refl _ _).alloc (Nat.le_refl _) _).trans (hb1.mono (by simp)))
  clear hb1 HC hok
  go_wp2_with fail
  refine bodyPost_ret (v := .tuple #[.agg #[.int .i64 0, .int .i64 0, .int .i64 0, .int .u64 0], .int .i64 6]) (by simp [results, Try.results21, go_sem, hc1]) rfl ⟨rfl, ?_⟩
  exact (((HB1.out.setCell (by simp) _).setCell (by simp) _).setCell (by simp) _).setCell (by simp) _

set_option maxRecDepth 100000 in
set_option maxHeartbeats 1000000 in
theorem next_some (A : Option Addr) (c lo hi : Nat) (xs : List Tm) (w : World) (hm : mayB xs = true) (hn : 0 < xs.length) (h : Has w lo hi A xs) (hh : hi ≤ w.heap.size) :
    Calls Try.prog 21 #[.slice A xs.length c] w fun e w' => e = .returned (.tuple #[.agg #[.int .i64 (nth xs 0).a, .int .i64 (nth xs 0).k, .int .i64 (nth xs 0).o, .int .u64 (nth xs 0).n], .int .i64 0]) ∧ Below w.heap.size w w' := by
  have hl := ((mayB_iff xs).1 hm).1
  have HC : Hid (∀ W, Below w.heap.size w W → _) := Lib.hid (fun W (hb : Below w.heap.size w W) => check_any A c lo hi xs W (by omega) (h.on hb hh) (by have := hb.size; omega) true hm)
  have H := Lib.hid h
  generalize hx : nth xs 0 = x
  have HX := Lib.hid hx
  clear hx
  clear h hm
  go_enter Try.func21, Try.ntmps21
  go_wp2_with fail
  refine (HC.out _ ((Below.refl _ _).alloc (Nat.le_refl _) _)).mono ?_
  rintro e w1 ⟨rfl, hb1⟩
  have hok : okE true = 0 := rfl
  rw [hok]
  obtain ⟨hc1, hf1⟩ := old hb1
  have hz1 : w.heap.size + 1 ≤ w1.heap.size := by have := hb1.size; simpa using this
  have HB1 : Hid (Below w.heap.size w w1) := Lib.hid (((Below.refl _ _).alloc (Nat.le_refl _) _).trans (hb1.mono (by simp)))
  obtain ⟨ad, rfl, _, hhi, hat⟩ := (H.out.on HB1.out hh) 0 hn
  have e0 : ad.add (0 * 4) = ad := by simp [Addr.add]
  rw [e0] at hat
  have hat2 : At w1 ad (nth xs 0) := hat
  rw [HX.out] at hat2
  obtain ⟨a1, a2, a3, a4⟩ := hat2.flat
  have hne : ad.block ≠ w.heap.size := by omega
  have hd : ((xs.length : Int) == 0) = false := by rw [beq_eq_false_iff_ne]; omega
  have i1 : (0 : Int) < (xs.length : Int) := by omega
  clear hat hat2 e0
  clear hb1 HC hok
  go_wp2_with fail
  refine bodyPost_ret (v := .tuple #[.agg #[.int .i64 x.a, .int .i64 x.k, .int .i64 x.o, .int .u64 x.n], .int .i64 0]) (by simp [results, Try.results21, go_sem, hc1]) rfl ⟨rfl, ?_⟩
  exact (((HB1.out.setCell (by simp) _).setCell (by simp) _).setCell (by simp) _).setCell (by simp) _
end Go.Proofs.Ytbhpinmdpngbkaa
