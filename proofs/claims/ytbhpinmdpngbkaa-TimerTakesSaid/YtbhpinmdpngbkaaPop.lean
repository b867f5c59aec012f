/-
  The walk of the library's Pop, and of what is taken until a tick.
-/
import Derived.Test.YtbhpinmdpngbkaaDown
import Derived.Deep.LoopGhost
namespace Go.Proofs.Ytbhpinmdpngbkaa
open Go.RowKit Go.Proofs.Ytbhpinmdpngbkaa.Pure

/-- What Pop leaves: it answers the first one of a heap; the others are a heap. -/
def Popped (w : World) (B g : Nat) (v : Value) (xs : List Tm) (e : Ending) (w' : World) : Prop :=
  ∃ v' ys, e = .returned (.iface 33 (.agg #[.int .i64 (nth xs 0).a, .int .i64 (nth xs 0).k, .int .i64 (nth xs 0).o, .int .u64 (nth xs 0).n])) ∧ Hp w' B g v' ys ∧ IsHeap ys ∧ (nth xs 0 :: ys).Perm xs ∧ v'.ownBlock = v.ownBlock ∧ Kept w w' (Its g v)

set_option maxRecDepth 100000 in
set_option maxHeartbeats 2000000 in
theorem hpop_any (B g n : Nat) (v : Value) (xs : List Tm) (w : World) (hxn : xs.length = n + 1) (hn : n ≤ 1000) (h : Hp w B g v xs) (hi : IsHeap xs) :
    Calls Try.prog 39 #[.iface 51 (.pointer (some ⟨g, 0, none⟩))] w (Popped w B g v xs) := by
  obtain ⟨b, c, rfl, _, _, _, _⟩ := h.own.some_ (by omega)
  rw [hxn] at h
  have HH := Lib.hid h
  have HI := Lib.hid hi
  have HXN := Lib.hid hxn
  have hc := h.cell
  have ml := m_len g (.slice (some ⟨b, 0, none⟩) (n + 1) c)
  have ms := m_swap g (.slice (some ⟨b, 0, none⟩) (n + 1) c)
  have mp := m_pop g
  rw [hxn]
  clear h hi hxn
  have e1 : (n : Int) + 1 - 1 = (n : Int) := by omega
  have e2 : ((n + 1 : Nat) : Int) - 1 = (n : Int) := by omega
  go_enter Try.func39, Try.ntmps39
  go_wp2_with fail
  refine (len_any _ _ _ _).mono ?_
  rintro e w1 ⟨rfl, rfl⟩
  have HS := Lib.hid (HH.out.swap_ 0 n (by omega) (by omega))
  go_wp2_with fail
  refine HS.out.mono ?_
  rintro e w2 ⟨rfl, hh2, hk2⟩
  have HH2 := Lib.hid hh2
  have HK2 := Lib.hid hk2
  have HD := Lib.hid (down_any B g b n c (swap xs 0 n) w2 hn hh2 (DownInv.start HI.out HXN.out.symm))
  clear hh2 hk2 hc HS
  go_wp2_with fail
  refine HD.out.mono ?_
  rintro e w3 ⟨rb, ys, rfl, hh3, hn3, hp3, hl3, hk3⟩
  have HH3 := Lib.hid hh3
  have hlen : ys.length = n + 1 := hh3.own.len.symm
  have HP := Lib.hid (mpop_any B g n _ ys w3 hlen hn hh3)
  have hlast : nth ys n = nth xs 0 := by
    rw [hl3, swap_get xs 0 n n (by rw [HXN.out]; omega) (by rw [HXN.out]; omega) (by rw [HXN.out]; omega), if_pos rfl]
  have HQ := Lib.hid (popped HXN.out.symm (hp3.trans (swap_perm xs 0 n (by rw [HXN.out]; omega) (by rw [HXN.out]; omega))) hlast hn3)
  rw [hlast] at HP
  have HK3 := Lib.hid (HK2.out.trans hk3 (fun _ _ h => h))
  clear hh3 hn3 hp3 hl3 hk3 HD hlast hlen
  go_wp2_with fail
  refine HP.out.mono ?_
  rintro e w4 ⟨v', rfl, hh4, hv4, hk4⟩
  have HE : Hid (_ ∧ _ ∧ _ ∧ _ ∧ _) := Lib.hid ⟨hh4, HQ.out.1, HQ.out.2, hv4, (HK3.out.mono (fun i _ h => Or.inr h)).trans hk4 (fun _ _ h => h)⟩
  clear hh4 hv4 hk4
  go_wp2_with fail
  go_ret
  exact ⟨v', _, rfl, HE.out⟩

/-- A slice of one timer, made anew. -/
theorem has_one (w : World) (p q r s : Int) (t : TypeId) : Has (w.alloc (.cells #[.int .i64 p, .int .i64 q, .int .i64 r, .int .u64 s] t)) w.heap.size (w.heap.size + 1) (some ⟨w.heap.size, 0, none⟩) [⟨p, q, r, s⟩] := fun j hj => by
  obtain rfl : j = 0 := by simpa using hj
  refine ⟨_, rfl, Nat.le_refl _, by simp, at_of_cells fun r hr => ?_⟩
  rw [World.cell?_alloc_mark]
  match r, hr with
  | 0, _ => rfl
  | 1, _ => rfl
  | 2, _ => rfl
  | 3, _ => rfl

/-- What is taken until a tick, and what is left. -/
structure Taken (B g : Nat) (v : Value) (xs : List Tm) (now : Int) (lo : Nat) (w w' : World) (lv v' : Value) (ys zs : List Tm) : Prop where
  own : Own w' lo lv ys
  hp : Hp w' B g v' zs
  heap : IsHeap zs
  perm : (ys ++ zs).Perm xs
  sorted : Sorted ys
  due : ∀ y ∈ ys, y.a ≤ now
  ahead : ∀ y ∈ ys, ∀ z ∈ zs, le y z = true
  same : v'.ownBlock = v.ownBlock
  kept : Kept w w' (Its g v)

theorem Taken.len {B g : Nat} {v : Value} {xs : List Tm} {now : Int} {lo : Nat} {w w' : World} {lv v' : Value} {ys zs : List Tm} (h : Taken B g v xs now lo w w' lv v' ys zs) : ys.length + zs.length = xs.length := by
  have := h.perm.length_eq
  simpa using this
theorem sorted_snoc {ys : List Tm} {x : Tm} (h : Sorted ys) (hx : ∀ y ∈ ys, le y x = true) : Sorted (ys ++ [x]) :=
  List.pairwise_append.2 ⟨h, List.pairwise_singleton _ _, fun y hy z hz => by rw [List.mem_singleton.1 hz]; exact hx y hy⟩

theorem Taken.step {B g : Nat} {v : Value} {xs : List Tm} {now : Int} {lo : Nat} {w w' w3 : World} {lv v' lv2 v2 : Value} {ys zs zs2 : List Tm} (h : Taken B g v xs now lo w w' lv v' ys zs)
    (hx : (nth zs 0).a ≤ now) (hp : (nth zs 0 :: zs2).Perm zs) (hown : Own w3 lo lv2 (ys ++ [nth zs 0])) (hh : Hp w3 B g v2 zs2) (hi : IsHeap zs2) (hv : v2.ownBlock = v.ownBlock) (hk : Kept w w3 (Its g v)) :
    Taken B g v xs now lo w w3 lv2 v2 (ys ++ [nth zs 0]) zs2 := by
  have hmem : ∀ z ∈ zs2, z ∈ zs := fun z hz => hp.subset (List.mem_cons_of_mem _ hz)
  have hx0 : nth zs 0 ∈ zs := hp.subset (List.mem_cons_self ..)
  refine ⟨hown, hh, hi, ?_, sorted_snoc h.sorted fun y hy => h.ahead y hy _ hx0, ?_, ?_, hv, hk⟩
  · have : ((ys ++ [nth zs 0]) ++ zs2) = ys ++ (nth zs 0 :: zs2) := by simp
    rw [this]
    exact (List.Perm.append_left ys hp).trans h.perm
  · intro y hy
    rcases List.mem_append.1 hy with hy | hy
    · exact h.due y hy
    · rw [List.mem_singleton.1 hy]; exact hx
  · intro y hy z hz
    rcases List.mem_append.1 hy with hy | hy
    · exact h.ahead y hy z (hmem z hz)
    · rw [List.mem_singleton.1 hy]
      obtain ⟨i, hi', e⟩ := nth_of_mem (hmem z hz)
      rw [← e]
      exact HeapN.min h.heap i hi'
theorem heap_above {zs : List Tm} {now : Int} (h : IsHeap zs) (hx : now < (nth zs 0).a) : ∀ z ∈ zs, now < z.a := fun z hz => by
  obtain ⟨i, hi', e⟩ := nth_of_mem hz
  have := le_at (HeapN.min h i hi')
  rw [e] at this
  omega

/-- Until's answer. -/
def Until (B g : Nat) (v : Value) (xs : List Tm) (now : Int) (w : World) (e : Ending) (w' : World) : Prop :=
  ∃ lv v' ys zs, e = .returned lv ∧ Taken B g v xs now w.heap.size w w' lv v' ys zs ∧ ∀ z ∈ zs, now < z.a

set_option maxRecDepth 100000 in
set_option maxHeartbeats 4000000 in
theorem until_any (B g : Nat) (v : Value) (xs : List Tm) (now : Int) (w : World) (hn : xs.length ≤ 1000) (h : Hp w B g v xs) (hi : IsHeap xs) :
    Calls Try.prog 32 #[.pointer (some ⟨g, 0, none⟩), .int .i64 now] w (Until B g v xs now w) := by
  have HG := Lib.hid h.bound
  have HV : Hid (∀ k, v.ownBlock = some k → k < w.heap.size) := Lib.hid fun k e => (h.own.ge k e).2
  have H0 : Hid (Taken B g v xs now w.heap.size w w (.slice none 0 0) v [] xs) := Lib.hid ⟨Own.nil _ _, h, hi, List.Perm.refl _, List.Pairwise.nil, fun _ h => (List.not_mem_nil h).elim, fun _ h => (List.not_mem_nil h).elim, rfl, Kept.refl _ _⟩
  have hta := fun p q r s W => told_tm (.agg #[.int .i64 p, .int .i64 q, .int .i64 r, .int .u64 s]) W
  clear h hi
  go_enter Try.func32, Try.ntmps32
  go_wp2_with fail
  go_loopg [5] xs.length (fun z l wr => ∃ v' ys zs, z = zs.length ∧ Hid (Taken B g v xs now w.heap.size w wr l v' ys zs)) 
  case atStart => exact ⟨v, [], xs, rfl, H0⟩
  case round =>
    obtain ⟨v', ys, zs, hz, ht⟩ := hrel
    have hc := ht.out.hp.cell
    have hlen := ht.out.len
    have HZ := Lib.hid hz
    rcases Nat.eq_zero_or_pos zs.length with h0 | hpos
    · have hnil : zs = [] := List.eq_nil_of_length_eq_zero h0
      obtain ⟨A, c, rfl, _, _⟩ := ht.out.hp.own.has
      have HZN := Lib.hid hnil
      rw [h0] at hc ht
      clear h0 hnil hz hlen
      go_wp2_with fail
      refine (len_any _ _ _ _).mono ?_
      rintro e w1 ⟨rfl, rfl⟩
      go_wp2_with fail
      go_ret
      exact ⟨_, _, ys, zs, rfl, ht.out, fun z hzm => by rw [HZN.out] at hzm; exact (List.not_mem_nil hzm).elim⟩
    · obtain ⟨n, hnz⟩ : ∃ n, zs.length = n + 1 := ⟨zs.length - 1, by omega⟩
      obtain ⟨b, c, rfl, hb, hblt, hcap, hcm⟩ := ht.out.hp.own.some_ hpos
      have HN := Lib.hid hnz
      rw [hnz] at ht hc
      obtain ⟨a0, a1, a2, a3, _, _, _, _⟩ := ht.out.hp.own.four 0 (by omega)
      have a0' : wr.cell? ⟨b, 0, none⟩ = some (.int .i64 (nth zs 0).a) := a0
      have hn1000 : n ≤ 1000 := by omega
      clear a0 a1 a2 a3 hnz hz hcap hcm hlen hpos
      by_cases hle : (nth zs 0).a ≤ now
      · have hd : decide ((nth zs 0).a ≤ now) = true := by simpa using hle
        have HLE := Lib.hid hle
        clear hle
        go_wp2_with fail
        refine (len_any _ _ _ _).mono ?_
        rintro e w1 ⟨rfl, rfl⟩
        go_wp2_with fail
        refine (hpop_any B g n _ zs _ HN.out hn1000 ht.out.hp ht.out.heap).mono ?_
        rintro e w2 ⟨v2, zs2, rfl, hh2, hi2, hp2, hv2, hk2⟩
        have HH2 := Lib.hid hh2
        have HV2 : Hid (v2.ownBlock = v.ownBlock) := Lib.hid (hv2.trans ht.out.same)
        have HI2 := Lib.hid hi2
        have HP2 := Lib.hid hp2
        have HK2 : Hid (Kept w w2 (Its g v)) := Lib.hid (ht.out.kept.trans hk2 fun i _ h => h.imp id fun e => ht.out.same ▸ e)
        have hzz : w.heap.size ≤ w2.heap.size := HK2.out.size
        have HOL : Hid (Own w2 w.heap.size u5 ys) := Lib.hid (ht.out.own.keep fun k e => by
          have h1 := ht.out.own.ge k e
          refine hk2.block k h1.2 fun hi => ?_
          rcases hi with e2 | e2
          · have := HG.out; omega
          · have := HV.out k (ht.out.same ▸ e2); omega)
        have hys : ys.length ≤ 1000 := by have := ht.out.len; omega
        clear hh2 hv2 hi2 hp2 hk2 hc a0' hblt hb
        go_wp2_with (at_builtin; refine wpList_append_has rfl _ _ rfl w.heap.size u5 ys rfl ?c1 (some ⟨w2.heap.size, 0, none⟩) 1 w2.heap.size (w2.heap.size + 1) [nth zs 0] rfl ?c2 ?c3 ?c4 ?_)
        case c1 => exact HOL.out.alloc _
        case c2 => exact has_one w2 _ _ _ _ _
        case c3 => simp; omega
        case c4 => simp; omega
        intro lv3 w3 hown3 hgrow3
        have HT3 : Hid (Taken B g v xs now w.heap.size w w3 lv3 v2 (ys ++ [nth zs 0]) zs2) := Lib.hid (by
          have hgr : Kept (w2.alloc (.cells #[.int .i64 (nth zs 0).a, .int .i64 (nth zs 0).k, .int .i64 (nth zs 0).o, .int .u64 (nth zs 0).n] 33)) w3 (fun k => u5.ownBlock = some k) := Kept.of_grown hgrow3 fun i e => e
          refine ht.out.step HLE.out HP2.out hown3 ?_ HI2.out HV2.out ?_
          · refine (HH2.out.alloc _).keep hgr fun k hk e => ?_
            have h1 := HOL.out.ge k e
            rcases hk with e2 | e2
            · have := HG.out; omega
            · have := HV.out k (HV2.out ▸ e2); omega
          · refine (HK2.out.alloc _).trans hgr fun i hi e => ?_
            have h1 := HOL.out.ge i e
            omega)
        have HLEN : Hid (zs2.length < gk) := Lib.hid (by have := HP2.out.length_eq; rw [HZ.out]; simp at this; omega)
        clear hown3 hgrow3 HOL HK2 HH2 HI2 HP2 ht
        go_wp2_with fail
        go_roundg zs2.length
        case measure => exact HLEN.out
        case rel => exact ⟨v2, _, zs2, rfl, HT3⟩
      · have hd : decide ((nth zs 0).a ≤ now) = false := by simpa using hle
        have HLE := Lib.hid hle
        clear hle
        go_wp2_with fail
        refine (len_any _ _ _ _).mono ?_
        rintro e w1 ⟨rfl, rfl⟩
        go_wp2_with fail
        go_ret
        exact ⟨_, _, ys, zs, rfl, ht.out, heap_above ht.out.heap (by have := HLE.out; omega)⟩
end Go.Proofs.Ytbhpinmdpngbkaa
