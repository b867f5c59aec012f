/-
  The walk of Ripe.
-/
import Derived.Test.YtknpbbplolncpaaGrace
namespace Go.Proofs.Ytknpbbplolncpaa
open Go.Sort Go.RowKit Go.Proofs.Ytknpbbplolncpaa.Pure

/-- Two lists of doubts of the call's own, from block G on, apart from each other; by whom they are lies below G. -/
structure Two (w : World) (G : Nat) (v1 : Value) (xs1 : List Db) (v2 : Value) (xs2 : List Db) : Prop where
  o1 : OwnD w G v1 xs1
  o2 : OwnD w G v2 xs2
  ne : ∀ k, v1.ownBlock = some k → v2.ownBlock ≠ some k
  m1 : ∀ x ∈ xs1, Rd w (fun k => k < G) x
  m2 : ∀ x ∈ xs2, Rd w (fun k => k < G) x
section
variable {w w' : World} {G : Nat} {v1 v2 : Value} {xs1 xs2 : List Db}
theorem Two.swap (h : Two w G v1 xs1 v2 xs2) : Two w G v2 xs2 v1 xs1 := ⟨h.o2, h.o1, fun k h1 h2 => h.ne k h2 h1, h.m2, h.m1⟩
theorem Two.nil (w : World) (G : Nat) : Two w G (.slice none 0 0) [] (.slice none 0 0) [] := ⟨OwnD.nil _ _, OwnD.nil _ _, fun k h => (by cases h), fun x h => (by cases h), fun x h => (by cases h)⟩
theorem Two.on (h : Two w G v1 xs1 v2 xs2) (hb : Below w.heap.size w w') : Two w' G v1 xs1 v2 xs2 := ⟨h.o1.on hb, h.o2.on hb, h.ne, fun x hx => (h.m1 x hx).on hb, fun x hx => (h.m2 x hx).on hb⟩
theorem OwnD.grown {B : Nat} {v : Value} {xs : List Db} {row : Option Nat} (h : OwnD w B v xs) (hg : w.grownBy w' row) (hne : ∀ k, v.ownBlock = some k → row ≠ some k) (hr : ∀ x ∈ xs, Rd w (fun k => row ≠ some k) x) : OwnD w' B v xs := by
  refine ⟨⟨h.1.1, ?_⟩, fun x hx => ?_⟩
  · have hge := h.ge
    rcases h.1.2 with h | ⟨g, cap, cur, rfl, h2, h3, h4⟩
    · exact .inl h
    · exact .inr ⟨g, cap, cur, rfl, h2, (hg.block g (hge g rfl).2 (fun e => hne g rfl e.symm)).trans h3, h4⟩
  · have h1 := h.2 x hx
    have h2 := hr x hx
    refine ⟨fun j hj => ?_, h1.2⟩
    obtain ⟨ad, e, k1, k2, k3⟩ := h1.1 j hj
    obtain ⟨ad', e', _, k2', _⟩ := h2.1 j hj
    obtain rfl := Option.some.inj (e.symm.trans e')
    have hs := hg.size
    exact ⟨ad, e, by omega, k2, (World.cell?_of_block (by rw [block_add]; exact hg.block _ k1 (fun e => k2' e.symm))).trans k3⟩
theorem rd_grown_low {x : Db} {row : Option Nat} (h : Rd w (fun k => k < G) x) (hg : w.grownBy w' row) (hr : ∀ k, row = some k → G ≤ k) : Rd w' (fun k => k < G) x := by
  have hs := hg.size
  refine ⟨fun j hj => ?_, h.2⟩
  obtain ⟨ad, e, k1, k2, k3⟩ := h.1 j hj
  exact ⟨ad, e, by omega, k2, (World.cell?_of_block (by rw [block_add]; exact hg.block _ k1 (fun e => by have := hr _ e.symm; omega))).trans k3⟩
/-- One more on the first one. -/
theorem Two.put (h : Two w G v1 xs1 v2 xs2) (x : Db) (hx : Rd w (fun k => k < G) x) (hG : G ≤ w.heap.size) (hl : xs1.length ≤ 1000) (ty : TypeId) :
    ∃ v' w', (Builtin.append_ #[22, 22] ty #[v1, .slice (some ⟨w.heap.size, 0, none⟩) 1 1]).run Try.prog (w.alloc (.cells #[.int .i64 x.w, .int .u64 x.i, .int .i64 x.t, .slice x.A x.b.length x.c] 55)) = .ok v' w' ∧ Two w' G v' (xs1 ++ [x]) v2 xs2 ∧ Below G w w' := by
  have hba : Below w.heap.size w (w.alloc (.cells #[.int .i64 x.w, .int .u64 x.i, .int .i64 x.t, .slice x.A x.b.length x.c] 55)) := (Below.refl _ _).alloc (Nat.le_refl _) _
  have hT := h.on hba
  have hX := hx.on hba
  have BS : Bt (w.alloc (.cells #[.int .i64 x.w, .int .u64 x.i, .int .i64 x.t, .slice x.A x.b.length x.c] 55)) w.heap.size x := Bt.new w x _
  have hz : w.heap.size < (w.alloc (.cells #[.int .i64 x.w, .int .u64 x.i, .int .i64 x.t, .slice x.A x.b.length x.c] 55)).heap.size := by simp
  have hge : ∀ k, v1.ownBlock = some k → G ≤ k := fun k hk => (h.o1.ge k hk).1
  have hge' : ∀ k, v1.ownBlock = some k → k < w.heap.size := fun k hk => (h.o1.ge k hk).2
  have hge2 : ∀ k, v2.ownBlock = some k → k < w.heap.size := fun k hk => (h.o2.ge k hk).2
  obtain ⟨v', w', h1, h2, h3, h4⟩ := appD_own (w.alloc (.cells #[.int .i64 x.w, .int .u64 x.i, .int .i64 x.t, .slice x.A x.b.length x.c] 55)) ty G v1 xs1 hT.o1 (w.alloc (.cells #[.int .i64 x.w, .int .u64 x.i, .int .i64 x.t, .slice x.A x.b.length x.c] 55)).heap.size (some ⟨w.heap.size, 0, none⟩) 1 [x] (BS.ds _ hz (hX.imp fun k hk _ => hk)) (fun y hy => by obtain rfl := List.mem_singleton.1 hy; exact hX.off _ (fun k hk hk2 => by have := hge k hk; omega)) (by simp; omega) (by omega)
  have hlow : ∀ y, Rd (w.alloc (.cells #[.int .i64 x.w, .int .u64 x.i, .int .i64 x.t, .slice x.A x.b.length x.c] 55)) (fun k => k < G) y → Rd w' (fun k => k < G) y := fun y hy => rd_grown_low hy h3 hge
  refine ⟨v', w', h1, ⟨h2, hT.o2.grown h3 (fun k hk e => hT.ne k e hk) (fun y hy => (hT.m2 y hy).off _ fun k hk hk2 => by have := hge k hk; omega), fun k hk => ?_, fun y hy => ?_, fun y hy => hlow y (hT.m2 y hy)⟩, ?_⟩
  · rcases h4 with e | e
    · rw [e] at hk; exact hT.ne k hk
    · rw [e] at hk
      intro e2
      have := hge2 k e2
      have := Option.some.inj hk
      omega
  · rcases List.mem_append.1 hy with hy | hy
    · exact hlow y (hT.m1 y hy)
    · obtain rfl := List.mem_singleton.1 hy
      exact hlow _ hX
  · exact ((Below.refl G w).alloc hG _).grown h3 (by omega) hge
end
/-- A call answers two lists of doubts, of its own, and an error. -/
def Gives2 (w : World) (R1 R2 : List Dt) (er : Int) (e : Ending) (w' : World) : Prop :=
  ∃ v1 v2 ys1 ys2, e = .returned (.tuple #[v1, v2, .int .i64 er]) ∧ OwnD w' w.heap.size v1 ys1 ∧ OwnD w' w.heap.size v2 ys2 ∧ ys1.map Db.ct = R1 ∧ ys2.map Db.ct = R2 ∧ Below w.heap.size w w'
theorem gives2 {w w' : World} {R1 R2 : List Dt} {er : Int} {v1 v2 : Value} {ys1 ys2 : List Db} (h1 : OwnD w' w.heap.size v1 ys1) (e1 : ys1.map Db.ct = R1) (h2 : OwnD w' w.heap.size v2 ys2) (e2 : ys2.map Db.ct = R2) (hb : Below w.heap.size w w') : Gives2 w R1 R2 er (.returned (.tuple #[v1, v2, .int .i64 er])) w' := ⟨v1, v2, ys1, ys2, rfl, h1, h2, e1, e2, hb⟩
/-- The same, by a predicate on doubts as they lie. -/
theorem filter_ct (p : Dt → Bool) (l : List Db) : (l.filter fun x => p x.ct).map Db.ct = (l.map Db.ct).filter p := by
  rw [List.filter_map]; rfl
theorem filter_take_succ (p : Db → Bool) (l : List Db) (k : Nat) (h : k < l.length) : (l.take (k + 1)).filter p = if p (db l k) = true then (l.take k).filter p ++ [db l k] else (l.take k).filter p := by
  rw [take_snocD l k h, List.filter_append]
  by_cases e : p (db l k) = true
  · rw [if_pos e]; simp [e]
  · rw [if_neg e]; simp [e]

set_option maxRecDepth 100000 in
set_option maxHeartbeats 4000000 in
theorem ripe_bad (A : Option Addr) (c hi : Nat) (l : List Db) (r : Ru) (n now : Int) (w : World) (hs : Sm l) (h : Ds w hi A l) (hh : hi ≤ w.heap.size) (hm : mayP (l.map Db.ct) r n now = false) :
    Calls Try.prog 18 #[.slice A l.length c, .agg #[.int .i64 r.mn, .int .i64 r.mo, .int .i64 r.al], .int .i64 n, .int .i64 now] w (Gives2 w [] [] 1) := by
  have HB0 : Hid (Below w.heap.size w (w.alloc (.cells #[.int .i64 r.mn, .int .i64 r.mo, .int .i64 r.al] 24))) := Lib.hid ((Below.refl _ w).alloc (Nat.le_refl _) _)
  have BX : Hid ((w.alloc (.cells #[.int .i64 r.mn, .int .i64 r.mo, .int .i64 r.al] 24)).cell? ⟨w.heap.size, 0, none⟩ = some (.int .i64 r.mn) ∧ (w.alloc (.cells #[.int .i64 r.mn, .int .i64 r.mo, .int .i64 r.al] 24)).cell? ⟨w.heap.size, 1, none⟩ = some (.int .i64 r.mo) ∧ (w.alloc (.cells #[.int .i64 r.mn, .int .i64 r.mo, .int .i64 r.al] 24)).cell? ⟨w.heap.size, 2, none⟩ = some (.int .i64 r.al)) := Lib.hid ⟨by go_simp, by go_simp, by go_simp⟩
  have HG := Lib.hid (fun W => grace_any r n 0 W)
  obtain ⟨M, hM⟩ : ∃ M, mayG r n 0 = M := ⟨_, rfl⟩
  obtain ⟨L, hL⟩ : ∃ L, mayD (l.map Db.ct) = L := ⟨_, rfl⟩
  have HE : Hid ((graceA r n 0).2 = if M = true then 0 else 1) := Lib.hid (by unfold graceA; rw [hM]; split <;> rfl)
  have HK := Lib.hid (fun (W : World) (hb : Below w.heap.size w W) => check_any A c hi l W hs (h.on hb hh) (Nat.le_trans hh hb.size) L hL)
  have HT := Lib.hid (fun W => tick_any now W)
  have HM : Hid ((M && (L && tickB now)) = false) := Lib.hid (by rw [← hM, ← hL]; exact hm)
  clear h hs hh hm hL hM
  generalize (graceA r n 0).1 = g1 at *
  generalize (graceA r n 0).2 = g2 at *
  generalize tickB now = T at *
  go_enter Try.func18, Try.ntmps18
  go_upto_region 1 with (fail)
  generalize (w.alloc (.cells #[.int .i64 r.mn, .int .i64 r.mo, .int .i64 r.al] 24)) = w0 at *
  obtain ⟨x0, x1, x2⟩ := BX.out
  have HGG := Lib.hid (HG.out w0)
  clear HG
  go_upto_region 2 with (go_at_call 10; refine HGG.out.mono ?_; rintro e w1 ⟨rfl, hb1⟩)
  have HB1 : Hid (Below w.heap.size w w1) := Lib.hid (HB0.out.trans (hb1.mono HB0.out.size))
  clear hb1 HGG x0 x1 x2 BX HB0
  rcases M with _ | _
  · obtain rfl : g2 = 1 := HE.out
    go_wp2_with fail
    refine bodyPost_ret (v := .tuple #[.slice none 0 0, .slice none 0 0, .int .i64 1]) (by simp [results, Try.results18, go_sem]) rfl ?_
    exact gives2 (OwnD.nil _ _) rfl (OwnD.nil _ _) rfl HB1.out
  obtain rfl : g2 = 0 := HE.out
  have HKK := Lib.hid (HK.out w1 HB1.out)
  rcases L with _ | _
  · have hk : okE false = 1 := rfl
    rw [hk] at HKK
    go_wp2_with (go_at_call 14; refine HKK.out.mono ?_; rintro e w2 ⟨rfl, hb2⟩)
    refine bodyPost_ret (v := .tuple #[.slice none 0 0, .slice none 0 0, .int .i64 1]) (by simp [results, Try.results18, go_sem]) rfl ?_
    exact gives2 (OwnD.nil _ _) rfl (OwnD.nil _ _) rfl (HB1.out.trans (hb2.mono HB1.out.size))
  have hk : okE true = 0 := rfl
  rw [hk] at HKK
  obtain rfl : T = false := by
    rcases T with _ | _
    · rfl
    · exact absurd HM.out (by decide)
  go_wp2_with (first | (go_at_call 14; refine HKK.out.mono ?_; rintro e w2 ⟨rfl, hb2⟩) | (go_at_call 28; refine (HT.out _).mono ?_; rintro e w' ⟨rfl, rfl⟩))
  refine bodyPost_ret (v := .tuple #[.slice none 0 0, .slice none 0 0, .int .i64 1]) (by simp [results, Try.results18, go_sem]) rfl ?_
  exact gives2 (OwnD.nil _ _) rfl (OwnD.nil _ _) rfl (HB1.out.trans (hb2.mono HB1.out.size))

set_option maxRecDepth 100000 in
set_option maxHeartbeats 4000000 in
theorem ripe_ok (A : Option Addr) (c hi : Nat) (l : List Db) (r : Ru) (n : Nat) (now : Int) (w : World) (hs : Sm l) (h : Ds w hi A l) (hh : hi ≤ w.heap.size) (hr : Rl r) (hn1 : 1 ≤ n) (hn2 : n ≤ 64) (hd : mayD (l.map Db.ct) = true) (ht : tickB now = true) :
    Calls Try.prog 18 #[.slice A l.length c, .agg #[.int .i64 r.mn, .int .i64 r.mo, .int .i64 r.al], .int .i64 (n : Int), .int .i64 now] w (Gives2 w ((l.map Db.ct).filter (ripeB r n now)) ((l.map Db.ct).filter fun x => !ripeB r n now x) 0) := by
  have HB0 : Hid (Below w.heap.size w (w.alloc (.cells #[.int .i64 r.mn, .int .i64 r.mo, .int .i64 r.al] 24))) := Lib.hid ((Below.refl _ w).alloc (Nat.le_refl _) _)
  have BX : Hid ((w.alloc (.cells #[.int .i64 r.mn, .int .i64 r.mo, .int .i64 r.al] 24)).cell? ⟨w.heap.size, 0, none⟩ = some (.int .i64 r.mn) ∧ (w.alloc (.cells #[.int .i64 r.mn, .int .i64 r.mo, .int .i64 r.al] 24)).cell? ⟨w.heap.size, 1, none⟩ = some (.int .i64 r.mo) ∧ (w.alloc (.cells #[.int .i64 r.mn, .int .i64 r.mo, .int .i64 r.al] 24)).cell? ⟨w.heap.size, 2, none⟩ = some (.int .i64 r.al)) := Lib.hid ⟨by go_simp, by go_simp, by go_simp⟩
  have HG0 := Lib.hid (fun W => grace_yes r n 0 W hr hn1 hn2 (Int.le_refl _))
  have HGY := Lib.hid (fun cc (hcc : 0 ≤ cc) W => grace_yes r n cc W hr hn1 hn2 hcc)
  have HGB : Hid (∀ cc, 0 ≤ cc → 0 ≤ graceN r n cc ∧ graceN r n cc ≤ 140000) := Lib.hid (fun cc hcc => by
    by_cases ha : r.al = 0
    · have := least_bounds hr hn1 hn2
      have e : graceN r n cc = leastN r n := by unfold graceN; rw [if_pos ha]
      omega
    · obtain ⟨S, G, D, m, E, Q, R, hgp, hgr⟩ := gp_of (c := cc) hr hn1 hn2 hcc ha
      have := hgp.s_
      have := hgp.g_
      have := hgp.r_
      omega)
  have HK := Lib.hid (fun (W : World) (hb : Below w.heap.size w W) => check_any A c hi l W hs (h.on hb hh) (Nat.le_trans hh hb.size) true hd)
  have hk : okE true = 0 := rfl
  rw [hk] at HK
  have HT := Lib.hid (fun W => tick_any now W)
  rw [ht] at HT
  have HC := Lib.hid (fun (W : World) (hb : Below w.heap.size w W) => copied_any A c hi l W hs (h.on hb hh) (Nat.le_trans hh hb.size))
  have HS := Lib.hid hs
  have HD := Lib.hid ((mayD_iff _).1 hd).1
  clear h hs hh hk hd ht hr hn1 hn2
  generalize graceN r n 0 = g0 at *
  go_enter Try.func18, Try.ntmps18
  go_upto_region 1 with (fail)
  generalize (w.alloc (.cells #[.int .i64 r.mn, .int .i64 r.mo, .int .i64 r.al] 24)) = w0 at *
  obtain ⟨x0, x1, x2⟩ := BX.out
  have HGG := Lib.hid (HG0.out w0)
  clear HG0
  go_upto_region 2 with (go_at_call 10; refine HGG.out.mono ?_; rintro e w1 ⟨rfl, hb1⟩)
  have BX1 := Lib.hid (And.intro (cell_on x0 hb1) (And.intro (cell_on x1 hb1) (cell_on x2 hb1)))
  have HB1 : Hid (Below w.heap.size w w1) := Lib.hid (HB0.out.trans (hb1.mono HB0.out.size))
  clear hb1 HGG x0 x1 x2 BX HB0
  have HKK := Lib.hid (HK.out w1 HB1.out)
  clear HK
  go_upto_region 5 with (first | (go_at_call 14; refine HKK.out.mono ?_; rintro e w2 ⟨rfl, hb2⟩) | (go_at_call 28; refine (HT.out _).mono ?_; rintro e w' ⟨rfl, rfl⟩))
  have BX2 := Lib.hid (And.intro (cell_on BX1.out.1 hb2) (And.intro (cell_on BX1.out.2.1 hb2) (cell_on BX1.out.2.2 hb2)))
  have HB2 : Hid (Below w.heap.size w w2) := Lib.hid (HB1.out.trans (hb2.mono HB1.out.size))
  clear hb2 HKK HT BX1 HB1
  have HCC := Lib.hid (HC.out w2 HB2.out)
  clear HC
  go_upto_region 6 with (go_at_call 31; refine HCC.out.mono ?_; rintro e w3 ⟨v, ys, rfl, ho, he, hb3⟩; obtain ⟨A1, c1, rfl, _, _, hds⟩ := ho.ds)
  have BX3 := Lib.hid (And.intro (cell_on BX2.out.1 hb3) (And.intro (cell_on BX2.out.2.1 hb3) (cell_on BX2.out.2.2 hb3)))
  have HB3 : Hid (Below w.heap.size w w3) := Lib.hid (HB2.out.trans (hb3.mono HB2.out.size))
  have HDS := Lib.hid hds
  have HYL := Lib.hid (HS.out.ct he)
  have hyl := HYL.out.1
  have HOK : Hid (∀ j, j < ys.length → OkD (db ys j).ct) := Lib.hid (fun j hj => by
    have := HD.out j (by rw [List.length_map, ← ct_len he]; exact hj)
    rwa [← he, ct_at] at this)
  have HE1 : Hid ((ys.filter fun x => ripeB r n now x.ct).map Db.ct = (l.map Db.ct).filter (ripeB r n now)) := Lib.hid (by rw [filter_ct, he])
  have HE2 : Hid ((ys.filter fun x => !ripeB r n now x.ct).map Db.ct = (l.map Db.ct).filter fun x => !ripeB r n now x) := Lib.hid (by rw [filter_ct (fun x => !ripeB r n now x), he])
  have HRBB : Hid (∀ x : Db, x.b ≠ [] → ripeB r n now x.ct = decide (x.t + graceN r n ((x.b.length : Int) - 1) ≤ now)) := Lib.hid (fun _ _ => rfl)
  have HSU1 := Lib.hid (fun k h => filter_take_succ (fun x => ripeB r n now x.ct) ys k h)
  have HSU2 := Lib.hid (fun k h => filter_take_succ (fun x => !ripeB r n now x.ct) ys k h)
  have HLE1 : Hid (∀ k, ((ys.take k).filter fun x => ripeB r n now x.ct).length ≤ 1000) := Lib.hid (fun k => Nat.le_trans (List.length_filter_le _ _) (by rw [List.length_take]; omega))
  have HLE2 : Hid (∀ k, ((ys.take k).filter fun x => !ripeB r n now x.ct).length ≤ 1000) := Lib.hid (fun k => Nat.le_trans (List.length_filter_le _ _) (by rw [List.length_take]; omega))
  clear ho he hb3 hds HCC HB2 BX2 HS HD
  go_wp2_with fail
  go_loopw [40, 13, 14] (fun i v1 v2 wr => ∃ k : Nat, i = .int .i64 k ∧ k ≤ ys.length ∧ Hid (Two wr w3.heap.size v1 ((ys.take k).filter fun x => ripeB r n now x.ct) v2 ((ys.take k).filter fun x => !ripeB r n now x.ct)) ∧ Hid (Below w3.heap.size w3 wr)) (fun i _ _ _ => ys.length - (intOf i).toNat)
  case atStart => exact ⟨0, rfl, Nat.zero_le _, Lib.hid (Two.nil _ _), Lib.hid (Below.refl _ _)⟩
  case round =>
    obtain ⟨wq, ewq⟩ : ∃ wq, wq = wr := ⟨_, rfl⟩
    subst ewq
    obtain ⟨k, rfl, hk, HTW, HBq⟩ := hrel
    by_cases hlt : k < ys.length
    · obtain ⟨ad, rfl, hlo, h1, hr1⟩ := (HDS.out.on HBq.out (Nat.le_refl _)) k hlt
      obtain ⟨a0, a1, a2, a3⟩ := h1.flat
      have k0 : (0 : Int) ≤ (k : Int) := by omega
      have k1 : (k : Int) < (ys.length : Int) := by omega
      have HSK1 := Lib.hid (HSU1.out k hlt)
      have HSK2 := Lib.hid (HSU2.out k hlt)
      have hok := HOK.out k hlt
      have HR0 := Lib.hid hr1
      have HBL := Lib.hid (HYL.out.2 _ (db_mem ys hlt))
      have HRBx := Lib.hid (HRBB.out (db ys k) hok.2.1)
      generalize db ys k = x at *
      obtain ⟨⟨t0, t1⟩, hbn, _⟩ := hok
      have t0' : 0 ≤ x.t := t0
      have t1' : x.t ≤ 1099511627776 := t1
      have hbn' : 0 < x.b.length := List.length_pos_iff.2 hbn
      clear t0 t1 hbn h1 hr1
      obtain ⟨cc, hcc⟩ : ∃ cc : Int, cc = (x.b.length : Int) - 1 := ⟨_, rfl⟩
      have hc0 : 0 ≤ cc := by omega
      have HWC : Hid (wrap64 ((x.b.length : Int) - 1) = cc) := Lib.hid (by have := HBL.out; unfold wrap64; omega)
      rw [← hcc] at HRBx
      have HGC := Lib.hid (fun W => HGY.out cc hc0 W)
      have hgb := HGB.out cc hc0
      clear hcc hc0 hbn'
      generalize graceN r n cc = gr at *
      have HWS : Hid (IntKind.i64.wrap (x.t + gr) = x.t + gr) := Lib.hid (by rw [IntWalk.i64_in _ (by omega)])
      have HRB : Hid (ripeB r n now x.ct = decide (x.t + gr ≤ now)) := HRBx
      have H281 : Hid (ripeB r n now x.ct = true → (ys.take (k + 1)).filter (fun x => ripeB r n now x.ct) = (ys.take k).filter (fun x => ripeB r n now x.ct) ++ [x]) := Lib.hid (fun e => by rw [HSK1.out, if_pos e])
      have H282 : Hid (ripeB r n now x.ct = true → (ys.take (k + 1)).filter (fun x => !ripeB r n now x.ct) = (ys.take k).filter (fun x => !ripeB r n now x.ct)) := Lib.hid (fun e => by rw [HSK2.out, if_neg (by rw [e]; decide)])
      have H181 : Hid (ripeB r n now x.ct = false → (ys.take (k + 1)).filter (fun x => ripeB r n now x.ct) = (ys.take k).filter (fun x => ripeB r n now x.ct)) := Lib.hid (fun e => by rw [HSK1.out, if_neg (by rw [e]; decide)])
      have H182 : Hid (ripeB r n now x.ct = false → (ys.take (k + 1)).filter (fun x => !ripeB r n now x.ct) = (ys.take k).filter (fun x => !ripeB r n now x.ct) ++ [x]) := Lib.hid (fun e => by rw [HSK2.out, if_pos (by rw [e]; decide)])
      clear HSK1 HSK2 HRBx hgb t0' t1'
      have hwx : Below wq.heap.size wq (wq.alloc (.cells #[.int .i64 x.w, .int .u64 x.i, .int .i64 x.t, .slice x.A x.b.length x.c] 55)) := (Below.refl _ _).alloc (Nat.le_refl _) _
      have BT : Hid (Bt (wq.alloc (.cells #[.int .i64 x.w, .int .u64 x.i, .int .i64 x.t, .slice x.A x.b.length x.c] 55)) wq.heap.size x) := Lib.hid (Bt.new wq x _)
      have HB1 : Hid (Below w3.heap.size w3 (wq.alloc (.cells #[.int .i64 x.w, .int .u64 x.i, .int .i64 x.t, .slice x.A x.b.length x.c] 55))) := Lib.hid (HBq.out.trans (hwx.mono HBq.out.size))
      have HTW1 := Lib.hid (HTW.out.on hwx)
      have HR1 := Lib.hid (HR0.out.on hwx)
      have q0 := cell_on (cell_on BX3.out.1 (HBq.out.mono (Nat.le_refl _))) hwx
      have q1 := cell_on (cell_on BX3.out.2.1 (HBq.out.mono (Nat.le_refl _))) hwx
      have q2 := cell_on (cell_on BX3.out.2.2 (HBq.out.mono (Nat.le_refl _))) hwx
      go_upto_region 8 with (fail)
      generalize wq.alloc (.cells #[.int .i64 x.w, .int .u64 x.i, .int .i64 x.t, .slice x.A x.b.length x.c] 55) = w4 at *
      generalize wq.heap.size = nb at *
      clear a0 a1 a2 a3 hwx HTW HBq HR0
      obtain ⟨x0, x1, x2, x3⟩ := BT.out
      go_wp2_with fail
      rw [HWC.out]
      refine (HGC.out _).mono ?_
      rintro e w5 ⟨rfl, hb5⟩
      have BT5 := Lib.hid (BT.out.on hb5)
      have HTW4 := Lib.hid (HTW1.out.on hb5)
      have HRX := Lib.hid (HR1.out.on hb5)
      have HB4 : Hid (Below w3.heap.size w3 w5) := Lib.hid (HB1.out.trans (hb5.mono HB1.out.size))
      have HGW : Hid (w3.heap.size ≤ w5.heap.size) := Lib.hid HB4.out.size
      clear hb5 x0 x1 x2 x3 q0 q1 q2 HTW1 HR1 HB1 BT HGC HWC
      obtain ⟨x0, x1, x2, x3⟩ := BT5.out
      have hws := HWS.out
      clear HWS BT5
      rcases hrb : ripeB r n now x.ct with _ | _
      · have d0 : decide (x.t + gr ≤ now) = false := by rw [← HRB.out]; exact hrb
        have HQ1 := Lib.hid (H181.out hrb)
        have HQ2 := Lib.hid (H182.out hrb)
        clear H281 H282 H181 H182 HRB hrb
        go_upto_region 11 with (fail)
        obtain ⟨v', w6, h1, h2, h3⟩ := HTW4.out.swap.put x HRX.out HGW.out (HLE2.out k) 22
        rw [← HQ2.out] at h2
        have HT5 := Lib.hid h2.swap
        rw [← HQ1.out] at HT5
        have HB5 : Hid (Below w3.heap.size w3 w6) := Lib.hid (HB4.out.trans h3)
        clear h2 h3 HTW4 HB4 HRX HGW
        go_wp2_with (at_builtin; refine wpList_app rfl 22 _ _ rfl _ _ rfl rfl h1 ?_)
        clear h1 x0 x1 x2 x3
        go_roundw
        case rel => exact ⟨k + 1, by go_num, by omega, HT5, HB5⟩
        case measure => simp [intOf]; omega
      · have d0 : decide (x.t + gr ≤ now) = true := by rw [← HRB.out]; exact hrb
        have HQ1 := Lib.hid (H281.out hrb)
        have HQ2 := Lib.hid (H282.out hrb)
        clear H281 H282 H181 H182 HRB hrb
        go_upto_region 10 with (fail)
        obtain ⟨v', w6, h1, h2, h3⟩ := HTW4.out.put x HRX.out HGW.out (HLE1.out k) 22
        rw [← HQ1.out] at h2
        have HT5 := Lib.hid h2
        rw [← HQ2.out] at HT5
        have HB5 : Hid (Below w3.heap.size w3 w6) := Lib.hid (HB4.out.trans h3)
        clear h2 h3 HTW4 HB4 HRX HGW
        go_wp2_with (at_builtin; refine wpList_app rfl 22 _ _ rfl _ _ rfl rfl h1 ?_)
        clear h1 x0 x1 x2 x3
        go_roundw
        case rel => exact ⟨k + 1, by go_num, by omega, HT5, HB5⟩
        case measure => simp [intOf]; omega
    · obtain rfl : k = ys.length := by omega
      have e0 : decide ((ys.length : Int) < (ys.length : Int)) = false := by simp
      have hT := HTW.out
      rw [List.take_length] at hT
      have HBE : Hid (Below w.heap.size w wq) := Lib.hid (HB3.out.trans (HBq.out.mono HB3.out.size))
      have HTT := Lib.hid hT
      clear hT HTW HSU1 HSU2 HLE1 HLE2
      go_wp2_with fail
      refine bodyPost_ret (v := .tuple #[u13, u14, .int .i64 0]) (by simp [results, Try.results18, go_sem]) rfl ?_
      exact gives2 (HTT.out.o1.mono HB3.out.size) HE1.out (HTT.out.o2.mono HB3.out.size) HE2.out HBE.out
end Go.Proofs.Ytknpbbplolncpaa
