/-
  TimerParts: what is due at a tick, and what is not, are all timers, together, in order; the first one is due at its own tick, and at none ahead of it: the law returns true for every input.
-/
import Derived.Test.YtbhpinmdpngbkaaEq
namespace Go.Proofs.Ytbhpinmdpngbkaa.lawParts
open Go.ChangeShapes Go.WideShapes Go.ChangeAt Go.RowKit Go.Proofs.Ytbhpinmdpngbkaa.Pure

set_option maxRecDepth 100000 in
set_option maxHeartbeats 2000000 in
theorem wayFull (A : Option Addr) (c n0 : Nat) (xs : List Tm) (now : Int) (w : World) (hfx : ∀ W : World, Calls Try.prog 9 #[.slice A n0 c] W fun e w' => e = .returned (.slice A xs.length c) ∧ W = w') (nx : xs.length ≤ 257) (hn : 256 < xs.length) :
    Calls Try.prog 8 #[.slice A n0 c, .int .i64 now] w fun e w' => e = .returned (.bool true) ∧ Below w.heap.size w w' := by
  have HFX := Lib.hid hfx
  have HSort : Hid (∀ W : World, Calls Try.prog 10 #[.slice A xs.length c] W (GivesN W 0 [] 9)) := Lib.hid fun W => (l_sort_full xs.length hn (by omega)).mono fun _ _ h => h.n rfl
  clear hfx
  go_enter Try.func8, Try.ntmps8
  go_wp2_with fail
  refine (HFX.out _).mono ?_
  rintro e w' ⟨rfl, rfl⟩
  go_wp2_with fail
  refine (HSort.out _).mono ?_
  rintro e w1 ⟨A1, c1, rfl, _, hb1⟩
  have HB1 := Lib.hid hb1
  clear hb1
  go_wp2_with fail
  refine (awake_any _).mono ?_
  rintro e w2 ⟨rfl, hb2⟩
  have HE : Hid (Below w.heap.size w w2) := Lib.hid (HB1.out.trans (hb2.mono HB1.out.size))
  clear hb2
  go_wp2_with fail
  go_ret
  exact ⟨rfl, HE.out⟩

set_option maxRecDepth 100000 in
set_option maxHeartbeats 4000000 in
theorem wayNone (A : Option Addr) (c n0 : Nat) (xs : List Tm) (now : Int) (w : World) (hfx : ∀ W : World, Calls Try.prog 9 #[.slice A n0 c] W fun e w' => e = .returned (.slice A xs.length c) ∧ W = w') (hx : Lst w A xs) (fx : Fits xs) (hn : xs.length ≤ 256) (h0 : xs.length = 0) :
    Calls Try.prog 8 #[.slice A n0 c, .int .i64 now] w fun e w' => e = .returned (.bool true) ∧ Below w.heap.size w w' := by
  obtain ⟨L, hL⟩ : ∃ L, L = srt xs := ⟨_, rfl⟩
  have hlen : L.length = xs.length := by rw [hL, srt_len]
  have hso : Sorted L := by rw [hL]; exact srt_sorted _
  have hmay : mayB L = true := (mayB_iff L).2 ⟨by omega, hso⟩
  have fL : Fits L := fun x h => fx x (by rw [hL] at h; exact (srt_perm xs).subset h)
  have HFX := Lib.hid hfx
  have LX := Lib.hid hx
  have HB : Hid (Below w.heap.size w w) := Lib.hid (Below.refl _ _)
  have HSort : Hid (∀ W : World, Lst W A xs → Calls Try.prog 10 #[.slice A xs.length c] W (Gives W L 0)) := Lib.hid fun W h => by rw [hL]; exact l_sort h hn fx
  have HDue : Hid (∀ (W : World) (B : Option Addr) (d : Nat) (t : Int) (ys zs : List Tm), dueL t L = ys → restL t L = zs → Lst W B L → Calls Try.prog 19 #[.slice B L.length d, .int .i64 t] W (Gives2 W ys zs 0)) := Lib.hid fun W B d t ys zs h1 h2 h => by
    rw [← h1, ← h2]
    exact l_due h t hmay fL
  have HSm : Hid (∀ (W : World) (B B' : Option Addr) (e e' : Nat), Lst W B L → Lst W B' L → Calls Try.prog 17 #[.slice B L.length e, .slice B' L.length e'] W fun e w' => e = .returned (.bool true) ∧ Below W.heap.size W w') := Lib.hid fun W B B' e e' h h' => l_same h h' (by omega)
  obtain ⟨a, ha⟩ : ∃ a, dueL now L = a := ⟨_, rfl⟩
  obtain ⟨b, hb⟩ : ∃ b, restL now L = b := ⟨_, rfl⟩
  have HA := Lib.hid ha
  have HBR := Lib.hid hb
  have HAB : Hid (a ++ b = L) := Lib.hid (by rw [← ha, ← hb]; exact due_rest hso now)
  have hal : a.length + b.length ≤ 256 := by have := congrArg List.length HAB.out; rw [List.length_append] at this; omega
  have hL0 : L.length = 0 := by omega
  have HNx : Hid (∀ (W : World) (B : Option Addr) (d : Nat), Calls Try.prog 21 #[.slice B L.length d] W fun e w' => e = .returned (.tuple #[.agg #[.int .i64 0, .int .i64 0, .int .i64 0, .int .u64 0], .int .i64 6]) ∧ Below W.heap.size W w') := Lib.hid fun W B d => by rw [hL0]; exact next_none B d W
  have d0 : ((L.length : Int) == 0) = true := by rw [hL0]; rfl
  clear hfx hx fx hL hlen hso hmay fL ha hb h0 hL0
  go_enter Try.func8, Try.ntmps8
  go_wp2_with fail
  refine (HFX.out _).mono ?_
  rintro e w' ⟨rfl, rfl⟩
  go_wp2_with fail
  refine (HSort.out _ LX.out).mono ?_
  rintro e w1 ⟨A1, c1, rfl, hl1, hb1⟩
  have LNL_1 := Lib.hid hl1
  have HB_1 : Hid (Below w.heap.size w _) := Lib.hid (HB.out.trans (hb1.mono HB.out.size))
  clear LX HB hb1 hl1
  go_wp2_with fail
  refine (HDue.out _ _ _ _ a b HA.out HBR.out LNL_1.out).mono ?_
  rintro e w2 ⟨A2, c2, A3, c3, rfl, hl2, hl3, hb2⟩
  have LNa_2 := Lib.hid hl2
  have LNb_2 := Lib.hid hl3
  have LL_2 := Lib.hid (LNL_1.out.on hb2)
  have HB_2 : Hid (Below w.heap.size w _) := Lib.hid (HB_1.out.trans (hb2.mono HB_1.out.size))
  clear LNL_1 HB_1 hb2 hl2 hl3
  go_wp2_with (at_builtin; refine wpList_append_guarded (by rfl) _ _ rfl w2.heap.size (.slice (some ⟨w2.heap.size, 0, none⟩) 0 0) [] rfl ?c1 A2 c2 0 (w2.heap.size + 1) a rfl ?c2 ?c3 ?c4 ?_)
  case c1 => exact World.ownsRow_made w2 #[] 0 (Nat.le_refl _) (Nat.zero_le _) rfl
  case c2 => exact (LNa_2.out.alloc _).wide (Nat.le_refl _) (by simp)
  case c3 => simp; omega
  case c4 => simp
  intro v1 W1 own1 grow1
  have OW1 : Hid (Own W1 w2.heap.size v1 a) := Lib.hid (by simpa using own1)
  have BW1 : Hid (Below w2.heap.size w2 W1) := Lib.hid (((Below.refl _ w2).alloc (Nat.le_refl _) _).grown grow1 (by simp) (by intro k hk; simp [Value.ownBlock] at hk; omega))
  clear own1 grow1
  go_wp2_with (at_builtin; refine wpList_append_guarded (by rfl) _ _ rfl w2.heap.size v1 a rfl OW1.out A3 c3 0 W1.heap.size b rfl (LNb_2.out.on BW1.out) ?c3 BW1.out.size ?_)
  case c3 => omega
  intro v2 W2 own2 grow2
  have hbW : Below w2.heap.size w2 W2 := BW1.out.grown grow2 BW1.out.size (fun k hk => (OW1.out.ge k hk).1)
  rw [HAB.out] at own2
  obtain ⟨A9, c9, rfl, _, hl9⟩ := own2.lst
  have LNb_9 := Lib.hid hl9
  clear OW1 BW1 own2 grow2 hl9
  have LL_3 := Lib.hid (LL_2.out.on hbW)
  have HB_3 : Hid (Below w.heap.size w _) := Lib.hid (HB_2.out.trans (hbW.mono HB_2.out.size))
  clear LL_2 LNa_2 LNb_2 HB_2 hbW
  go_wp2_with fail
  refine (HSm.out _ _ _ _ _ LNb_9.out LL_3.out).mono ?_
  rintro e w4 ⟨rfl, hb4⟩
  have LL_4 := Lib.hid (LL_3.out.on hb4)
  have HB_4 : Hid (Below w.heap.size w _) := Lib.hid (HB_3.out.trans (hb4.mono HB_3.out.size))
  clear LL_3 LNb_9 HB_3 hb4
  go_wp2_with fail
  refine (HNx.out _ _ _).mono ?_
  rintro e w5 ⟨rfl, hb5⟩
  have LL_5 := Lib.hid (LL_4.out.on hb5)
  have HB_5 : Hid (Below w.heap.size w _) := Lib.hid (HB_4.out.trans (hb5.mono HB_4.out.size))
  clear LL_4 HB_4 hb5
  go_wp2_with fail
  refine (awake_any _).mono ?_
  rintro e wE ⟨rfl, hbE⟩
  have HE : Hid (Below w.heap.size w wE) := Lib.hid ((HB_5.out.alloc HB_5.out.size _).trans (hbE.mono (by have := HB_5.out.size; simp; omega)))
  clear hbE
  go_wp2_with fail
  go_ret
  exact ⟨rfl, HE.out⟩

set_option maxRecDepth 100000 in
set_option maxHeartbeats 4000000 in
theorem wayMore (A : Option Addr) (c n0 : Nat) (xs : List Tm) (now : Int) (w : World) (hfx : ∀ W : World, Calls Try.prog 9 #[.slice A n0 c] W fun e w' => e = .returned (.slice A xs.length c) ∧ W = w') (hx : Lst w A xs) (fx : Fits xs) (hn : xs.length ≤ 256) (h0 : 0 < xs.length) (hmin : ∀ x, nth (srt xs) 0 = x → -9223372036854775808 < x.a) :
    Calls Try.prog 8 #[.slice A n0 c, .int .i64 now] w fun e w' => e = .returned (.bool true) ∧ Below w.heap.size w w' := by
  obtain ⟨L, hL⟩ : ∃ L, L = srt xs := ⟨_, rfl⟩
  have hlen : L.length = xs.length := by rw [hL, srt_len]
  have hso : Sorted L := by rw [hL]; exact srt_sorted _
  have hmay : mayB L = true := (mayB_iff L).2 ⟨by omega, hso⟩
  have fL : Fits L := fun x h => fx x (by rw [hL] at h; exact (srt_perm xs).subset h)
  have HFX := Lib.hid hfx
  have LX := Lib.hid hx
  have HB : Hid (Below w.heap.size w w) := Lib.hid (Below.refl _ _)
  have HSort : Hid (∀ W : World, Lst W A xs → Calls Try.prog 10 #[.slice A xs.length c] W (Gives W L 0)) := Lib.hid fun W h => by rw [hL]; exact l_sort h hn fx
  have HDue : Hid (∀ (W : World) (B : Option Addr) (d : Nat) (t : Int) (ys zs : List Tm), dueL t L = ys → restL t L = zs → Lst W B L → Calls Try.prog 19 #[.slice B L.length d, .int .i64 t] W (Gives2 W ys zs 0)) := Lib.hid fun W B d t ys zs h1 h2 h => by
    rw [← h1, ← h2]
    exact l_due h t hmay fL
  have HSm : Hid (∀ (W : World) (B B' : Option Addr) (e e' : Nat), Lst W B L → Lst W B' L → Calls Try.prog 17 #[.slice B L.length e, .slice B' L.length e'] W fun e w' => e = .returned (.bool true) ∧ Below W.heap.size W w') := Lib.hid fun W B B' e e' h h' => l_same h h' (by omega)
  obtain ⟨a, ha⟩ : ∃ a, dueL now L = a := ⟨_, rfl⟩
  obtain ⟨b, hb⟩ : ∃ b, restL now L = b := ⟨_, rfl⟩
  have HA := Lib.hid ha
  have HBR := Lib.hid hb
  have HAB : Hid (a ++ b = L) := Lib.hid (by rw [← ha, ← hb]; exact due_rest hso now)
  have hal : a.length + b.length ≤ 256 := by have := congrArg List.length HAB.out; rw [List.length_append] at this; omega
  have hL0 : 0 < L.length := by omega
  obtain ⟨x, hx0⟩ : ∃ x, nth L 0 = x := ⟨_, rfl⟩
  have HX0 := Lib.hid hx0
  have hxb : x.a ≤ 9223372036854775807 := by rw [← hx0]; exact fL _ (nth_mem hL0)
  have HNx : Hid (∀ (W : World) (B : Option Addr) (d : Nat), Lst W B L → Calls Try.prog 21 #[.slice B L.length d] W fun e w' => e = .returned (.tuple #[.agg #[.int .i64 x.a, .int .i64 x.k, .int .i64 x.o, .int .u64 x.n], .int .i64 0]) ∧ Below W.heap.size W w') := Lib.hid fun W B d h => by
    have := next_some B d _ _ L W hmay hL0 h (Nat.le_refl _)
    rw [hx0] at this
    exact this
  obtain ⟨C, hC⟩ : ∃ C, dueL x.a L = C := ⟨_, rfl⟩
  obtain ⟨C', hC'⟩ : ∃ C', restL x.a L = C' := ⟨_, rfl⟩
  have HC := Lib.hid hC
  have HC' := Lib.hid hC'
  have hCf : nth C 0 = x ∧ 0 < C.length := by
    have := due_first hL0
    rw [hx0, hC] at this
    exact this
  have HCF := Lib.hid hCf.1
  have hCp := hCf.2
  have d0 : ((L.length : Int) == 0) = false := by rw [beq_eq_false_iff_ne]; omega
  have d1 : ((C.length : Int) == 0) = false := by rw [beq_eq_false_iff_ne]; omega
  have i1 : (0 : Int) < (C.length : Int) := by omega
  obtain ⟨D', hD'⟩ : ∃ D', restL (x.a - 1) L = D' := ⟨_, rfl⟩
  have HD := Lib.hid (due_none hso (x.a - 1) (fun y _ e => by rw [hx0] at e; rw [e]; omega))
  have HD' := Lib.hid hD'
  have hlo : -9223372036854775808 < x.a := hmin x (hL ▸ hx0)
  have d2 : decide (-9223372036854775808 < x.a) = true := by simpa using hlo
  clear hfx hx fx hL hlen hso hmay fL ha hb hx0 hC hC' hCf hD' hmin
  go_enter Try.func8, Try.ntmps8
  go_wp2_with fail
  refine (HFX.out _).mono ?_
  rintro e w' ⟨rfl, rfl⟩
  go_wp2_with fail
  refine (HSort.out _ LX.out).mono ?_
  rintro e w1 ⟨A1, c1, rfl, hl1, hb1⟩
  have LNL_1 := Lib.hid hl1
  have HB_1 : Hid (Below w.heap.size w _) := Lib.hid (HB.out.trans (hb1.mono HB.out.size))
  clear LX HB hb1 hl1
  go_wp2_with fail
  refine (HDue.out _ _ _ _ a b HA.out HBR.out LNL_1.out).mono ?_
  rintro e w2 ⟨A2, c2, A3, c3, rfl, hl2, hl3, hb2⟩
  have LNa_2 := Lib.hid hl2
  have LNb_2 := Lib.hid hl3
  have LL_2 := Lib.hid (LNL_1.out.on hb2)
  have HB_2 : Hid (Below w.heap.size w _) := Lib.hid (HB_1.out.trans (hb2.mono HB_1.out.size))
  clear LNL_1 HB_1 hb2 hl2 hl3
  go_wp2_with (at_builtin; refine wpList_append_guarded (by rfl) _ _ rfl w2.heap.size (.slice (some ⟨w2.heap.size, 0, none⟩) 0 0) [] rfl ?c1 A2 c2 0 (w2.heap.size + 1) a rfl ?c2 ?c3 ?c4 ?_)
  case c1 => exact World.ownsRow_made w2 #[] 0 (Nat.le_refl _) (Nat.zero_le _) rfl
  case c2 => exact (LNa_2.out.alloc _).wide (Nat.le_refl _) (by simp)
  case c3 => simp; omega
  case c4 => simp
  intro v1 W1 own1 grow1
  have OW1 : Hid (Own W1 w2.heap.size v1 a) := Lib.hid (by simpa using own1)
  have BW1 : Hid (Below w2.heap.size w2 W1) := Lib.hid (((Below.refl _ w2).alloc (Nat.le_refl _) _).grown grow1 (by simp) (by intro k hk; simp [Value.ownBlock] at hk; omega))
  clear own1 grow1
  go_wp2_with (at_builtin; refine wpList_append_guarded (by rfl) _ _ rfl w2.heap.size v1 a rfl OW1.out A3 c3 0 W1.heap.size b rfl (LNb_2.out.on BW1.out) ?c3 BW1.out.size ?_)
  case c3 => omega
  intro v2 W2 own2 grow2
  have hbW : Below w2.heap.size w2 W2 := BW1.out.grown grow2 BW1.out.size (fun k hk => (OW1.out.ge k hk).1)
  rw [HAB.out] at own2
  obtain ⟨A9, c9, rfl, _, hl9⟩ := own2.lst
  have LNb_9 := Lib.hid hl9
  clear OW1 BW1 own2 grow2 hl9
  have LL_3 := Lib.hid (LL_2.out.on hbW)
  have HB_3 : Hid (Below w.heap.size w _) := Lib.hid (HB_2.out.trans (hbW.mono HB_2.out.size))
  clear LL_2 LNa_2 LNb_2 HB_2 hbW
  go_wp2_with fail
  refine (HSm.out _ _ _ _ _ LNb_9.out LL_3.out).mono ?_
  rintro e w4 ⟨rfl, hb4⟩
  have LL_4 := Lib.hid (LL_3.out.on hb4)
  have HB_4 : Hid (Below w.heap.size w _) := Lib.hid (HB_3.out.trans (hb4.mono HB_3.out.size))
  clear LL_3 LNb_9 HB_3 hb4
  go_wp2_with fail
  refine (HNx.out _ _ _ LL_4.out).mono ?_
  rintro e w5 ⟨rfl, hb5⟩
  have LL_5 := Lib.hid (LL_4.out.on hb5)
  have HB_5 : Hid (Below w.heap.size w _) := Lib.hid (HB_4.out.trans (hb5.mono HB_4.out.size))
  clear LL_4 HB_4 hb5
  have BXt := Lib.hid (Bx.new w5 x 33)
  go_wp2_with fail
  refine (HDue.out _ _ _ _ C C' HC.out HC'.out (LL_5.out.alloc _)).mono ?_
  rintro e w6 ⟨A5, c5, A6, c6, rfl, hl5, _, hb6⟩
  have XT_6 := Lib.hid (BXt.out.on hb6)
  have LL_6 := Lib.hid ((LL_5.out.alloc _).on hb6)
  have LC_6 := Lib.hid hl5
  have HBk_6 : Hid (Below w.heap.size w _) := Lib.hid ((HB_5.out.alloc HB_5.out.size _).trans (hb6.mono (by have := HB_5.out.size; simp; omega)))
  clear BXt LL_5 HB_5 hl5 hb6
  obtain ⟨b0, b1, b2, b3⟩ := XT_6.out
  obtain ⟨ad, rfl, _, _, t0⟩ := LC_6.out 0 hCp
  have t0' : At _ ad (nth C 0) := t0
  rw [HCF.out] at t0'
  obtain ⟨x1, x2, x3, x4⟩ := t0'.flat
  clear t0 t0'
  have b0' := fun d os => cell_regrown b0 d os
  have b1' := fun d os => cell_regrown b1 d os
  have b2' := fun d os => cell_regrown b2 d os
  have b3' := fun d os => cell_regrown b3 d os
  have x1' := fun d os => cell_regrown x1 d os
  have x2' := fun d os => cell_regrown x2 d os
  have x3' := fun d os => cell_regrown x3 d os
  have x4' := fun d os => cell_regrown x4 d os
  clear b0 b1 b2 b3 x1 x2 x3 x4
  go_upto_region 11 with (fail)
  refine q_enter (by kernel_rfl) (by kernel_rfl) ?_
  iterate 18 (refine q_step ?_; intro K hK; go_simp; refine hK _ ?_; clear hK K)
  refine q_nil ?_
  intro w7 hb7
  have LL_7 := Lib.hid (LL_6.out.on hb7)
  have Xt_7 := Lib.hid (XT_6.out.on hb7)
  have HB_7 : Hid (Below w.heap.size w _) := Lib.hid (HBk_6.out.trans (hb7.mono HBk_6.out.size))
  clear LL_6 LC_6 XT_6 HBk_6 hb7 b0' b1' b2' b3' x1' x2' x3' x4'
  obtain ⟨b0, b1, b2, b3⟩ := Xt_7.out
  go_wp2_with fail
  refine (HDue.out _ _ _ _ [] D' HD.out HD'.out LL_7.out).mono ?_
  rintro e w8 ⟨A7, c7, A8, c8, rfl, _, _, hb8⟩
  have LL_8 := Lib.hid (LL_7.out.on hb8)
  have Xt_8 := Lib.hid (Xt_7.out.on hb8)
  have HB_8 : Hid (Below w.heap.size w _) := Lib.hid (HB_7.out.trans (hb8.mono HB_7.out.size))
  clear LL_7 Xt_7 HB_7 hb8 b0 b1 b2 b3
  go_wp2_with fail
  refine (awake_any _).mono ?_
  rintro e wE ⟨rfl, hbE⟩
  have HE : Hid (Below w.heap.size w wE) := Lib.hid (HB_8.out.trans (hbE.mono HB_8.out.size))
  clear hbE
  go_wp2_with fail
  go_ret
  exact ⟨rfl, HE.out⟩

set_option maxRecDepth 100000 in
set_option maxHeartbeats 4000000 in
theorem wayLeast (A : Option Addr) (c n0 : Nat) (xs : List Tm) (now : Int) (w : World) (hfx : ∀ W : World, Calls Try.prog 9 #[.slice A n0 c] W fun e w' => e = .returned (.slice A xs.length c) ∧ W = w') (hx : Lst w A xs) (fx : Fits xs) (hn : xs.length ≤ 256) (h0 : 0 < xs.length) (hmin : ∀ x, nth (srt xs) 0 = x → x.a ≤ -9223372036854775808) :
    Calls Try.prog 8 #[.slice A n0 c, .int .i64 now] w fun e w' => e = .returned (.bool true) ∧ Below w.heap.size w w' := by
  obtain ⟨L, hL⟩ : ∃ L, L = srt xs := ⟨_, rfl⟩
  have hlen : L.length = xs.length := by rw [hL, srt_len]
  have hso : Sorted L := by rw [hL]; exact srt_sorted _
  have hmay : mayB L = true := (mayB_iff L).2 ⟨by omega, hso⟩
  have fL : Fits L := fun x h => fx x (by rw [hL] at h; exact (srt_perm xs).subset h)
  have HFX := Lib.hid hfx
  have LX := Lib.hid hx
  have HB : Hid (Below w.heap.size w w) := Lib.hid (Below.refl _ _)
  have HSort : Hid (∀ W : World, Lst W A xs → Calls Try.prog 10 #[.slice A xs.length c] W (Gives W L 0)) := Lib.hid fun W h => by rw [hL]; exact l_sort h hn fx
  have HDue : Hid (∀ (W : World) (B : Option Addr) (d : Nat) (t : Int) (ys zs : List Tm), dueL t L = ys → restL t L = zs → Lst W B L → Calls Try.prog 19 #[.slice B L.length d, .int .i64 t] W (Gives2 W ys zs 0)) := Lib.hid fun W B d t ys zs h1 h2 h => by
    rw [← h1, ← h2]
    exact l_due h t hmay fL
  have HSm : Hid (∀ (W : World) (B B' : Option Addr) (e e' : Nat), Lst W B L → Lst W B' L → Calls Try.prog 17 #[.slice B L.length e, .slice B' L.length e'] W fun e w' => e = .returned (.bool true) ∧ Below W.heap.size W w') := Lib.hid fun W B B' e e' h h' => l_same h h' (by omega)
  obtain ⟨a, ha⟩ : ∃ a, dueL now L = a := ⟨_, rfl⟩
  obtain ⟨b, hb⟩ : ∃ b, restL now L = b := ⟨_, rfl⟩
  have HA := Lib.hid ha
  have HBR := Lib.hid hb
  have HAB : Hid (a ++ b = L) := Lib.hid (by rw [← ha, ← hb]; exact due_rest hso now)
  have hal : a.length + b.length ≤ 256 := by have := congrArg List.length HAB.out; rw [List.length_append] at this; omega
  have hL0 : 0 < L.length := by omega
  obtain ⟨x, hx0⟩ : ∃ x, nth L 0 = x := ⟨_, rfl⟩
  have HX0 := Lib.hid hx0
  have hxb : x.a ≤ 9223372036854775807 := by rw [← hx0]; exact fL _ (nth_mem hL0)
  have HNx : Hid (∀ (W : World) (B : Option Addr) (d : Nat), Lst W B L → Calls Try.prog 21 #[.slice B L.length d] W fun e w' => e = .returned (.tuple #[.agg #[.int .i64 x.a, .int .i64 x.k, .int .i64 x.o, .int .u64 x.n], .int .i64 0]) ∧ Below W.heap.size W w') := Lib.hid fun W B d h => by
    have := next_some B d _ _ L W hmay hL0 h (Nat.le_refl _)
    rw [hx0] at this
    exact this
  obtain ⟨C, hC⟩ : ∃ C, dueL x.a L = C := ⟨_, rfl⟩
  obtain ⟨C', hC'⟩ : ∃ C', restL x.a L = C' := ⟨_, rfl⟩
  have HC := Lib.hid hC
  have HC' := Lib.hid hC'
  have hCf : nth C 0 = x ∧ 0 < C.length := by
    have := due_first hL0
    rw [hx0, hC] at this
    exact this
  have HCF := Lib.hid hCf.1
  have hCp := hCf.2
  have d0 : ((L.length : Int) == 0) = false := by rw [beq_eq_false_iff_ne]; omega
  have d1 : ((C.length : Int) == 0) = false := by rw [beq_eq_false_iff_ne]; omega
  have i1 : (0 : Int) < (C.length : Int) := by omega
  have d2 : decide (-9223372036854775808 < x.a) = false := by have := hmin x (hL ▸ hx0); simp; omega
  clear hfx hx fx hL hlen hso hmay fL ha hb hx0 hC hC' hCf hmin
  go_enter Try.func8, Try.ntmps8
  go_wp2_with fail
  refine (HFX.out _).mono ?_
  rintro e w' ⟨rfl, rfl⟩
  go_wp2_with fail
  refine (HSort.out _ LX.out).mono ?_
  rintro e w1 ⟨A1, c1, rfl, hl1, hb1⟩
  have LNL_1 := Lib.hid hl1
  have HB_1 : Hid (Below w.heap.size w _) := Lib.hid (HB.out.trans (hb1.mono HB.out.size))
  clear LX HB hb1 hl1
  go_wp2_with fail
  refine (HDue.out _ _ _ _ a b HA.out HBR.out LNL_1.out).mono ?_
  rintro e w2 ⟨A2, c2, A3, c3, rfl, hl2, hl3, hb2⟩
  have LNa_2 := Lib.hid hl2
  have LNb_2 := Lib.hid hl3
  have LL_2 := Lib.hid (LNL_1.out.on hb2)
  have HB_2 : Hid (Below w.heap.size w _) := Lib.hid (HB_1.out.trans (hb2.mono HB_1.out.size))
  clear LNL_1 HB_1 hb2 hl2 hl3
  go_wp2_with (at_builtin; refine wpList_append_guarded (by rfl) _ _ rfl w2.heap.size (.slice (some ⟨w2.heap.size, 0, none⟩) 0 0) [] rfl ?c1 A2 c2 0 (w2.heap.size + 1) a rfl ?c2 ?c3 ?c4 ?_)
  case c1 => exact World.ownsRow_made w2 #[] 0 (Nat.le_refl _) (Nat.zero_le _) rfl
  case c2 => exact (LNa_2.out.alloc _).wide (Nat.le_refl _) (by simp)
  case c3 => simp; omega
  case c4 => simp
  intro v1 W1 own1 grow1
  have OW1 : Hid (Own W1 w2.heap.size v1 a) := Lib.hid (by simpa using own1)
  have BW1 : Hid (Below w2.heap.size w2 W1) := Lib.hid (((Below.refl _ w2).alloc (Nat.le_refl _) _).grown grow1 (by simp) (by intro k hk; simp [Value.ownBlock] at hk; omega))
  clear own1 grow1
  go_wp2_with (at_builtin; refine wpList_append_guarded (by rfl) _ _ rfl w2.heap.size v1 a rfl OW1.out A3 c3 0 W1.heap.size b rfl (LNb_2.out.on BW1.out) ?c3 BW1.out.size ?_)
  case c3 => omega
  intro v2 W2 own2 grow2
  have hbW : Below w2.heap.size w2 W2 := BW1.out.grown grow2 BW1.out.size (fun k hk => (OW1.out.ge k hk).1)
  rw [HAB.out] at own2
  obtain ⟨A9, c9, rfl, _, hl9⟩ := own2.lst
  have LNb_9 := Lib.hid hl9
  clear OW1 BW1 own2 grow2 hl9
  have LL_3 := Lib.hid (LL_2.out.on hbW)
  have HB_3 : Hid (Below w.heap.size w _) := Lib.hid (HB_2.out.trans (hbW.mono HB_2.out.size))
  clear LL_2 LNa_2 LNb_2 HB_2 hbW
  go_wp2_with fail
  refine (HSm.out _ _ _ _ _ LNb_9.out LL_3.out).mono ?_
  rintro e w4 ⟨rfl, hb4⟩
  have LL_4 := Lib.hid (LL_3.out.on hb4)
  have HB_4 : Hid (Below w.heap.size w _) := Lib.hid (HB_3.out.trans (hb4.mono HB_3.out.size))
  clear LL_3 LNb_9 HB_3 hb4
  go_wp2_with fail
  refine (HNx.out _ _ _ LL_4.out).mono ?_
  rintro e w5 ⟨rfl, hb5⟩
  have LL_5 := Lib.hid (LL_4.out.on hb5)
  have HB_5 : Hid (Below w.heap.size w _) := Lib.hid (HB_4.out.trans (hb5.mono HB_4.out.size))
  clear LL_4 HB_4 hb5
  have BXt := Lib.hid (Bx.new w5 x 33)
  go_wp2_with fail
  refine (HDue.out _ _ _ _ C C' HC.out HC'.out (LL_5.out.alloc _)).mono ?_
  rintro e w6 ⟨A5, c5, A6, c6, rfl, hl5, _, hb6⟩
  have XT_6 := Lib.hid (BXt.out.on hb6)
  have LL_6 := Lib.hid ((LL_5.out.alloc _).on hb6)
  have LC_6 := Lib.hid hl5
  have HBk_6 : Hid (Below w.heap.size w _) := Lib.hid ((HB_5.out.alloc HB_5.out.size _).trans (hb6.mono (by have := HB_5.out.size; simp; omega)))
  clear BXt LL_5 HB_5 hl5 hb6
  obtain ⟨b0, b1, b2, b3⟩ := XT_6.out
  obtain ⟨ad, rfl, _, _, t0⟩ := LC_6.out 0 hCp
  have t0' : At _ ad (nth C 0) := t0
  rw [HCF.out] at t0'
  obtain ⟨x1, x2, x3, x4⟩ := t0'.flat
  clear t0 t0'
  have b0' := fun d os => cell_regrown b0 d os
  have b1' := fun d os => cell_regrown b1 d os
  have b2' := fun d os => cell_regrown b2 d os
  have b3' := fun d os => cell_regrown b3 d os
  have x1' := fun d os => cell_regrown x1 d os
  have x2' := fun d os => cell_regrown x2 d os
  have x3' := fun d os => cell_regrown x3 d os
  have x4' := fun d os => cell_regrown x4 d os
  clear b0 b1 b2 b3 x1 x2 x3 x4
  go_upto_region 11 with (fail)
  refine q_enter (by kernel_rfl) (by kernel_rfl) ?_
  iterate 18 (refine q_step ?_; intro K hK; go_simp; refine hK _ ?_; clear hK K)
  refine q_nil ?_
  intro w7 hb7
  have LL_7 := Lib.hid (LL_6.out.on hb7)
  have Xt_7 := Lib.hid (XT_6.out.on hb7)
  have HB_7 : Hid (Below w.heap.size w _) := Lib.hid (HBk_6.out.trans (hb7.mono HBk_6.out.size))
  clear LL_6 LC_6 XT_6 HBk_6 hb7 b0' b1' b2' b3' x1' x2' x3' x4'
  obtain ⟨b0, b1, b2, b3⟩ := Xt_7.out
  go_wp2_with fail
  refine (awake_any _).mono ?_
  rintro e wE ⟨rfl, hbE⟩
  have HE : Hid (Below w.heap.size w wE) := Lib.hid (HB_7.out.trans (hbE.mono HB_7.out.size))
  clear hbE
  go_wp2_with fail
  go_ret
  exact ⟨rfl, HE.out⟩

theorem walk (A : Option Addr) (c : Nat) (xs0 : List Tm) (now : Int) (w : World) (hc : xs0.length ≤ c) (hm : c ≤ maxLen) (hl : Lst w A xs0) (hf : Fits xs0) :
    Calls Try.prog 8 #[.slice A xs0.length c, .int .i64 now] w fun e w' => e = .returned (.bool true) ∧ Below w.heap.size w w' := by
  have hfx := few_any A c _ _ xs0 w hc hm hl
  have hx : Lst w A (cutL xs0) := Has.take hl 257
  have fx : Fits (cutL xs0) := fun x h => hf x (List.mem_of_mem_take h)
  have nx := cutL_len xs0
  rcases Nat.lt_or_ge 256 (cutL xs0).length with hn | hn
  · exact wayFull A c _ _ now w hfx nx hn
  · rcases Nat.eq_zero_or_pos (cutL xs0).length with h0 | h0
    · exact wayNone A c _ _ now w hfx hx fx hn h0
    · by_cases h1 : -9223372036854775808 < (nth (srt (cutL xs0)) 0).a
      · exact wayMore A c _ _ now w hfx hx fx hn h0 (fun x e => e ▸ h1)
      · exact wayLeast A c _ _ now w hfx hx fx hn h0 (fun x e => e ▸ Int.not_lt.1 h1)

/-! ### the statement -/
theorem parOk : ∀ t ∈ (#[22, 2] : Array TypeId).toList, Try.prog.readableRec t = true ∧ t < Try.prog.types.size := by
  have hall : ([22, 2].all fun t => Try.prog.readableRec t && decide (t < Try.prog.types.size)) = true := by kernel_rfl
  intro t ht
  simpa using List.all_eq_true.1 hall t ht

/-- What the walk gives, for every argument. -/
theorem contract (H : Type) (enc : TypeId × Value → H) (W : World) (base : Nat) (args : Array Value) (ds gs : List (DataW H)) (before : List MemPlace)
    (hval : ∀ (j : Nat) t v, Try.f8.params[j]? = some t → args[j]? = some v → Value.okWide Try.prog W .any base t v)
    (hW : DataW.Whole enc Try.prog Try.f8.params.toList Rows.timerPartsSpec.vars false W args.toList ds gs before) :
    Calls Try.prog 8 args W fun e W' => ∃ v, e = .returned v ∧ Rows.timerPartsSpec.post enc Try.prog Try.f8 false true false false W args v W' := by
  have hW' := hW
  obtain ⟨p, q, hA0, hV, rfl, hfz, hnd⟩ := hW
  have hA : DataW.TrodAll enc Try.prog W 0 (fun _ => true) true Try.f8.params.toList args.toList ds p := hA0
  rw [Try.params8] at hA hval
  obtain ⟨v0, vs0, d0, ds0, p0, q0, hargs, rfl, rfl, h0, r0⟩ := trodAll_cons hA
  obtain ⟨v1, vs1, d1, ds1, p1, q1, rfl, rfl, rfl, h1, r1⟩ := trodAll_cons r0
  obtain ⟨rfl, rfl, rfl⟩ := trodAll_nil r1
  obtain rfl : args = #[v0, v1] := by cases args; simp_all
  obtain ⟨rfl, rfl⟩ := trodVars_none hV
  obtain ⟨Axs, cxs, xs, rfl, hcxs, hmxs, hlxs, hfxs⟩ := open_tms (hval 0 22 v0 rfl rfl) h0
  obtain ⟨m, rfl, rfl, rfl, wm⟩ := open_int Try.underlying2 (hval 1 2 v1 rfl rfl) h1
  clear hA0
  refine (walk Axs cxs xs m W hcxs hmxs hlxs hfxs).mono fun e W' ⟨he, hb⟩ => ?_
  subst he
  exact ⟨_, rfl, law_post rfl (by rw [Try.params8]; exact parOk) rfl hW' rfl rfl rfl hb⟩

set_option maxRecDepth 100000 in
theorem lifted (os : Os) (started : os.Started) (H : Type) (enc : TypeId × Value → H) :
    ReturnsInHanded {} Try.checked os 8 .any (Rows.timerPartsSpec.pre6 enc Try.prog Try.f8 Rows.timerPartsRow.domain false) (Rows.timerPartsSpec.post enc Try.prog Try.f8 false true false false) := by
  refine returnsInHanded_of_change (C := Try.checked) own started (by kernel_rfl) Try.func8
    (ChangeSpec.witness6 (enc := enc) (C := Try.checked) false ⟨#[], #[.slice none 0 0, .int .i64 0], []⟩ 8 (by kernel_rfl) (by kernel_rfl) (by kernel_rfl) (by kernel_rfl)) ?_
  intro W base args ds gs before hval hW _ _
  exact contract H enc W base args ds gs before hval hW

/-- THE STATEMENT. -/
theorem said : Rows.TimerPartsSaid :=
  OpenClaim.holds_of_wide 8 Try.f8 rfl rfl rfl rfl rfl rfl rfl ⟨rfl, rfl, rfl, rfl, rfl⟩ rfl rfl rfl rfl rfl (by kernel_rfl) Try.func8 (by kernel_rfl)
    (of_decide_eq_true (by kernel_rfl)) (by unfold Func.isWrapper; first | (rw [if_pos (by decide +kernel)]; kernel_rfl) | (rw [if_neg (by decide +kernel)]; exact ⟨rfl, rfl⟩))
    (fun os started H enc _ => lifted os started H enc)
end Go.Proofs.Ytbhpinmdpngbkaa.lawParts
