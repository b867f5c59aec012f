/-
  THE LAW NewsOnce: whatever is added, and taken, of one node there is one thing, in order; what is told of a node is nothing better than what was added.
  For all news (of which the law looks at the first sixty), and all steps.
-/
import Derived.Test.YtipepmnnjhhjbaaMapK
import Derived.Test.YtipepmnnjhhjbaaLaw
import Derived.BigRegion
namespace Go.Proofs.Ytipepmnnjhhjbaa.lawOnce
open Go.Sort Go.ChangeShapes Go.WideShapes Go.ChangeAt Go.RowKit Go.Joins Go.Proofs.Ytipepmnnjhhjbaa.Pure

theorem add_ok {W : World} {A : Option Addr} {c : Nat} {q : List Td} (h : Ts W A q) (hq : mayQ q = true) (n : Nw) (o : Int) (hx : mayT (n.td o) = true) :
    Calls Try.prog 12 #[.slice A q.length c, .agg #[.int .i64 n.w, .int .u64 n.i, .int .i64 n.s], .int .i64 o] W fun e w' => ∃ A' c', e = .returned (.tuple #[.slice A' (addQ q (n.td o)).length c', .int .i64 0]) ∧ Ts w' A' (addQ q (n.td o)) ∧ Below W.heap.size W w' := by
  have := l_add (c := c) h (by have := mayQ_len hq; omega) n o
  have hu : addL q (n.td o) = addQ q (n.td o) ∧ addE q (n.td o) = 0 := by unfold addL addE; rw [hq, hx]; exact ⟨rfl, rfl⟩
  rw [hu.1, hu.2] at this
  exact this

set_option maxRecDepth 100000 in
set_option maxHeartbeats 8000000 in
theorem way (A S : Option Addr) (c cs : Nat) (l : List Nw) (is : List Int) (w : World) (_hll : l.length ≤ 9223372036854775807) (_hsl : is.length ≤ 9223372036854775807) (hL : Ns w A l) (hS : Octs w S is) :
    Calls Try.prog 4 #[.slice A l.length c, .slice S is.length cs] w fun e w' => e = .returned (.bool true) ∧ Below w.heap.size w w' := by
  have HL := Lib.hid hL
  have HS := Lib.hid hS
  clear hL hS
  have hmk := @run_makeMap Try.prog
  have HM0 := Lib.hid (Mk.made w)
  have HB0 : Hid (Below w.heap.size w (w.alloc (.map #[] 0))) := Lib.hid ((Below.refl _ _).alloc (Nat.le_refl _) _)
  have HT0 := Lib.hid (Ts.nil (w.alloc (.map #[] 0)) none)
  go_enter Try.func4, Try.ntmps4
  go_wp2_with fail
  go_loopw [5, 7] (fun v5 v7 wr => ∃ (i : Nat) (Aq : Option Addr) (cq : Nat) (q : List Td) (f : Int → Option Kn), v5 = .slice Aq q.length cq ∧ v7 = .int .i64 i ∧ i ≤ 60 ∧ Hid (mayQ q = true) ∧ Hid (Peak q f) ∧
    Hid (Ts wr Aq q) ∧ Hid (Mk wr w.heap.size i f) ∧ Hid (Below w.heap.size w wr)) (fun _ v _ => 60 - (intOf v).toNat)
  case atStart => exact ⟨0, none, 0, [], fun _ => none, rfl, rfl, by omega, Lib.hid rfl, Lib.hid Peak.nil, HT0, HM0, HB0⟩
  case round =>
    clear HM0 HB0 HT0
    obtain ⟨i, Aq, cq, q, f, rfl, rfl, hi, HQ, HP, HTq, HMq, HBq⟩ := hrel
    obtain ⟨wq, e⟩ : ∃ wq, wq = wr := ⟨_, rfl⟩
    subst e
    by_cases hlt : i < l.length ∧ i < 60
    · obtain ⟨ad, rfl, hlo, h1⟩ := (HL.out.on HBq.out) i hlt.1
      obtain ⟨a0, a1, a2⟩ := h1.flat
      obtain ⟨x, ex⟩ : ∃ x, x = nw l i := ⟨_, rfl⟩
      rw [← ex] at a0 a1 a2
      have HX := Lib.hid ex
      have k0 : (0 : Int) ≤ (i : Int) := by omega
      have k1 : (i : Int) < (l.length : Int) := by omega
      have d1 : decide ((i : Int) < (l.length : Int)) = true := by simpa using k1
      have d2 : decide ((i : Int) < 60) = true := by simp; omega
      have hw1 : IntKind.i64.wrap ((i : Int) + 1) = (i : Int) + 1 := by rw [IntWalk.i64_in _ (by omega)]
      have HLT := Lib.hid hlt
      obtain ⟨o1, eo⟩ : ∃ o1, o1 = oneB x := ⟨_, rfl⟩
      have HON : Hid (∀ W : World, Calls Try.prog 18 #[.agg #[.int .i64 x.w, .int .u64 x.i, .int .i64 x.s]] W fun e w' => e = .returned (.bool o1) ∧ Below W.heap.size W w') := Lib.hid (fun W => by rw [eo]; exact one_any x W)
      have HEO := Lib.hid eo
      clear h1 ex hlt eo hi
      go_wp2_with fail
      refine (HON.out _).mono ?_
      rintro e w5 ⟨rfl, hb⟩
      have HT5 := Lib.hid (HTq.out.on hb)
      have HM5 := Lib.hid (HMq.out.on hb)
      have HB5 : Hid (Below w.heap.size w w5) := Lib.hid (HBq.out.trans (hb.mono HBq.out.size))
      clear hb HTq HMq HBq a0 a1 a2 HON
      rcases o1 with _ | _
      · go_wp2_with fail
        go_roundw
        case rel => exact ⟨i + 1, Aq, cq, q, f, rfl, by go_num, by have := HLT.out; omega, HQ, HP, HT5, Lib.hid (HM5.out.mono (Nat.le_succ _)), HB5⟩
        case measure => have := HLT.out; simp [intOf]; omega
      · obtain ⟨ad', e, hlo', h1⟩ := (HL.out.on HB5.out) i HLT.out.1
        obtain rfl := Option.some.inj e
        obtain ⟨a0, a1, a2⟩ := h1.flat
        rw [← HX.out] at a0 a1 a2
        have hi60 : i < 60 := HLT.out.2
        obtain ⟨z, ez⟩ : ∃ z : Nat, z = i % 5 := ⟨_, rfl⟩
        obtain ⟨o, eo⟩ : ∃ o : Int, o = 1 + (z : Int) := ⟨_, rfl⟩
        have c3 : Int.tmod (i : Int) 5 = (z : Int) := by rw [Int.tmod_eq_emod_of_nonneg (by omega), ez]; omega
        have c4 : IntKind.i64.wrap (z : Int) = (z : Int) := IntWalk.i64_in _ (by omega)
        have c5 : IntKind.i64.wrap (1 + (z : Int)) = o := by rw [IntWalk.i64_in _ (by omega), eo]
        have hxt : mayT (x.td o) = true := by rw [mayT_td, ← HEO.out]; simp; omega
        have HXW : Hid (0 ≤ x.w ∧ x.w < 64) := Lib.hid (by have h := HEO.out.symm; rw [oneB_iff] at h; exact ⟨h.1, h.2.1⟩)
        have HAD := Lib.hid (fun W h => add_ok (W := W) (A := Aq) (c := cq) (q := q) h HQ.out x o hxt)
        have HQ' := Lib.hid (may_addQ HQ.out hxt)
        have HPP := Lib.hid (fun hb => HP.out.put HEO.out.symm o hb)
        have HPS := Lib.hid (fun b hf hb => HP.out.stay HEO.out.symm o b hf hb)
        have hqn := mayQ_len HQ'.out
        generalize addQ q (x.td o) = p at *
        clear h1 ez eo hxt
        go_wp2_with fail
        refine (HAD.out _ HT5.out).mono ?_
        rintro e w6 ⟨A6, c6, rfl, hl6, hb⟩
        have HT6 := Lib.hid hl6
        have HM6 := Lib.hid (HM5.out.on hb)
        have HB6 : Hid (Below w.heap.size w w6) := Lib.hid (HB5.out.trans (hb.mono HB5.out.size))
        have HCK := Lib.hid (checkQ_any A6 c6 p w6 (by omega) hl6 true HQ'.out)
        clear hb hl6 HT5 HM5 HB5 HAD a0 a1 a2
        go_wp2_with fail
        refine HCK.out.mono ?_
        rintro e w7 ⟨rfl, hb⟩
        have HT7 := Lib.hid (HT6.out.on hb)
        have HM7 := Lib.hid (HM6.out.on hb)
        have HB7 : Hid (Below w.heap.size w w7) := Lib.hid (HB6.out.trans (hb.mono HB6.out.size))
        clear hb HT6 HM6 HB6 HCK
        obtain ⟨ad', e, hlo', h1⟩ := (HL.out.on HB7.out) i HLT.out.1
        obtain rfl := Option.some.inj e
        obtain ⟨a0, a1, a2⟩ := h1.flat
        rw [← HX.out] at a0 a1 a2
        clear h1
        obtain ⟨B, eB⟩ : ∃ B, B = (f x.w).isSome := ⟨_, rfl⟩
        obtain ⟨y, ey⟩ : ∃ y, y = (f x.w).getD z0 := ⟨_, rfl⟩
        have hlook := HM7.out.look x.w HXW.out _ rfl y.i y.s B (by rw [ey]) (by rw [ey]) eB
        have HBB := Lib.hid eB
        have HYY := Lib.hid ey
        clear eB ey
        go_upto_region 12 with (fail)
        have hb8 : Below w7.heap.size w7 (w7.alloc (.cells #[.int .u64 y.i, .int .i64 y.s] 25)) := (Below.refl _ _).alloc (Nat.le_refl _) _
        have g0 : (w7.alloc (.cells #[.int .u64 y.i, .int .i64 y.s] 25)).cell? ⟨w7.heap.size, 0, none⟩ = some (.int .u64 y.i) := by go_simp
        have g1 : (w7.alloc (.cells #[.int .u64 y.i, .int .i64 y.s] 25)).cell? ⟨w7.heap.size, 1, none⟩ = some (.int .i64 y.s) := by go_simp
        have HT8 := Lib.hid (HT7.out.on hb8)
        have HM8 := Lib.hid (HM7.out.on hb8)
        have HB8 : Hid (Below w.heap.size w (w7.alloc (.cells #[.int .u64 y.i, .int .i64 y.s] 25))) := Lib.hid (HB7.out.trans (hb8.mono HB7.out.size))
        generalize w7.alloc (.cells #[.int .u64 y.i, .int .i64 y.s] 25) = w8 at *
        clear a0 a1 a2 hlook hb8 HT7 HM7 HB7
        generalize w7.heap.size = g8 at *
        obtain ⟨ad', e, hlo', h1⟩ := (HL.out.on HB8.out) i HLT.out.1
        obtain rfl := Option.some.inj e
        obtain ⟨a0, a1, a2⟩ := h1.flat
        rw [← HX.out] at a0 a1 a2
        clear h1
        go_cut [75] from 65 to 75 (fun s wx => ∃ bb : Bool, s = .bool bb ∧ Hid (bb = true → Peak p (putF f x.w x.k)) ∧ Hid (bb = false → Peak p f) ∧ Hid (Below w8.heap.size w8 wx))
        case first =>
          have C1 : ∀ r : Regrown, (grow (redrawn w8 r.d) r.os).cell? ⟨(ad.add (i * 3)).block, (ad.add (i * 3)).off + 1, none⟩ = some (.int .u64 x.i) := fun r => cell_regrown a1 r.d r.os
          have C2 : ∀ r : Regrown, (grow (redrawn w8 r.d) r.os).cell? ⟨(ad.add (i * 3)).block, (ad.add (i * 3)).off + 2, none⟩ = some (.int .i64 x.s) := fun r => cell_regrown a2 r.d r.os
          have G0 : ∀ r : Regrown, (grow (redrawn w8 r.d) r.os).cell? ⟨g8, 0, none⟩ = some (.int .u64 y.i) := fun r => cell_regrown g0 r.d r.os
          have G1 : ∀ r : Regrown, (grow (redrawn w8 r.d) r.os).cell? ⟨g8, 1, none⟩ = some (.int .i64 y.s) := fun r => cell_regrown g1 r.d r.os
          clear a0 a1 a2 g0 g1
          obtain ⟨bB, ebB⟩ : ∃ bB, bB = beatsB x.k y := ⟨_, rfl⟩
          have HRB : Hid (∀ W : World, Calls Try.prog 23 #[.agg #[.int .u64 x.i, .int .i64 x.s], .agg #[.int .u64 y.i, .int .i64 y.s]] W fun e w' => e = .returned (.bool bB) ∧ Below W.heap.size W w') := Lib.hid (fun W => by rw [ebB]; exact rbeats_any x.k y W)
          have HRp := Lib.hid (fun r : Regrown => HRB.out (grow (redrawn w8 r.d) r.os))
          have HEB := Lib.hid ebB
          clear ebB HRB
          rcases B with _ | _
          · have hfn : f x.w = none := by have := HBB.out; cases hf : f x.w with | none => rfl | some b => rw [hf] at this; cases this
            have HP' := Lib.hid (HPP.out (fun b hb => by rw [hfn] at hb; cases hb))
            clear hfn
            refine q_enter (by kernel_rfl) (by kernel_rfl) ?_
            iterate 11 (refine q_step ?_; intro K hK; go_simp; first | (refine hK _ ?_; clear hK K) | (refine ⟨_, fun r => Calls.regrown_of (by with_reducible exact HRp.out r), hK _ ?_⟩; clear hK K))
            refine q_nil ?_
            intro w9 hb9
            go_wp2_with fail
            go_meet
            exact ⟨true, rfl, Lib.hid (fun _ => HP'.out), Lib.hid (fun h => by cases h), Lib.hid hb9⟩
          · obtain ⟨b, hfb⟩ : ∃ b, f x.w = some b := by have := HBB.out; cases hf : f x.w with | none => rw [hf] at this; cases this | some b => exact ⟨b, rfl⟩
            have HYB : Hid (y = b) := Lib.hid (by rw [HYY.out, hfb]; rfl)
            have HFB := Lib.hid hfb
            clear hfb
            refine q_enter (by kernel_rfl) (by kernel_rfl) ?_
            iterate 11 (refine q_step ?_; intro K hK; go_simp; first | (refine hK _ ?_; clear hK K) | (refine ⟨_, fun r => Calls.regrown_of (by with_reducible exact HRp.out r), hK _ ?_⟩; clear hK K))
            refine q_nil ?_
            intro w9 hb9
            go_wp2_with fail
            go_meet
            exact ⟨bB, rfl, Lib.hid (fun h => HPP.out (fun b' hb => by rw [HFB.out] at hb; injection hb with hb; rw [← hb, ← HYB.out, ← HEB.out]; exact h)), Lib.hid (fun h => HPS.out b HFB.out (by rw [← HYB.out, ← HEB.out]; exact h)), Lib.hid hb9⟩
        case rest =>
        obtain ⟨bb, rfl, HPT, HPF, HCC⟩ := hcut
        have hb9 := HCC.out
        clear HCC
        obtain ⟨w9, e9⟩ : ∃ w9, w9 = wc := ⟨_, rfl⟩
        subst e9
        have HT9 := Lib.hid (HT8.out.on hb9)
        have HM9 := Lib.hid (HM8.out.on hb9)
        have HB9 : Hid (Below w.heap.size w w9) := Lib.hid (HB8.out.trans (hb9.mono HB8.out.size))
        clear hb9 HT8 HM8 HB8 a0 a1 a2 g0 g1
        rcases bb with _ | _
        · have HPr := Lib.hid (HPF.out rfl)
          have HTr := HT9
          have HMr : Hid (Mk w9 w.heap.size (i + 1) f) := Lib.hid (HM9.out.mono (Nat.le_succ _))
          have HBr := HB9
          clear HPT HPF HPP HPS HT9 HM9 HB9
          by_cases hst : i < is.length
          · have dge : decide ((is.length : Int) ≤ (i : Int)) = false := by simp; omega
            have nge : ¬ is.length ≤ i := by omega
            have k2 : (i : Int) < (is.length : Int) := by omega
            obtain ⟨sd, rfl, hslo, hs⟩ := (HS.out.on HBr.out).1 i hst
            have hv := (HS.out.2 (is.getD i 0) (by have e : is.getD i 0 = is[i] := by simp [List.getD, hst]
                                                   rw [e]; exact List.getElem_mem hst))
            obtain ⟨V, eV⟩ : ∃ V : Int, V = is.getD i 0 := ⟨_, rfl⟩
            rw [← eV] at hs hv
            have HV := Lib.hid eV
            clear eV
            obtain ⟨v, rfl⟩ := Int.eq_ofNat_of_zero_le hv.1
            obtain ⟨m, em⟩ : ∃ m : Nat, m = v % 4 := ⟨_, rfl⟩
            have r1 : Int.tmod (v : Int) 4 = ((m : Nat) : Int) := by rw [Int.tmod_eq_emod_of_nonneg (by omega), em]; omega
            have r3 : IntKind.u8.wrap ((m : Nat) : Int) = ((m : Nat) : Int) := by rw [IntKind.wrap_u8]; omega
            have r5 : IntKind.i64.wrap ((m : Nat) : Int) = ((m : Nat) : Int) := IntWalk.i64_in _ (by omega)
            have HTK : Hid (Calls Try.prog 13 #[.slice A6 p.length c6, .int .i64 m] w9 (Gn w9 (tellN p m) (tellR p m) 0)) := Lib.hid (by have := l_take (c := c6) HTr.out HQ'.out (m : Int) (by omega); rwa [Int.toNat_natCast] at this)
            have hnl : (tellN p m).length ≤ m := by have := tellN_len p m; omega
            have HMR := Lib.hid (may_tellR HQ'.out m)
            have HPR := Lib.hid (HPr.out.rest m)
            have HTD := Lib.hid (fun x hx => HPr.out.told HQ'.out m x hx)
            generalize tellN p m = lN at *
            generalize tellR p m = lR at *
            have hrl := mayQ_len HMR.out
            have dgt : decide ((m : Int) < (lN.length : Int)) = false := by simp; omega
            have ngt : ¬ m < lN.length := by omega
            have hm4 : m < 4 := by omega
            clear em hv
            go_wp2_with fail
            refine HTK.out.mono ?_
            rintro e w11 ⟨A3, c3, A4, c4, rfl, hn, hl, hb⟩
            have HN11 := Lib.hid hn
            have HR11 := Lib.hid hl
            have HM11 := Lib.hid (HMr.out.on hb)
            have HB11 : Hid (Below w.heap.size w w11) := Lib.hid (HBr.out.trans (hb.mono HBr.out.size))
            have HCK := Lib.hid (checkQ_any A4 c4 lR w11 (by omega) hl true HMR.out)
            clear hb hn hl HMr HBr HTr HTK hs
            go_wp2_with fail
            refine HCK.out.mono ?_
            rintro e w12 ⟨rfl, hb⟩
            have HN12 := Lib.hid (HN11.out.on hb)
            have HR12 := Lib.hid (HR11.out.on hb)
            have HM12 := Lib.hid (HM11.out.on hb)
            have HB12 : Hid (Below w.heap.size w w12) := Lib.hid (HB11.out.trans (hb.mono HB11.out.size))
            clear hb HN11 HR11 HM11 HB11 HCK
            obtain ⟨sd', e, hslo', hs⟩ := (HS.out.on HB12.out).1 i hst
            obtain rfl := Option.some.inj e
            rw [← HV.out] at hs
            go_wp2_with fail
            go_loopw [15] (fun v15 wr => ∃ j : Nat, j ≤ lN.length ∧ v15 = .int .i64 j ∧ Hid (Below w12.heap.size w12 wr)) (fun v _ => lN.length - (intOf v).toNat)
            case atStart => exact ⟨0, Nat.zero_le _, rfl, Lib.hid (Below.refl _ _)⟩
            case round =>
              obtain ⟨j, hj, rfl, HBj⟩ := hrel
              obtain ⟨wj, e⟩ : ∃ wj, wj = wr := ⟨_, rfl⟩
              subst e
              by_cases hlt : j < lN.length
              · obtain ⟨ad3, rfl, hlo3, h1⟩ := (HN12.out.on HBj.out) j hlt
                obtain ⟨a0, a1, a2⟩ := h1.flat
                have hmem := nw_mem lN hlt
                obtain ⟨t, et⟩ : ∃ t, t = nw lN j := ⟨_, rfl⟩
                rw [← et] at a0 a1 a2 hmem
                have HT3 := Lib.hid et
                obtain ⟨tw0, tw1, b, hfb, hbb⟩ := HTD.out t hmem
                have j0 : (0 : Int) ≤ (j : Int) := by omega
                have j1 : (j : Int) < (lN.length : Int) := by omega
                have hw2 : IntKind.i64.wrap ((j : Int) + 1) = (j : Int) + 1 := by rw [IntWalk.i64_in _ (by omega)]
                have hlook := (HM12.out.on HBj.out).look t.w ⟨tw0, tw1⟩ _ rfl b.i b.s true (by rw [hfb]; rfl) (by rw [hfb]; rfl) (by rw [hfb]; rfl)
                have HRB : Hid (∀ W : World, Calls Try.prog 23 #[.agg #[.int .u64 t.i, .int .i64 t.s], .agg #[.int .u64 b.i, .int .i64 b.s]] W fun e w' => e = .returned (.bool false) ∧ Below W.heap.size W w') := Lib.hid (fun W => by have := rbeats_any t.k b W; rw [hbb] at this; exact this)
                clear h1 et hmem hfb hbb
                go_upto_region 22 with (fail)
                have hb8 : Below wj.heap.size wj (wj.alloc (.cells #[.int .u64 b.i, .int .i64 b.s] 25)) := (Below.refl _ _).alloc (Nat.le_refl _) _
                have g0 : (wj.alloc (.cells #[.int .u64 b.i, .int .i64 b.s] 25)).cell? ⟨wj.heap.size, 0, none⟩ = some (.int .u64 b.i) := by go_simp
                have g1 : (wj.alloc (.cells #[.int .u64 b.i, .int .i64 b.s] 25)).cell? ⟨wj.heap.size, 1, none⟩ = some (.int .i64 b.s) := by go_simp
                have HB8 : Hid (Below w12.heap.size w12 (wj.alloc (.cells #[.int .u64 b.i, .int .i64 b.s] 25))) := Lib.hid (HBj.out.trans (hb8.mono HBj.out.size))
                generalize wj.alloc (.cells #[.int .u64 b.i, .int .i64 b.s] 25) = w8 at *
                clear a0 a1 a2 hlook hb8 HBj
                generalize wj.heap.size = g8 at *
                obtain ⟨ad', e, hlo', h1⟩ := (HN12.out.on HB8.out) j hlt
                obtain rfl := Option.some.inj e
                obtain ⟨a0, a1, a2⟩ := h1.flat
                rw [← HT3.out] at a0 a1 a2
                have C1 : ∀ r : Regrown, (grow (redrawn w8 r.d) r.os).cell? ⟨(ad3.add (j * 3)).block, (ad3.add (j * 3)).off + 1, none⟩ = some (.int .u64 t.i) := fun r => cell_regrown a1 r.d r.os
                have C2 : ∀ r : Regrown, (grow (redrawn w8 r.d) r.os).cell? ⟨(ad3.add (j * 3)).block, (ad3.add (j * 3)).off + 2, none⟩ = some (.int .i64 t.s) := fun r => cell_regrown a2 r.d r.os
                have G0 : ∀ r : Regrown, (grow (redrawn w8 r.d) r.os).cell? ⟨g8, 0, none⟩ = some (.int .u64 b.i) := fun r => cell_regrown g0 r.d r.os
                have G1 : ∀ r : Regrown, (grow (redrawn w8 r.d) r.os).cell? ⟨g8, 1, none⟩ = some (.int .i64 b.s) := fun r => cell_regrown g1 r.d r.os
                have HRp := Lib.hid (fun r : Regrown => HRB.out (grow (redrawn w8 r.d) r.os))
                clear h1 a0 a1 a2 g0 g1 HRB
                refine q_enter (by kernel_rfl) (by kernel_rfl) ?_
                iterate 11 (refine q_step ?_; intro K hK; go_simp; first | (refine hK _ ?_; clear hK K) | (refine ⟨_, fun r => Calls.regrown_of (by with_reducible exact HRp.out r), hK _ ?_⟩; clear hK K))
                refine q_nil ?_
                intro w13 hb13
                have HB13 : Hid (Below w12.heap.size w12 w13) := Lib.hid (HB8.out.trans (hb13.mono HB8.out.size))
                clear hb13 C1 C2 G0 G1 HRp HB8
                go_wp2_with fail
                go_roundw
                case rel => exact ⟨j + 1, by omega, by go_num, HB13⟩
                case measure => simp [intOf]; omega
              · obtain rfl : lN.length = j := by omega
                have HTe := Lib.hid (HR12.out.on HBj.out)
                have HMe := Lib.hid (HM12.out.on HBj.out)
                have HBe : Hid (Below w.heap.size w wj) := Lib.hid (HB12.out.trans (HBj.out.mono HB12.out.size))
                clear hs HR12 HM12 HB12 HBj hj hlt
                go_wp2_with fail
                go_roundw
                case rel => exact ⟨i + 1, A4, c4, lR, f, rfl, by go_num, by have := HLT.out; omega, HMR, HPR, HTe, HMe, HBe⟩
                case measure => have := HLT.out; simp [intOf]; omega
          · have dge : decide ((is.length : Int) ≤ (i : Int)) = true := by simp; omega
            have nge : is.length ≤ i := by omega
            go_wp2_with fail
            go_roundw
            case rel => exact ⟨i + 1, A6, c6, p, f, rfl, by go_num, by have := HLT.out; omega, HQ', HPr, HTr, HMr, HBr⟩
            case measure => have := HLT.out; simp [intOf]; omega
        · have HPr := Lib.hid (HPT.out rfl)
          obtain ⟨ad', e, hlo', h1⟩ := (HL.out.on HB9.out) i HLT.out.1
          obtain rfl := Option.some.inj e
          obtain ⟨a0, a1, a2⟩ := h1.flat
          rw [← HX.out] at a0 a1 a2
          obtain ⟨w10, hput, hM10, hg10, hts⟩ := Mk.put (w := w9.drew) HM9.out (by omega) x.w HXW.out x.k
          have HMr := Lib.hid hM10
          have HTr := Lib.hid (hts _ _ HT9.out.drew)
          have HBr : Hid (Below w.heap.size w w10) := Lib.hid ((below_drewN HB9.out 1).grown hg10 HB9.out.size (by intro b e; injection e with e; omega))
          have hput : (Instr.mapUpdate 51 (.map (some w.heap.size)) (.int .i64 x.w) (.agg #[.int .u64 x.i, .int .i64 x.s])).run Try.prog w9.drew = .ok () w10 := hput
          clear h1 hM10 hg10 hts HT9 HM9 HB9 HPT HPF HPP HPS
          generalize putF f x.w x.k = f at *
          go_upto_region 13 with (fail)
          go_region
          clear hput a0 a1 a2
          obtain ⟨w9, e9⟩ : ∃ w9, w9 = w10 := ⟨_, rfl⟩
          subst e9
          by_cases hst : i < is.length
          · have dge : decide ((is.length : Int) ≤ (i : Int)) = false := by simp; omega
            have nge : ¬ is.length ≤ i := by omega
            have k2 : (i : Int) < (is.length : Int) := by omega
            obtain ⟨sd, rfl, hslo, hs⟩ := (HS.out.on HBr.out).1 i hst
            have hv := (HS.out.2 (is.getD i 0) (by have e : is.getD i 0 = is[i] := by simp [List.getD, hst]
                                                   rw [e]; exact List.getElem_mem hst))
            obtain ⟨V, eV⟩ : ∃ V : Int, V = is.getD i 0 := ⟨_, rfl⟩
            rw [← eV] at hs hv
            have HV := Lib.hid eV
            clear eV
            obtain ⟨v, rfl⟩ := Int.eq_ofNat_of_zero_le hv.1
            obtain ⟨m, em⟩ : ∃ m : Nat, m = v % 4 := ⟨_, rfl⟩
            have r1 : Int.tmod (v : Int) 4 = ((m : Nat) : Int) := by rw [Int.tmod_eq_emod_of_nonneg (by omega), em]; omega
            have r3 : IntKind.u8.wrap ((m : Nat) : Int) = ((m : Nat) : Int) := by rw [IntKind.wrap_u8]; omega
            have r5 : IntKind.i64.wrap ((m : Nat) : Int) = ((m : Nat) : Int) := IntWalk.i64_in _ (by omega)
            have HTK : Hid (Calls Try.prog 13 #[.slice A6 p.length c6, .int .i64 m] w9 (Gn w9 (tellN p m) (tellR p m) 0)) := Lib.hid (by have := l_take (c := c6) HTr.out HQ'.out (m : Int) (by omega); rwa [Int.toNat_natCast] at this)
            have hnl : (tellN p m).length ≤ m := by have := tellN_len p m; omega
            have HMR := Lib.hid (may_tellR HQ'.out m)
            have HPR := Lib.hid (HPr.out.rest m)
            have HTD := Lib.hid (fun x hx => HPr.out.told HQ'.out m x hx)
            generalize tellN p m = lN at *
            generalize tellR p m = lR at *
            have hrl := mayQ_len HMR.out
            have dgt : decide ((m : Int) < (lN.length : Int)) = false := by simp; omega
            have ngt : ¬ m < lN.length := by omega
            have hm4 : m < 4 := by omega
            clear em hv
            go_wp2_with fail
            refine HTK.out.mono ?_
            rintro e w11 ⟨A3, c3, A4, c4, rfl, hn, hl, hb⟩
            have HN11 := Lib.hid hn
            have HR11 := Lib.hid hl
            have HM11 := Lib.hid (HMr.out.on hb)
            have HB11 : Hid (Below w.heap.size w w11) := Lib.hid (HBr.out.trans (hb.mono HBr.out.size))
            have HCK := Lib.hid (checkQ_any A4 c4 lR w11 (by omega) hl true HMR.out)
            clear hb hn hl HMr HBr HTr HTK hs
            go_wp2_with fail
            refine HCK.out.mono ?_
            rintro e w12 ⟨rfl, hb⟩
            have HN12 := Lib.hid (HN11.out.on hb)
            have HR12 := Lib.hid (HR11.out.on hb)
            have HM12 := Lib.hid (HM11.out.on hb)
            have HB12 : Hid (Below w.heap.size w w12) := Lib.hid (HB11.out.trans (hb.mono HB11.out.size))
            clear hb HN11 HR11 HM11 HB11 HCK
            obtain ⟨sd', e, hslo', hs⟩ := (HS.out.on HB12.out).1 i hst
            obtain rfl := Option.some.inj e
            rw [← HV.out] at hs
            go_wp2_with fail
            go_loopw [15] (fun v15 wr => ∃ j : Nat, j ≤ lN.length ∧ v15 = .int .i64 j ∧ Hid (Below w12.heap.size w12 wr)) (fun v _ => lN.length - (intOf v).toNat)
            case atStart => exact ⟨0, Nat.zero_le _, rfl, Lib.hid (Below.refl _ _)⟩
            case round =>
              obtain ⟨j, hj, rfl, HBj⟩ := hrel
              obtain ⟨wj, e⟩ : ∃ wj, wj = wr := ⟨_, rfl⟩
              subst e
              by_cases hlt : j < lN.length
              · obtain ⟨ad3, rfl, hlo3, h1⟩ := (HN12.out.on HBj.out) j hlt
                obtain ⟨a0, a1, a2⟩ := h1.flat
                have hmem := nw_mem lN hlt
                obtain ⟨t, et⟩ : ∃ t, t = nw lN j := ⟨_, rfl⟩
                rw [← et] at a0 a1 a2 hmem
                have HT3 := Lib.hid et
                obtain ⟨tw0, tw1, b, hfb, hbb⟩ := HTD.out t hmem
                have j0 : (0 : Int) ≤ (j : Int) := by omega
                have j1 : (j : Int) < (lN.length : Int) := by omega
                have hw2 : IntKind.i64.wrap ((j : Int) + 1) = (j : Int) + 1 := by rw [IntWalk.i64_in _ (by omega)]
                have hlook := (HM12.out.on HBj.out).look t.w ⟨tw0, tw1⟩ _ rfl b.i b.s true (by rw [hfb]; rfl) (by rw [hfb]; rfl) (by rw [hfb]; rfl)
                have HRB : Hid (∀ W : World, Calls Try.prog 23 #[.agg #[.int .u64 t.i, .int .i64 t.s], .agg #[.int .u64 b.i, .int .i64 b.s]] W fun e w' => e = .returned (.bool false) ∧ Below W.heap.size W w') := Lib.hid (fun W => by have := rbeats_any t.k b W; rw [hbb] at this; exact this)
                clear h1 et hmem hfb hbb
                go_upto_region 22 with (fail)
                have hb8 : Below wj.heap.size wj (wj.alloc (.cells #[.int .u64 b.i, .int .i64 b.s] 25)) := (Below.refl _ _).alloc (Nat.le_refl _) _
                have g0 : (wj.alloc (.cells #[.int .u64 b.i, .int .i64 b.s] 25)).cell? ⟨wj.heap.size, 0, none⟩ = some (.int .u64 b.i) := by go_simp
                have g1 : (wj.alloc (.cells #[.int .u64 b.i, .int .i64 b.s] 25)).cell? ⟨wj.heap.size, 1, none⟩ = some (.int .i64 b.s) := by go_simp
                have HB8 : Hid (Below w12.heap.size w12 (wj.alloc (.cells #[.int .u64 b.i, .int .i64 b.s] 25))) := Lib.hid (HBj.out.trans (hb8.mono HBj.out.size))
                generalize wj.alloc (.cells #[.int .u64 b.i, .int .i64 b.s] 25) = w8 at *
                clear a0 a1 a2 hlook hb8 HBj
                generalize wj.heap.size = g8 at *
                obtain ⟨ad', e, hlo', h1⟩ := (HN12.out.on HB8.out) j hlt
                obtain rfl := Option.some.inj e
                obtain ⟨a0, a1, a2⟩ := h1.flat
                rw [← HT3.out] at a0 a1 a2
                have C1 : ∀ r : Regrown, (grow (redrawn w8 r.d) r.os).cell? ⟨(ad3.add (j * 3)).block, (ad3.add (j * 3)).off + 1, none⟩ = some (.int .u64 t.i) := fun r => cell_regrown a1 r.d r.os
                have C2 : ∀ r : Regrown, (grow (redrawn w8 r.d) r.os).cell? ⟨(ad3.add (j * 3)).block, (ad3.add (j * 3)).off + 2, none⟩ = some (.int .i64 t.s) := fun r => cell_regrown a2 r.d r.os
                have G0 : ∀ r : Regrown, (grow (redrawn w8 r.d) r.os).cell? ⟨g8, 0, none⟩ = some (.int .u64 b.i) := fun r => cell_regrown g0 r.d r.os
                have G1 : ∀ r : Regrown, (grow (redrawn w8 r.d) r.os).cell? ⟨g8, 1, none⟩ = some (.int .i64 b.s) := fun r => cell_regrown g1 r.d r.os
                have HRp := Lib.hid (fun r : Regrown => HRB.out (grow (redrawn w8 r.d) r.os))
                clear h1 a0 a1 a2 g0 g1 HRB
                refine q_enter (by kernel_rfl) (by kernel_rfl) ?_
                iterate 11 (refine q_step ?_; intro K hK; go_simp; first | (refine hK _ ?_; clear hK K) | (refine ⟨_, fun r => Calls.regrown_of (by with_reducible exact HRp.out r), hK _ ?_⟩; clear hK K))
                refine q_nil ?_
                intro w13 hb13
                have HB13 : Hid (Below w12.heap.size w12 w13) := Lib.hid (HB8.out.trans (hb13.mono HB8.out.size))
                clear hb13 C1 C2 G0 G1 HRp HB8
                go_wp2_with fail
                go_roundw
                case rel => exact ⟨j + 1, by omega, by go_num, HB13⟩
                case measure => simp [intOf]; omega
              · obtain rfl : lN.length = j := by omega
                have HTe := Lib.hid (HR12.out.on HBj.out)
                have HMe := Lib.hid (HM12.out.on HBj.out)
                have HBe : Hid (Below w.heap.size w wj) := Lib.hid (HB12.out.trans (HBj.out.mono HB12.out.size))
                clear hs HR12 HM12 HB12 HBj hj hlt
                go_wp2_with fail
                go_roundw
                case rel => exact ⟨i + 1, A4, c4, lR, f, rfl, by go_num, by have := HLT.out; omega, HMR, HPR, HTe, HMe, HBe⟩
                case measure => have := HLT.out; simp [intOf]; omega
          · have dge : decide ((is.length : Int) ≤ (i : Int)) = true := by simp; omega
            have nge : is.length ≤ i := by omega
            go_wp2_with fail
            go_roundw
            case rel => exact ⟨i + 1, A6, c6, p, f, rfl, by go_num, by have := HLT.out; omega, HQ', HPr, HTr, HMr, HBr⟩
            case measure => have := HLT.out; simp [intOf]; omega
    · have HWE := Lib.hid HBq.out
      have hcond : (decide ((i : Int) < (l.length : Int)) = true ∧ decide ((i : Int) < 60) = false ∧ i < l.length ∧ (60 : Int) ≤ (i : Int) ∧ ¬ (i : Int) < 60) ∨ (decide ((i : Int) < (l.length : Int)) = false ∧ ¬ i < l.length) := by
        by_cases h : i < l.length
        · exact .inl ⟨by simp; omega, by simp; omega, h, by omega, by omega⟩
        · exact .inr ⟨by simp; omega, h⟩
      have HAW := Lib.hid (awake_any wq)
      clear hlt hi
      rcases hcond with ⟨d1, d2, e1, e2, e3⟩ | ⟨d1, e1⟩
      · go_wp2_with fail
        refine HAW.out.mono ?_
        rintro e w10 ⟨rfl, hb10⟩
        have HB_10 : Hid (Below w.heap.size w w10) := Lib.hid (HWE.out.trans (hb10.mono HWE.out.size))
        clear hb10
        go_wp2_with fail
        go_ret
        exact ⟨rfl, HB_10.out⟩
      · go_wp2_with fail
        refine HAW.out.mono ?_
        rintro e w10 ⟨rfl, hb10⟩
        have HB_10 : Hid (Below w.heap.size w w10) := Lib.hid (HWE.out.trans (hb10.mono HWE.out.size))
        clear hb10
        go_wp2_with fail
        go_ret
        exact ⟨rfl, HB_10.out⟩

theorem walk (A S : Option Addr) (c cs : Nat) (l : List Nw) (is : List Int) (w : World) (hl : l.length ≤ c ∧ c ≤ maxLen ∧ Ns w A l) (hs : is.length ≤ cs ∧ cs ≤ maxLen ∧ Octs w S is) :
    Calls Try.prog 4 #[.slice A l.length c, .slice S is.length cs] w fun e w' => e = .returned (.bool true) ∧ Below w.heap.size w w' :=
  way A S c cs l is w (by have := hl.2.1; unfold maxLen at this; omega) (by have := hs.2.1; unfold maxLen at this; omega) hl.2.2 hs.2.2

theorem parOk : ∀ t ∈ (#[37, 50] : Array TypeId).toList, Try.prog.readableRec t = true ∧ t < Try.prog.types.size := by
  have hall : ([37, 50].all fun t => Try.prog.readableRec t && decide (t < Try.prog.types.size)) = true := by kernel_rfl
  intro t ht
  simpa using List.all_eq_true.1 hall t ht

set_option maxRecDepth 100000 in
/-- What the walk gives, for every argument. -/
theorem contract (H : Type) (enc : TypeId × Value → H) (W : World) (base : Nat) (args : Array Value) (ds gs : List (DataW H)) (before : List MemPlace)
    (hval : ∀ (j : Nat) t v, Try.f4.params[j]? = some t → args[j]? = some v → Value.okWide Try.prog W .any base t v)
    (hW : DataW.Whole enc Try.prog Try.f4.params.toList Rows.newsOnceSpec.vars false W args.toList ds gs before) :
    Calls Try.prog 4 args W fun e W' => ∃ v, e = .returned v ∧ Rows.newsOnceSpec.post enc Try.prog Try.f4 false true false false W args v W' := by
  have hW' := hW
  obtain ⟨p, q, hA0, hV, rfl, hfz, hnd⟩ := hW
  have hA : DataW.TrodAll enc Try.prog W 0 (fun _ => true) true Try.f4.params.toList args.toList ds p := hA0
  rw [Try.params4] at hA hval
  obtain ⟨v0, vs0, d0, ds0, p0, q0, hargs, rfl, rfl, h0, r0⟩ := trodAll_cons hA
  obtain ⟨v1, vs1, d1, ds1, p1, q1, rfl, rfl, rfl, h1, r1⟩ := trodAll_cons r0
  obtain ⟨rfl, rfl, rfl⟩ := trodAll_nil r1
  obtain rfl : args = #[v0, v1] := by cases args; simp_all
  obtain ⟨rfl, rfl⟩ := trodVars_none hV
  obtain ⟨A, c, l, rfl, hl⟩ := open_nws (hval 0 37 v0 rfl rfl) h0
  obtain ⟨S, cs, is, rfl, hs⟩ := open_octs (hval 1 50 v1 rfl rfl) h1
  clear hA0
  refine (walk A S c cs l is W hl hs).mono fun e W' ⟨he, hb⟩ => ?_
  subst he
  exact ⟨_, rfl, law_post rfl (by rw [Try.params4]; exact parOk) rfl hW' rfl rfl rfl hb⟩

set_option maxRecDepth 100000 in
theorem lifted (os : Os) (started : os.Started) (H : Type) (enc : TypeId × Value → H) :
    ReturnsInHanded {} Try.checked os 4 .any (Rows.newsOnceSpec.pre6 enc Try.prog Try.f4 Rows.newsOnceRow.domain false) (Rows.newsOnceSpec.post enc Try.prog Try.f4 false true false false) := by
  refine returnsInHanded_of_change (C := Try.checked) own started (by kernel_rfl) Try.func4
    (ChangeSpec.witness6 (enc := enc) (C := Try.checked) false ⟨#[], #[.slice none 0 0, .slice none 0 0], []⟩ 8 (by kernel_rfl) (by kernel_rfl) (by kernel_rfl) (by kernel_rfl)) ?_
  intro W base args ds gs before hval hW _ _
  exact contract H enc W base args ds gs before hval hW

/-- THE STATEMENT. -/
theorem said : Rows.NewsOnceSaid :=
  OpenClaim.holds_of_wide 4 Try.f4 rfl rfl rfl rfl rfl rfl rfl ⟨rfl, rfl, rfl, rfl, rfl⟩ rfl rfl rfl rfl rfl (by kernel_rfl) Try.func4 (by kernel_rfl)
    (of_decide_eq_true (by kernel_rfl)) (by unfold Func.isWrapper; first | (rw [if_pos (by decide +kernel)]; kernel_rfl) | (rw [if_neg (by decide +kernel)]; exact ⟨rfl, rfl⟩))
    (fun os started H enc _ => lifted os started H enc)
end Go.Proofs.Ytipepmnnjhhjbaa.lawOnce
