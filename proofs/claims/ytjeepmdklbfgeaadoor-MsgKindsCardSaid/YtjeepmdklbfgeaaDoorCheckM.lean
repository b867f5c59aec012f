/-
  The walk of Check, over the table of the parts, in whatever order it comes.
-/
import Derived.Test.YtjeepmdklbfgeaaDoorParts
namespace Go.Proofs.YtjeepmdklbfgeaaDoor
open Go.Sort Go.RowKit Go.Proofs.YtjeepmdklbfgeaaDoor.Pure Go.Proofs.YtjeepmdklbfgeaaDoor.W Go.Proofs.YtjeepmdklbfgeaaDoor.W.Pure
open Go.Maps (Keyed int_keyed keyOf_int_mk IsMap)

set_option maxRecDepth 100000 in
/-- The step of a range over such a map. -/
theorem wpList_next_any {w : World} {ops : Array Oper} {rest : List Oper} {o : Oper} {a : Act} {Q : Exit → Act → World → Prop} (hg : o.guard = none) (it : Operand) (hop : o.op = Op.next it false)
    (b r n : Nat) (D : DataW Value) (left : Lit → Bool) (cnt : Nat) (hit : a.eval it = .pointer (some ⟨r, 0, none⟩)) (h : w.ranges Tryd.prog 3 anyR b r n D left cnt)
    (hDone : cnt = 0 → (∀ kl, left kl = false) → wpList Tryd.prog ops Q rest (a.put o.dst (.tuple #[.bool false])) w)
    (hMore : ∀ (x : Int) (c : Value) (w' : World) (cnt' : Nat), left (.int .i64 x) = true → (∀ zd, D.atKey (.int .i64 x) zd = .held c) → w'.ranges Tryd.prog 3 anyR b r n D (fun z => left z && !z.sameKey (.int .i64 x)) cnt' → cnt' < cnt →
      w.grownBy w' (some r) → w'.heap.size = w.heap.size → (Instr.entry (.pointer (some ⟨r, 0, none⟩))).run Tryd.prog w' = .ok (.tuple #[.int .i64 x, c]) w' → wpList Tryd.prog ops Q rest (a.put o.dst (.tuple #[.bool true, .int .i64 x, c])) w') :
    wpList Tryd.prog ops Q (o :: rest) a w :=
  wpList_next_ranges w hg it hop 3 intKeyed3 anyR (Value.int .i64) id (fun key kl hkey => by obtain ⟨x, rfl, _⟩ := Maps.keyOf_int_inv Tryd.underlying3 hkey; exact ⟨x, rfl⟩) (fun v _ _ => ⟨v, rfl⟩)
    b r n D left cnt hit h hDone (fun x c kl y w' cnt' hkey hlk hv hat hrg hlt hgr hsz hen => by
      obtain ⟨x', ex, rfl, hwx⟩ := Maps.keyOf_int_inv Tryd.underlying3 hkey
      cases ex
      have hy : y.1 = .held c := by
        unfold anyR at hv
        injection hv with hv
        rw [← hv]
        rfl
      exact hMore x c w' cnt' hlk (fun zd => by rw [hat zd, hy]) hrg hlt hgr hsz hen)
theorem same_int (a b : Int) : (Lit.int .i64 a).sameKey (.int .i64 b) = decide (a = b) := by
  rw [Bool.eq_iff_iff]
  simp [Lit.sameKey]
theorem may_of_head {m : Mg} (h : headB m = true) : mayM m = (List.range 11).all (fitsP m) := by unfold mayM; rw [h, Bool.true_and]
theorem may_not_head {m : Mg} (h : headB m = false) : okE (mayM m) = 1 := by unfold mayM; rw [h]; rfl
theorem may_not_fit {m : Mg} {i : Nat} (hi : i < 11) (h : fitsP m i = false) : okE (mayM m) = 1 := by
  have : mayM m = false := by
    rcases e : mayM m with _ | _
    · rfl
    · rw [may_fits e i hi] at h; cases h
  rw [this]; rfl
theorem may_all_fit {m : Mg} (hh : headB m = true) (h : ∀ i, i < 11 → fitsP m i = true) : okE (mayM m) = 0 := by
  rw [may_of_head hh, List.all_eq_true.2 (fun i hi => h i (List.mem_range.1 hi))]; rfl
theorem held_is {o : Option Value} {c : Value} (h : ∀ z : Value, (DataW.held (o.getD z) : DataW Value) = .held c) : o = some c := by
  rcases o with _ | v
  · have h1 := h (.bool true)
    have h2 := h (.bool false)
    simp at h1 h2
    rw [← h1] at h2
    cases h2
  · have h1 := h (.bool true)
    simp at h1
    rw [h1]
set_option maxRecDepth 100000 in
set_option maxHeartbeats 4000000 in
theorem check_msg (m : Mg) (u : Value) (w : World) (h : MsgV w u m) : Calls Tryd.prog 11 #[u] w fun e w' => e = .returned (.int .i64 (okE (mayM m))) ∧ Below w.heap.size w w' := by
  have hMV := h
  obtain ⟨A, cA, T, cT, rfl, hA, hT, l1, l2, l3⟩ := h
  have HB0 : Hid (Below w.heap.size w (w.alloc (.cells #[.int .i64 m.kd, .int .i64 m.fr, .int .i64 m.to, .int .u64 (m.sq : Int), .int .i64 m.wh, .int .u64 m.k.i, .int .i64 m.k.s, (.slice A m.ns.length cA), (.slice T m.tb.length cT), .int .u64 (m.ep : Int), .int .u64 (m.bo : Int), .int .i64 m.ak, .string m.ts, .int .u64 (m.tn : Int), .bool m.gd] 28))) := Lib.hid ((Below.refl _ _).alloc (Nat.le_refl _) _)
  have HR0 : Hid (Row (w.alloc (.cells #[.int .i64 m.kd, .int .i64 m.fr, .int .i64 m.to, .int .u64 (m.sq : Int), .int .i64 m.wh, .int .u64 m.k.i, .int .i64 m.k.s, (.slice A m.ns.length cA), (.slice T m.tb.length cT), .int .u64 (m.ep : Int), .int .u64 (m.bo : Int), .int .i64 m.ak, .string m.ts, .int .u64 (m.tn : Int), .bool m.gd] 28)) w.heap.size [.int .i64 m.kd, .int .i64 m.fr, .int .i64 m.to, .int .u64 (m.sq : Int), .int .i64 m.wh, .int .u64 m.k.i, .int .i64 m.k.s, (.slice A m.ns.length cA), (.slice T m.tb.length cT), .int .u64 (m.ep : Int), .int .u64 (m.bo : Int), .int .i64 m.ak, .string m.ts, .int .u64 (m.tn : Int), .bool m.gd]) := Lib.hid (Row.new w _ _)
  have HV0 : Hid (MsgV (w.alloc (.cells #[.int .i64 m.kd, .int .i64 m.fr, .int .i64 m.to, .int .u64 (m.sq : Int), .int .i64 m.wh, .int .u64 m.k.i, .int .i64 m.k.s, (.slice A m.ns.length cA), (.slice T m.tb.length cT), .int .u64 (m.ep : Int), .int .u64 (m.bo : Int), .int .i64 m.ak, .string m.ts, .int .u64 (m.tn : Int), .bool m.gd] 28)) (mvv m (.slice A m.ns.length cA) (.slice T m.tb.length cT)) m) := Lib.hid (hMV.on HB0.out)
  have z0 : w.heap.size < (w.alloc (.cells #[.int .i64 m.kd, .int .i64 m.fr, .int .i64 m.to, .int .u64 (m.sq : Int), .int .i64 m.wh, .int .u64 m.k.i, .int .i64 m.k.s, (.slice A m.ns.length cA), (.slice T m.tb.length cT), .int .u64 (m.ep : Int), .int .u64 (m.bo : Int), .int .i64 m.ak, .string m.ts, .int .u64 (m.tn : Int), .bool m.gd] 28)).heap.size := by simp
  have HPO := Lib.hid (fun W => partsof_any m.kd W)
  have hHD : headB m = (!(pof m.kd).isEmpty && (isN m.fr && (isN m.to && !decide (m.fr = m.to)))) := rfl
  have HFT : Hid (∀ i, fitsP m i = if (pof m.kd).contains i = true then mayP i m else zeroP i m) := Lib.hid (fun i => rfl)
  have HL20 : Hid ((pof m.kd).length ≤ 11) := Lib.hid (by
    rcases kinds m.kd with (h | h | h | h | h | h | h | h | h | h | h | h) | ⟨_, h⟩ <;> (rw [h]; decide))
  have HI1 := Lib.hid (fun W => isnode_any m.fr W)
  have HI2 := Lib.hid (fun W => isnode_any m.to W)
  clear hMV hA hT l1 l2 l3
  generalize pof m.kd = L at *
  unfold mvv at HV0 ⊢
  go_enter Tryd.func11, Tryd.ntmps11
  go_upto_region 1 with (fail)
  generalize w.alloc (.cells #[.int .i64 m.kd, .int .i64 m.fr, .int .i64 m.to, .int .u64 (m.sq : Int), .int .i64 m.wh, .int .u64 m.k.i, .int .i64 m.k.s, (.slice A m.ns.length cA), (.slice T m.tb.length cT), .int .u64 (m.ep : Int), .int .u64 (m.bo : Int), .int .i64 m.ak, .string m.ts, .int .u64 (m.tn : Int), .bool m.gd] 28) = w0 at *
  have c0 := HR0.out.at_ 0 _ rfl
  go_wp2_with fail
  refine (HPO.out _).mono ?_
  rintro e w1 ⟨LA, Lc, rfl, hLs, _, hb1⟩
  have HLs := Lib.hid hLs
  have HB1 : Hid (Below w.heap.size w w1) := Lib.hid (HB0.out.trans (hb1.mono (Nat.le_of_lt z0)))
  have HR1 := Lib.hid (HR0.out.on hb1 (show 0 < 15 by decide))
  have HV1 := Lib.hid (HV0.out.on hb1)
  clear c0 hLs hb1 HB0 HR0 HV0 z0 HPO
  have d1 := HR1.out.at_ 1 _ rfl
  have d2 := HR1.out.at_ 2 _ rfl
  go_upto_region 2 with (fail)
  by_cases t1 : L = []
  · have hH : okE (mayM m) = 1 := may_not_head (by rw [hHD, t1]; rfl)
    have e1 : ((L.length : Int) == 0) = true := by rw [t1]; rfl
    have HH := Lib.hid hH
    clear hH hHD t1 HFT
    generalize L.length = n at *
    go_wp2_with fail
    go_ret
    exact ⟨ret_int HH.out.symm, HB1.out⟩
  have e1 : ((L.length : Int) == 0) = false := by simpa using t1
  have hLE : L.isEmpty = false := by simpa using t1
  rw [hLE] at hHD
  have HLn : Hid (L.length ≤ 11) := HL20
  rcases n1 : isN m.fr with _ | _
  · rw [n1] at HI1 hHD
    have HH := Lib.hid (may_not_head (m := m) (by rw [hHD]; rfl))
    clear hHD t1 HFT n1 hLE HLn HL20
    go_wp2_with (go_at_call 26; first | (refine (HI1.out _).mono ?_; rintro e w2 ⟨rfl, rfl⟩))
    go_ret
    exact ⟨ret_int HH.out.symm, HB1.out⟩
  rw [n1] at HI1 hHD
  rcases n2 : isN m.to with _ | _
  · rw [n2] at HI2 hHD
    have HH := Lib.hid (may_not_head (m := m) (by rw [hHD]; rfl))
    clear hHD t1 HFT n1 n2 hLE HLn HL20
    go_wp2_with (go_at_call 26; first | (with_reducible refine (HI1.out _).mono ?_; rintro e w2 ⟨rfl, rfl⟩) | (with_reducible refine (HI2.out _).mono ?_; rintro e w2 ⟨rfl, rfl⟩))
    go_ret
    exact ⟨ret_int HH.out.symm, HB1.out⟩
  rw [n2] at HI2 hHD
  by_cases t3 : m.fr = m.to
  · have e3 : (m.fr == m.to) = true := by simpa using t3
    have HH := Lib.hid (may_not_head (m := m) (by rw [hHD, decide_eq_true t3]; rfl))
    clear hHD t1 HFT n1 n2 hLE HLn HL20 t3
    generalize m.fr = fr at *
    generalize m.to = tt at *
    go_wp2_with (go_at_call 26; first | (with_reducible refine (HI1.out _).mono ?_; rintro e w2 ⟨rfl, rfl⟩) | (with_reducible refine (HI2.out _).mono ?_; rintro e w2 ⟨rfl, rfl⟩))
    go_ret
    exact ⟨ret_int HH.out.symm, HB1.out⟩
  have e3 : (m.fr == m.to) = false := by simpa using t3
  have HHd : Hid (headB m = true) := Lib.hid (by rw [hHD, decide_eq_false t3]; rfl)
  clear hHD t1 n1 n2 hLE HL20 t3
  go_wp2_with (go_at_call 26; first | (with_reducible refine (HI1.out _).mono ?_; rintro e w2 ⟨rfl, rfl⟩) | (with_reducible refine (HI2.out _).mono ?_; rintro e w2 ⟨rfl, rfl⟩))
  refine (parts_any _).mono ?_
  rintro e wP ⟨g, rfl, hgB, hTab, hb⟩
  have HTab := Lib.hid hTab
  have HBP : Hid (Below w.heap.size w wP) := Lib.hid (HB1.out.trans (hb.mono HB1.out.size))
  have HRP := Lib.hid (HR1.out.on hb (show 0 < 15 by decide))
  have HVP := Lib.hid (HV1.out.on hb)
  have HLP := Lib.hid (HLs.out.on hb)
  have HgP : Hid (w1.heap.size ≤ g) := Lib.hid hgB
  clear hTab hgB hb HB1 HR1 HV1 HLs d1 d2 e1 e3 HI1 HI2
  generalize w1.heap.size = B at *
  obtain ⟨f, ⟨D, hM, hHas, hAt⟩, hdom, hsem⟩ := HTab.out
  have HHas := Lib.hid hHas
  have HAt := Lib.hid hAt
  have HDom := Lib.hid hdom
  have HSem := Lib.hid hsem
  clear hHas hAt hdom hsem HTab
  have hPs := HBP.out.size
  go_wp2_with (first
    | (at_range; refine wpList_range_own _ rfl _ 51 rfl 3 57 intKeyed3 Tryd.underlying51 _ g _ D rfl hM ?_; intro wi hrg0 hg0 hs0))
  go_frame
  have HBi : Hid (Below wP.heap.size wP wi) := Lib.hid ((Below.refl _ _).grown hg0 (Nat.le_refl _) (by simp))
  obtain ⟨r, er⟩ : ∃ r, r = wP.heap.size := ⟨_, rfl⟩
  rw [← er] at hrg0 ⊢
  have HRr : Hid (r = wP.heap.size) := Lib.hid er
  clear er hg0 hs0 hM
  go_loopw [4] (fun _ wr => ∃ (left : Lit → Bool) (cnt : Nat), wr.ranges Tryd.prog 3 anyR g r 11 D left cnt ∧ Hid (∀ i : Nat, i < 11 → left (.int .i64 (i : Int)) = false → fitsP m i = true) ∧ Hid (Below wP.heap.size wP wr)) (fun _ wr => wr.rangeLeft g r)
  case atStart => exact ⟨_, _, hrg0, Lib.hid (fun i hi h => by
    have h1 := HHas.out (i : Int)
    have h2 := (HDom.out (i : Int)).2 ⟨by omega, by omega⟩
    rw [h2] at h1
    rw [h1] at h; cases h), HBi⟩
  case round =>
    clear HBi hrg0
    obtain ⟨left, cnt, hrg, hok, hbr⟩ := hrel
    have hrl := hrg.left_eq
    go_wp2_with (first
      | (at_next; refine wpList_next_any rfl _ rfl g r 11 D _ _ rfl hrg ?_ ?_))
    · intro _ hl0
      have HH : Hid (okE (mayM m) = 0) := Lib.hid (may_all_fit HHd.out (fun i hi => hok.out i hi (hl0 _)))
      have HBe : Hid (Below w.heap.size w wr) := Lib.hid (HBP.out.trans (hbr.out.mono hPs))
      go_wp2_with fail
      go_ret
      exact ⟨ret_int HH.out.symm, HBe.out⟩
    · intro x c w2 cnt1 hlx hat hrg1 hcl hg1 hs1 hen
      have hfx : f x = some c := held_is (fun z => by rw [← HAt.out x z]; exact hat _)
      have hx := (HDom.out x).1 (by rw [hfx]; rfl)
      obtain ⟨i, rfl⟩ : ∃ i : Nat, x = (i : Int) := ⟨x.toNat, (nat_of hx.1).symm⟩
      have hi : i < 11 := by omega
      have hb2 : Below wP.heap.size wP w2 := hbr.out.grown hg1 hbr.out.size (fun k hk => by injection hk with hk; have := HRr.out; omega)
      have hps := HSem.out i c hi hfx
      obtain ⟨nm, nz, nl, nt, cm, cz, cl, ct, rfl, ⟨hem, hez, _, _⟩, hW⟩ := hps
      have HLeft : Hid (fitsP m i = true → ∀ j : Nat, j < 11 → (left (.int .i64 (j : Int)) && !(Lit.int .i64 (j : Int)).sameKey (.int .i64 (i : Int))) = false → fitsP m j = true) := Lib.hid (fun hf j hj hl => by
        by_cases e : j = i
        · rw [e]; exact hf
        · refine hok.out j hj ?_
          have : (Lit.int .i64 (j : Int)).sameKey (.int .i64 (i : Int)) = false := by rw [same_int]; simp; omega
          rw [this] at hl
          simpa using hl)
      have HFi := Lib.hid (HFT.out i)
      have hb3 : Below wP.heap.size wP (w2.alloc (.cells #[.func (.func nm) #[] cm.toArray, .func (.func nz) #[] cz.toArray, .func (.func nl) #[] cl.toArray, .func (.func nt) #[] ct.toArray] 57)) := hb2.alloc hb2.size _
      have hV3 := HVP.out.on hb3
      have hR3 := HRP.out.on hb3 (show 0 < 15 by decide)
      have hS3 := hW _ (Same.below hb3)
      have HCm := Lib.hid (hS3.1 m _ hV3)
      have HCz := Lib.hid (hS3.2.1 m _ hV3)
      have HCt := Lib.hid (contains_any LA Lc L i _ (by have := HLn.out; omega) (HLP.out.on hb3))
      have HB3 := Lib.hid hb3
      have hem' : ∀ (args : Array Value) (w : World), (callFunc nm args).run Tryd.prog w = .ok (.enter nm args) w := hem
      have hez' : ∀ (args : Array Value) (w : World), (callFunc nz args).run Tryd.prog w = .ok (.enter nz args) w := hez
      have HRg := Lib.hid hrg1
      have k0 := hR3.at_ 0 _ rfl
      have k1 := hR3.at_ 1 _ rfl
      have k2 := hR3.at_ 2 _ rfl
      have k3 := hR3.at_ 3 _ rfl
      have k4 := hR3.at_ 4 _ rfl
      have k5 := hR3.at_ 5 _ rfl
      have k6 := hR3.at_ 6 _ rfl
      have k7 := hR3.at_ 7 _ rfl
      have k8 := hR3.at_ 8 _ rfl
      have k9 := hR3.at_ 9 _ rfl
      have k10 := hR3.at_ 10 _ rfl
      have k11 := hR3.at_ 11 _ rfl
      have k12 := hR3.at_ 12 _ rfl
      have k13 := hR3.at_ 13 _ rfl
      have k14 := hR3.at_ 14 _ rfl
      clear hem hez hV3 hR3 hS3 hW hfx hx hlx hat hb2 hg1 hb3 hok hbr hrg
      have HRgK : Hid (∀ w4 : World, Below (w2.alloc (.cells #[.func (.func nm) #[] cm.toArray, .func (.func nz) #[] cz.toArray, .func (.func nl) #[] cl.toArray, .func (.func nt) #[] ct.toArray] 57)).heap.size (w2.alloc (.cells #[.func (.func nm) #[] cm.toArray, .func (.func nz) #[] cz.toArray, .func (.func nl) #[] cl.toArray, .func (.func nt) #[] ct.toArray] 57)) w4 → w4.ranges Tryd.prog 3 anyR g r 11 D (fun z => left z && !z.sameKey (.int .i64 (i : Int))) cnt1 ∧ Below wP.heap.size wP w4) := Lib.hid (fun w4 h4 =>
        ⟨((HRg.out.alloc _).kept (row := none) ⟨h4.os, h4.tape, h4.output, h4.size, fun b hb _ => h4.block b hb⟩ (by simp) (by simp)), HB3.out.trans (h4.mono HB3.out.size)⟩)
      clear HRg
      rcases hcc : L.contains i with _ | _
      · rw [hcc] at HCt
        have hfe : fitsP m i = zeroP i m := by rw [HFi.out, hcc]; rfl
        rcases hz : zeroP i m with _ | _
        · rw [hz] at HCz
          have HH := Lib.hid (may_not_fit hi (hfe.trans hz))
          clear hcc hfe hz HLeft HFi
          go_wp2_with (first | (go_at_call 27; refine HCt.out.mono ?_; rintro e w3 ⟨rfl, rfl⟩) | (go_at_fn nz; refine HCz.out.mono ?_; rintro e w4 ⟨rfl, hb4⟩))
          go_ret
          exact ⟨ret_int HH.out.symm, HBP.out.trans (((HRgK.out _ hb4).2).mono hPs)⟩
        · rw [hz] at HCz
          have HL2 := Lib.hid (HLeft.out (hfe.trans hz))
          clear hcc hfe hz HLeft HFi
          go_wp2_with (first | (go_at_call 27; refine HCt.out.mono ?_; rintro e w3 ⟨rfl, rfl⟩) | (go_at_fn nz; refine HCz.out.mono ?_; rintro e w4 ⟨rfl, hb4⟩))
          have HRN := HRgK.out _ hb4
          go_roundw
          case rel => exact ⟨_, _, HRN.1, HL2, Lib.hid HRN.2⟩
          case measure => rw [HRN.1.left_eq, hrl]; exact hcl
      · rw [hcc] at HCt
        have hfe : fitsP m i = mayP i m := by rw [HFi.out, hcc]; rfl
        rcases hz : mayP i m with _ | _
        · rw [hz] at HCm
          have HH := Lib.hid (may_not_fit hi (hfe.trans hz))
          clear hcc hfe hz HLeft HFi
          go_wp2_with (first | (go_at_call 27; refine HCt.out.mono ?_; rintro e w3 ⟨rfl, rfl⟩) | (go_at_fn nm; refine HCm.out.mono ?_; rintro e w4 ⟨rfl, hb4⟩))
          go_ret
          exact ⟨ret_int HH.out.symm, HBP.out.trans (((HRgK.out _ hb4).2).mono hPs)⟩
        · rw [hz] at HCm
          have HL2 := Lib.hid (HLeft.out (hfe.trans hz))
          clear hcc hfe hz HLeft HFi
          go_wp2_with (first | (go_at_call 27; refine HCt.out.mono ?_; rintro e w3 ⟨rfl, rfl⟩) | (go_at_fn nm; refine HCm.out.mono ?_; rintro e w4 ⟨rfl, hb4⟩))
          have HRN := HRgK.out _ hb4
          go_roundw
          case rel => exact ⟨_, _, HRN.1, HL2, Lib.hid HRN.2⟩
          case measure => rw [HRN.1.left_eq, hrl]; exact hcl
end Go.Proofs.YtjeepmdklbfgeaaDoor
