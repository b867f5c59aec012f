/-
  Read, whatever the octets are.
-/
import Derived.Test.YtjeepmdklbfgeaaDoorTakesP
import Derived.Test.YtjeepmdklbfgeaaDoorMsgD
namespace Go.Proofs.YtjeepmdklbfgeaaDoor
open Go.Sort Go.RowKit Go.Proofs.YtjeepmdklbfgeaaDoor.Pure Go.Proofs.YtjeepmdklbfgeaaDoor.W Go.Proofs.YtjeepmdklbfgeaaDoor.W.Pure
open Go.Maps (Keyed int_keyed keyOf_int_mk IsMap)

set_option maxRecDepth 100000 in
/-- The step of a range over such a map. -/
theorem wpList_next_any {w : World} {ops : Array Oper} {rest : List Oper} {o : Oper} {a : Act} {Q : Exit → Act → World → Prop} (hg : o.guard = none) (it : Operand) (hop : o.op = Op.next it false)
    (b r n : Nat) (D : DataW Value) (left : Lit → Bool) (cnt : Nat) (hit : a.eval it = .pointer (some ⟨r, 0, none⟩)) (h : w.ranges Tryd.prog 3 anyR b r n D left cnt)
    (hDone : cnt = 0 → (∀ kl, left kl = false) → wpList Tryd.prog ops Q rest (a.put o.dst (.tuple #[.bool false])) w)
    (hMore : ∀ (x : Int) (c : Value) (w' : World) (cnt' : Nat), left (.int .i64 x) = true → (∀ zd, D.atKey (.int .i64 x) zd = .held c) → w'.ranges Tryd.prog 3 anyR b r n D (fun z => left z && !z.sameKey (.int .i64 x)) cnt' → cnt' < cnt →
      w.grownBy w' (some r) → w'.heap.size = w.heap.size → (Instr.entry (.pointer (some ⟨r, 0, none⟩))).run Tryd.prog w' = .ok (.tuple #[.int .i64 x, c]) w' → wpList Tryd.prog ops Q rest (a.put o.dst (.tuple #[.bool true, .int .i64 x, c])) w') :
    wpList Tryd.prog ops Q (o :: rest) a w :=
  wpList_next_ranges w hg it hop 3 intKeyed3 anyR (Value.int .i64) id (fun key kl hkey => by obtain ⟨x, rfl, _⟩ := Maps.keyOf_int_inv Tryd.underlying3 hkey; exact ⟨x, rfl⟩) (fun v _ _ => ⟨v, rfl⟩)
    b r n D left cnt hit h hDone (fun x c kl y w' cnt' hkey hlk hv hat hrg hlt hgr hsz hen => by
      obtain ⟨x', ex, rfl, hwx⟩ := Maps.keyOf_int_inv Tryd.underlying3 hkey
      cases ex
      have hy : y.1 = .held c := by
        unfold anyR at hv
        injection hv with hv
        rw [← hv]
        rfl
      exact hMore x c w' cnt' hlk (fun zd => by rw [hat zd, hy]) hrg hlt hgr hsz hen)
theorem same_int (a b : Int) : (Lit.int .i64 a).sameKey (.int .i64 b) = decide (a = b) := by
  rw [Bool.eq_iff_iff]
  simp [Lit.sameKey]
theorem may_of_head {m : Mg} (h : headB m = true) : mayM m = (List.range 11).all (fitsP m) := by unfold mayM; rw [h, Bool.true_and]
theorem may_not_head {m : Mg} (h : headB m = false) : okE (mayM m) = 1 := by unfold mayM; rw [h]; rfl
theorem may_not_fit {m : Mg} {i : Nat} (hi : i < 11) (h : fitsP m i = false) : okE (mayM m) = 1 := by
  have : mayM m = false := by
    rcases e : mayM m with _ | _
    · rfl
    · rw [may_fits e i hi] at h; cases h
  rw [this]; rfl
theorem may_all_fit {m : Mg} (hh : headB m = true) (h : ∀ i, i < 11 → fitsP m i = true) : okE (mayM m) = 0 := by
  rw [may_of_head hh, List.all_eq_true.2 (fun i hi => h i (List.mem_range.1 hi))]; rfl
theorem held_is {o : Option Value} {c : Value} (h : ∀ z : Value, (DataW.held (o.getD z) : DataW Value) = .held c) : o = some c := by
  rcases o with _ | v
  · have h1 := h (.bool true)
    have h2 := h (.bool false)
    simp at h1 h2
    rw [← h1] at h2
    cases h2
  · have h1 := h (.bool true)
    simp at h1
    rw [h1]
set_option maxRecDepth 100000 in
set_option maxHeartbeats 4000000 in
theorem check_msg (m : Mg) (u : Value) (w : World) (h : MsgV w u m) : Calls Tryd.prog 11 #[u] w fun e w' => e = .returned (.int .i64 (okE (mayM m))) ∧ Below w.heap.size w w' := by
  have hMV := h
  obtain ⟨A, cA, T, cT, rfl, hA, hT, l1, l2, l3⟩ := h
  have HB0 : Hid (Below w.heap.size w (w.alloc (.cells #[.int .i64 m.kd, .int .i64 m.fr, .int .i64 m.to, .int .u64 (m.sq : Int), .int .i64 m.wh, .int .u64 m.k.i, .int .i64 m.k.s, (.slice A m.ns.length cA), (.slice T m.tb.length cT), .int .u64 (m.ep : Int), .int .u64 (m.bo : Int), .int .i64 m.ak, .string m.ts, .int .u64 (m.tn : Int), .bool m.gd] 28))) := Lib.hid ((Below.refl _ _).alloc (Nat.le_refl _) _)
  have HR0 : Hid (Row (w.alloc (.cells #[.int .i64 m.kd, .int .i64 m.fr, .int .i64 m.to, .int .u64 (m.sq : Int), .int .i64 m.wh, .int .u64 m.k.i, .int .i64 m.k.s, (.slice A m.ns.length cA), (.slice T m.tb.length cT), .int .u64 (m.ep : Int), .int .u64 (m.bo : Int), .int .i64 m.ak, .string m.ts, .int .u64 (m.tn : Int), .bool m.gd] 28)) w.heap.size [.int .i64 m.kd, .int .i64 m.fr, .int .i64 m.to, .int .u64 (m.sq : Int), .int .i64 m.wh, .int .u64 m.k.i, .int .i64 m.k.s, (.slice A m.ns.length cA), (.slice T m.tb.length cT), .int .u64 (m.ep : Int), .int .u64 (m.bo : Int), .int .i64 m.ak, .string m.ts, .int .u64 (m.tn : Int), .bool m.gd]) := Lib.hid (Row.new w _ _)
  have HV0 : Hid (MsgV (w.alloc (.cells #[.int .i64 m.kd, .int .i64 m.fr, .int .i64 m.to, .int .u64 (m.sq : Int), .int .i64 m.wh, .int .u64 m.k.i, .int .i64 m.k.s, (.slice A m.ns.length cA), (.slice T m.tb.length cT), .int .u64 (m.ep : Int), .int .u64 (m.bo : Int), .int .i64 m.ak, .string m.ts, .int .u64 (m.tn : Int), .bool m.gd] 28)) (mvv m (.slice A m.ns.length cA) (.slice T m.tb.length cT)) m) := Lib.hid (hMV.on HB0.out)
  have z0 : w.heap.size < (w.alloc (.cells #[.int .i64 m.kd, .int .i64 m.fr, .int .i64 m.to, .int .u64 (m.sq : Int), .int .i64 m.wh, .int .u64 m.k.i, .int .i64 m.k.s, (.slice A m.ns.length cA), (.slice T m.tb.length cT), .int .u64 (m.ep : Int), .int .u64 (m.bo : Int), .int .i64 m.ak, .string m.ts, .int .u64 (m.tn : Int), .bool m.gd] 28)).heap.size := by simp
  have HPO := Lib.hid (fun W => partsof_any m.kd W)
  have hHD : headB m = (!(pof m.kd).isEmpty && (isN m.fr && (isN m.to && !decide (m.fr = m.to)))) := rfl
  have HFT : Hid (∀ i, fitsP m i = if (pof m.kd).contains i = true then mayP i m else zeroP i m) := Lib.hid (fun i => rfl)
  have HL20 : Hid ((pof m.kd).length ≤ 11) := Lib.hid (by
    rcases kinds m.kd with (h | h | h | h | h | h | h | h | h | h | h | h) | ⟨_, h⟩ <;> (rw [h]; decide))
  have HI1 := Lib.hid (fun W => isnode_any m.fr W)
  have HI2 := Lib.hid (fun W => isnode_any m.to W)
  clear hMV hA hT l1 l2 l3
  generalize pof m.kd = L at *
  unfold mvv at HV0 ⊢
  go_enter Tryd.func11, Tryd.ntmps11
  go_upto_region 1 with (fail)
  generalize w.alloc (.cells #[.int .i64 m.kd, .int .i64 m.fr, .int .i64 m.to, .int .u64 (m.sq : Int), .int .i64 m.wh, .int .u64 m.k.i, .int .i64 m.k.s, (.slice A m.ns.length cA), (.slice T m.tb.length cT), .int .u64 (m.ep : Int), .int .u64 (m.bo : Int), .int .i64 m.ak, .string m.ts, .int .u64 (m.tn : Int), .bool m.gd] 28) = w0 at *
  have c0 := HR0.out.at_ 0 _ rfl
  go_wp2_with fail
  refine (HPO.out _).mono ?_
  rintro e w1 ⟨LA, Lc, rfl, hLs, _, hb1⟩
  have HLs := Lib.hid hLs
  have HB1 : Hid (Below w.heap.size w w1) := Lib.hid (HB0.out.trans (hb1.mono (Nat.le_of_lt z0)))
  have HR1 := Lib.hid (HR0.out.on hb1 (show 0 < 15 by decide))
  have HV1 := Lib.hid (HV0.out.on hb1)
  clear c0 hLs hb1 HB0 HR0 HV0 z0 HPO
  have d1 := HR1.out.at_ 1 _ rfl
  have d2 := HR1.out.at_ 2 _ rfl
  go_upto_region 2 with (fail)
  by_cases t1 : L = []
  · have hH : okE (mayM m) = 1 := may_not_head (by rw [hHD, t1]; rfl)
    have e1 : ((L.length : Int) == 0) = true := by rw [t1]; rfl
    have HH := Lib.hid hH
    clear hH hHD t1 HFT
    generalize L.length = n at *
    go_wp2_with fail
    go_ret
    exact ⟨ret_int HH.out.symm, HB1.out⟩
  have e1 : ((L.length : Int) == 0) = false := by simpa using t1
  have hLE : L.isEmpty = false := by simpa using t1
  rw [hLE] at hHD
  have HLn : Hid (L.length ≤ 11) := HL20
  rcases n1 : isN m.fr with _ | _
  · rw [n1] at HI1 hHD
    have HH := Lib.hid (may_not_head (m := m) (by rw [hHD]; rfl))
    clear hHD t1 HFT n1 hLE HLn HL20
    go_wp2_with (go_at_call 26; first | (refine (HI1.out _).mono ?_; rintro e w2 ⟨rfl, rfl⟩))
    go_ret
    exact ⟨ret_int HH.out.symm, HB1.out⟩
  rw [n1] at HI1 hHD
  rcases n2 : isN m.to with _ | _
  · rw [n2] at HI2 hHD
    have HH := Lib.hid (may_not_head (m := m) (by rw [hHD]; rfl))
    clear hHD t1 HFT n1 n2 hLE HLn HL20
    go_wp2_with (go_at_call 26; first | (with_reducible refine (HI1.out _).mono ?_; rintro e w2 ⟨rfl, rfl⟩) | (with_reducible refine (HI2.out _).mono ?_; rintro e w2 ⟨rfl, rfl⟩))
    go_ret
    exact ⟨ret_int HH.out.symm, HB1.out⟩
  rw [n2] at HI2 hHD
  by_cases t3 : m.fr = m.to
  · have e3 : (m.fr == m.to) = true := by simpa using t3
    have HH := Lib.hid (may_not_head (m := m) (by rw [hHD, decide_eq_true t3]; rfl))
    clear hHD t1 HFT n1 n2 hLE HLn HL20 t3
    generalize m.fr = fr at *
    generalize m.to = tt at *
    go_wp2_with (go_at_call 26; first | (with_reducible refine (HI1.out _).mono ?_; rintro e w2 ⟨rfl, rfl⟩) | (with_reducible refine (HI2.out _).mono ?_; rintro e w2 ⟨rfl, rfl⟩))
    go_ret
    exact ⟨ret_int HH.out.symm, HB1.out⟩
  have e3 : (m.fr == m.to) = false := by simpa using t3
  have HHd : Hid (headB m = true) := Lib.hid (by rw [hHD, decide_eq_false t3]; rfl)
  clear hHD t1 n1 n2 hLE HL20 t3
  go_wp2_with (go_at_call 26; first | (with_reducible refine (HI1.out _).mono ?_; rintro e w2 ⟨rfl, rfl⟩) | (with_reducible refine (HI2.out _).mono ?_; rintro e w2 ⟨rfl, rfl⟩))
  refine (parts_any _).mono ?_
  rintro e wP ⟨g, rfl, hgB, hTab, hb⟩
  have HTab := Lib.hid hTab
  have HBP : Hid (Below w.heap.size w wP) := Lib.hid (HB1.out.trans (hb.mono HB1.out.size))
  have HRP := Lib.hid (HR1.out.on hb (show 0 < 15 by decide))
  have HVP := Lib.hid (HV1.out.on hb)
  have HLP := Lib.hid (HLs.out.on hb)
  have HgP : Hid (w1.heap.size ≤ g) := Lib.hid hgB
  clear hTab hgB hb HB1 HR1 HV1 HLs d1 d2 e1 e3 HI1 HI2
  generalize w1.heap.size = B at *
  obtain ⟨f, ⟨D, hM, hHas, hAt⟩, hdom, hsem⟩ := HTab.out
  have HHas := Lib.hid hHas
  have HAt := Lib.hid hAt
  have HDom := Lib.hid hdom
  have HSem := Lib.hid hsem
  clear hHas hAt hdom hsem HTab
  have hPs := HBP.out.size
  go_wp2_with (first
    | (at_range; refine wpList_range_own _ rfl _ 51 rfl 3 57 intKeyed3 Tryd.underlying51 _ g _ D rfl hM ?_; intro wi hrg0 hg0 hs0))
  go_frame
  have HBi : Hid (Below wP.heap.size wP wi) := Lib.hid ((Below.refl _ _).grown hg0 (Nat.le_refl _) (by simp))
  obtain ⟨r, er⟩ : ∃ r, r = wP.heap.size := ⟨_, rfl⟩
  rw [← er] at hrg0 ⊢
  have HRr : Hid (r = wP.heap.size) := Lib.hid er
  clear er hg0 hs0 hM
  go_loopw [4] (fun _ wr => ∃ (left : Lit → Bool) (cnt : Nat), wr.ranges Tryd.prog 3 anyR g r 11 D left cnt ∧ Hid (∀ i : Nat, i < 11 → left (.int .i64 (i : Int)) = false → fitsP m i = true) ∧ Hid (Below wP.heap.size wP wr)) (fun _ wr => wr.rangeLeft g r)
  case atStart => exact ⟨_, _, hrg0, Lib.hid (fun i hi h => by
    have h1 := HHas.out (i : Int)
    have h2 := (HDom.out (i : Int)).2 ⟨by omega, by omega⟩
    rw [h2] at h1
    rw [h1] at h; cases h), HBi⟩
  case round =>
    clear HBi hrg0
    obtain ⟨left, cnt, hrg, hok, hbr⟩ := hrel
    have hrl := hrg.left_eq
    go_wp2_with (first
      | (at_next; refine wpList_next_any rfl _ rfl g r 11 D _ _ rfl hrg ?_ ?_))
    · intro _ hl0
      have HH : Hid (okE (mayM m) = 0) := Lib.hid (may_all_fit HHd.out (fun i hi => hok.out i hi (hl0 _)))
      have HBe : Hid (Below w.heap.size w wr) := Lib.hid (HBP.out.trans (hbr.out.mono hPs))
      go_wp2_with fail
      go_ret
      exact ⟨ret_int HH.out.symm, HBe.out⟩
    · intro x c w2 cnt1 hlx hat hrg1 hcl hg1 hs1 hen
      have hfx : f x = some c := held_is (fun z => by rw [← HAt.out x z]; exact hat _)
      have hx := (HDom.out x).1 (by rw [hfx]; rfl)
      obtain ⟨i, rfl⟩ : ∃ i : Nat, x = (i : Int) := ⟨x.toNat, (nat_of hx.1).symm⟩
      have hi : i < 11 := by omega
      have hb2 : Below wP.heap.size wP w2 := hbr.out.grown hg1 hbr.out.size (fun k hk => by injection hk with hk; have := HRr.out; omega)
      have hps := HSem.out i c hi hfx
      obtain ⟨nm, nz, nl, nt, cm, cz, cl, ct, rfl, ⟨hem, hez, _, _⟩, hW⟩ := hps
      have HLeft : Hid (fitsP m i = true → ∀ j : Nat, j < 11 → (left (.int .i64 (j : Int)) && !(Lit.int .i64 (j : Int)).sameKey (.int .i64 (i : Int))) = false → fitsP m j = true) := Lib.hid (fun hf j hj hl => by
        by_cases e : j = i
        · rw [e]; exact hf
        · refine hok.out j hj ?_
          have : (Lit.int .i64 (j : Int)).sameKey (.int .i64 (i : Int)) = false := by rw [same_int]; simp; omega
          rw [this] at hl
          simpa using hl)
      have HFi := Lib.hid (HFT.out i)
      have hb3 : Below wP.heap.size wP (w2.alloc (.cells #[.func (.func nm) #[] cm.toArray, .func (.func nz) #[] cz.toArray, .func (.func nl) #[] cl.toArray, .func (.func nt) #[] ct.toArray] 57)) := hb2.alloc hb2.size _
      have hV3 := HVP.out.on hb3
      have hR3 := HRP.out.on hb3 (show 0 < 15 by decide)
      have hS3 := hW _ (Same.below hb3)
      have HCm := Lib.hid (hS3.1 m _ hV3)
      have HCz := Lib.hid (hS3.2.1 m _ hV3)
      have HCt := Lib.hid (contains_any LA Lc L i _ (by have := HLn.out; omega) (HLP.out.on hb3))
      have HB3 := Lib.hid hb3
      have hem' : ∀ (args : Array Value) (w : World), (callFunc nm args).run Tryd.prog w = .ok (.enter nm args) w := hem
      have hez' : ∀ (args : Array Value) (w : World), (callFunc nz args).run Tryd.prog w = .ok (.enter nz args) w := hez
      have HRg := Lib.hid hrg1
      have k0 := hR3.at_ 0 _ rfl
      have k1 := hR3.at_ 1 _ rfl
      have k2 := hR3.at_ 2 _ rfl
      have k3 := hR3.at_ 3 _ rfl
      have k4 := hR3.at_ 4 _ rfl
      have k5 := hR3.at_ 5 _ rfl
      have k6 := hR3.at_ 6 _ rfl
      have k7 := hR3.at_ 7 _ rfl
      have k8 := hR3.at_ 8 _ rfl
      have k9 := hR3.at_ 9 _ rfl
      have k10 := hR3.at_ 10 _ rfl
      have k11 := hR3.at_ 11 _ rfl
      have k12 := hR3.at_ 12 _ rfl
      have k13 := hR3.at_ 13 _ rfl
      have k14 := hR3.at_ 14 _ rfl
      clear hem hez hV3 hR3 hS3 hW hfx hx hlx hat hb2 hg1 hb3 hok hbr hrg
      have HRgK : Hid (∀ w4 : World, Below (w2.alloc (.cells #[.func (.func nm) #[] cm.toArray, .func (.func nz) #[] cz.toArray, .func (.func nl) #[] cl.toArray, .func (.func nt) #[] ct.toArray] 57)).heap.size (w2.alloc (.cells #[.func (.func nm) #[] cm.toArray, .func (.func nz) #[] cz.toArray, .func (.func nl) #[] cl.toArray, .func (.func nt) #[] ct.toArray] 57)) w4 → w4.ranges Tryd.prog 3 anyR g r 11 D (fun z => left z && !z.sameKey (.int .i64 (i : Int))) cnt1 ∧ Below wP.heap.size wP w4) := Lib.hid (fun w4 h4 =>
        ⟨((HRg.out.alloc _).kept (row := none) ⟨h4.os, h4.tape, h4.output, h4.size, fun b hb _ => h4.block b hb⟩ (by simp) (by simp)), HB3.out.trans (h4.mono HB3.out.size)⟩)
      clear HRg
      rcases hcc : L.contains i with _ | _
      · rw [hcc] at HCt
        have hfe : fitsP m i = zeroP i m := by rw [HFi.out, hcc]; rfl
        rcases hz : zeroP i m with _ | _
        · rw [hz] at HCz
          have HH := Lib.hid (may_not_fit hi (hfe.trans hz))
          clear hcc hfe hz HLeft HFi
          go_wp2_with (first | (go_at_call 27; refine HCt.out.mono ?_; rintro e w3 ⟨rfl, rfl⟩) | (go_at_fn nz; refine HCz.out.mono ?_; rintro e w4 ⟨rfl, hb4⟩))
          go_ret
          exact ⟨ret_int HH.out.symm, HBP.out.trans (((HRgK.out _ hb4).2).mono hPs)⟩
        · rw [hz] at HCz
          have HL2 := Lib.hid (HLeft.out (hfe.trans hz))
          clear hcc hfe hz HLeft HFi
          go_wp2_with (first | (go_at_call 27; refine HCt.out.mono ?_; rintro e w3 ⟨rfl, rfl⟩) | (go_at_fn nz; refine HCz.out.mono ?_; rintro e w4 ⟨rfl, hb4⟩))
          have HRN := HRgK.out _ hb4
          go_roundw
          case rel => exact ⟨_, _, HRN.1, HL2, Lib.hid HRN.2⟩
          case measure => rw [HRN.1.left_eq, hrl]; exact hcl
      · rw [hcc] at HCt
        have hfe : fitsP m i = mayP i m := by rw [HFi.out, hcc]; rfl
        rcases hz : mayP i m with _ | _
        · rw [hz] at HCm
          have HH := Lib.hid (may_not_fit hi (hfe.trans hz))
          clear hcc hfe hz HLeft HFi
          go_wp2_with (first | (go_at_call 27; refine HCt.out.mono ?_; rintro e w3 ⟨rfl, rfl⟩) | (go_at_fn nm; refine HCm.out.mono ?_; rintro e w4 ⟨rfl, hb4⟩))
          go_ret
          exact ⟨ret_int HH.out.symm, HBP.out.trans (((HRgK.out _ hb4).2).mono hPs)⟩
        · rw [hz] at HCm
          have HL2 := Lib.hid (HLeft.out (hfe.trans hz))
          clear hcc hfe hz HLeft HFi
          go_wp2_with (first | (go_at_call 27; refine HCt.out.mono ?_; rintro e w3 ⟨rfl, rfl⟩) | (go_at_fn nm; refine HCm.out.mono ?_; rintro e w4 ⟨rfl, hb4⟩))
          have HRN := HRgK.out _ hb4
          go_roundw
          case rel => exact ⟨_, _, HRN.1, HL2, Lib.hid HRN.2⟩
          case measure => rw [HRN.1.left_eq, hrl]; exact hcl
end Go.Proofs.YtjeepmdklbfgeaaDoor

namespace Go.Proofs.YtjeepmdklbfgeaaDoor
open Go.Sort Go.RowKit Go.Proofs.YtjeepmdklbfgeaaDoor.Pure Go.Proofs.YtjeepmdklbfgeaaDoor.W Go.Proofs.YtjeepmdklbfgeaaDoor.W.Pure
open Go.Maps (Keyed int_keyed keyOf_int_mk IsMap)

theorem layP_le {m : Mg} {i : Nat} (h : mayP i m = true) : (layP i m).length ≤ 1290 ∧ (i ≠ 4 → (layP i m).length ≤ 250) := by
  match i with
  | 0 => have := num_le m.sq; exact ⟨by show (num m.sq).length ≤ _; omega, fun _ => by show (num m.sq).length ≤ _; omega⟩
  | 1 => have := num_le m.wh.toNat; exact ⟨by show (num _).length ≤ _; omega, fun _ => by show (num _).length ≤ _; omega⟩
  | 2 => have := layK_le m.k; exact ⟨by show (layK m.k).length ≤ _; omega, fun _ => by show (layK m.k).length ≤ _; omega⟩
  | 3 =>
    have hm : m.ns.length ≤ 8 := by have := h; simp [mayP, mayNs] at this; exact this.1
    have h1 := num_le m.ns.length
    have h2 := flat_le layN 30 layN_le m.ns
    have h3 : (layP 3 m).length = (num m.ns.length).length + (m.ns.flatMap layN).length := List.length_append
    exact ⟨by omega, fun _ => by omega⟩
  | 4 =>
    have hm : m.tb.length ≤ 64 := ((mayT_iff m.tb).1 h).2.1
    have h1 := num_le m.tb.length
    have h2 := flat_le layK 20 layK_le m.tb
    have h3 : (layP 4 m).length = (num m.tb.length).length + (m.tb.flatMap layK).length := List.length_append
    exact ⟨by omega, fun e => absurd rfl e⟩
  | 5 => have := num_le m.ep; exact ⟨by show (num m.ep).length ≤ _; omega, fun _ => by show (num m.ep).length ≤ _; omega⟩
  | 6 => have := num_le m.bo; exact ⟨by show (num m.bo).length ≤ _; omega, fun _ => by show (num m.bo).length ≤ _; omega⟩
  | 7 => have := num_le m.ak.toNat; exact ⟨by show (num _).length ≤ _; omega, fun _ => by show (num _).length ≤ _; omega⟩
  | 8 =>
    have hm : m.ts.size ≤ 20 := by have := h; simp [mayP, nameB] at this; exact this.2.2
    have h1 := num_le m.ts.size
    have h3 : (layP 8 m).length = (num m.ts.size).length + m.ts.data.toList.length := List.length_append
    rw [size_list] at h3
    exact ⟨by omega, fun _ => by omega⟩
  | 9 => have := num_le m.tn; exact ⟨by show (num m.tn).length ≤ _; omega, fun _ => by show (num m.tn).length ≤ _; omega⟩
  | 10 => have := num_le (if m.gd = true then 1 else 0); exact ⟨by show (num _).length ≤ _; omega, fun _ => by show (num _).length ≤ _; omega⟩
  | n + 11 => exact ⟨by show ([] : List UInt8).length ≤ _; simp, fun _ => by show ([] : List UInt8).length ≤ _; simp⟩
theorem layH_le (m : Mg) : (layH m).length ≤ 30 := by
  have h1 := num_le m.kd.toNat
  have h2 := num_le m.fr.toNat
  have h3 := num_le m.to.toNat
  unfold layH
  rw [List.length_append, List.length_append]
  omega
theorem enc_le {m : Mg} (h : mayM m = true) : (enc m).length ≤ 2000 := by
  have h0 := layH_le m
  have hp : ∀ i ∈ pof m.kd, (layP i m).length ≤ 1290 ∧ (i ≠ 4 → (layP i m).length ≤ 250) := fun i hi => layP_le (may_parts h i hi)
  have hk := may_kind h
  unfold enc
  rw [List.length_append]
  rcases hk with e | e | e | e | e | e | e | e | e | e | e | e <;> rw [e] at hp ⊢ <;> simp [pof] at hp ⊢ <;> omega
theorem ret_seal {a b : ByteArray} {k l : Int} (h : a = b) (h' : k = l) : Ending.returned (.tuple #[.string a, .int .i64 k]) = .returned (.tuple #[.string b, .int .i64 l]) := by rw [h, h']
set_option maxRecDepth 100000 in
set_option maxHeartbeats 4000000 in
theorem write_no (m : Mg) (u : Value) (w : World) (h : MsgV w u m) (hm : mayM m = false) : Calls Tryd.prog 10 #[u] w fun e w' => e = .returned (.tuple #[.string ⟨#[]⟩, .int .i64 1]) ∧ Below w.heap.size w w' := by
  have hMV := h
  obtain ⟨A, cA, T, cT, rfl, hA, hT, l1, l2, l3⟩ := h
  have HB0 : Hid (Below w.heap.size w (w.alloc (.cells #[.int .i64 m.kd, .int .i64 m.fr, .int .i64 m.to, .int .u64 (m.sq : Int), .int .i64 m.wh, .int .u64 m.k.i, .int .i64 m.k.s, (.slice A m.ns.length cA), (.slice T m.tb.length cT), .int .u64 (m.ep : Int), .int .u64 (m.bo : Int), .int .i64 m.ak, .string m.ts, .int .u64 (m.tn : Int), .bool m.gd] 28))) := Lib.hid ((Below.refl _ _).alloc (Nat.le_refl _) _)
  have HR0 : Hid (Row (w.alloc (.cells #[.int .i64 m.kd, .int .i64 m.fr, .int .i64 m.to, .int .u64 (m.sq : Int), .int .i64 m.wh, .int .u64 m.k.i, .int .i64 m.k.s, (.slice A m.ns.length cA), (.slice T m.tb.length cT), .int .u64 (m.ep : Int), .int .u64 (m.bo : Int), .int .i64 m.ak, .string m.ts, .int .u64 (m.tn : Int), .bool m.gd] 28)) w.heap.size [.int .i64 m.kd, .int .i64 m.fr, .int .i64 m.to, .int .u64 (m.sq : Int), .int .i64 m.wh, .int .u64 m.k.i, .int .i64 m.k.s, (.slice A m.ns.length cA), (.slice T m.tb.length cT), .int .u64 (m.ep : Int), .int .u64 (m.bo : Int), .int .i64 m.ak, .string m.ts, .int .u64 (m.tn : Int), .bool m.gd]) := Lib.hid (Row.new w _ _)
  have HV0 : Hid (MsgV (w.alloc (.cells #[.int .i64 m.kd, .int .i64 m.fr, .int .i64 m.to, .int .u64 (m.sq : Int), .int .i64 m.wh, .int .u64 m.k.i, .int .i64 m.k.s, (.slice A m.ns.length cA), (.slice T m.tb.length cT), .int .u64 (m.ep : Int), .int .u64 (m.bo : Int), .int .i64 m.ak, .string m.ts, .int .u64 (m.tn : Int), .bool m.gd] 28)) (mvv m (.slice A m.ns.length cA) (.slice T m.tb.length cT)) m) := Lib.hid (hMV.on HB0.out)
  have z0 : w.heap.size < (w.alloc (.cells #[.int .i64 m.kd, .int .i64 m.fr, .int .i64 m.to, .int .u64 (m.sq : Int), .int .i64 m.wh, .int .u64 m.k.i, .int .i64 m.k.s, (.slice A m.ns.length cA), (.slice T m.tb.length cT), .int .u64 (m.ep : Int), .int .u64 (m.bo : Int), .int .i64 m.ak, .string m.ts, .int .u64 (m.tn : Int), .bool m.gd] 28)).heap.size := by simp
  have HCK := Lib.hid (fun (W : World) (h : MsgV W (mvv m (.slice A m.ns.length cA) (.slice T m.tb.length cT)) m) => check_msg m _ W h)
  have ho : okE (mayM m) = 1 := by rw [hm]; rfl
  rw [ho] at HCK
  clear hMV hA hT l1 l2 l3 hm ho
  unfold mvv at HV0 HCK ⊢
  go_enter Tryd.func10, Tryd.ntmps10
  go_upto_region 1 with (fail)
  generalize w.alloc (.cells #[.int .i64 m.kd, .int .i64 m.fr, .int .i64 m.to, .int .u64 (m.sq : Int), .int .i64 m.wh, .int .u64 m.k.i, .int .i64 m.k.s, (.slice A m.ns.length cA), (.slice T m.tb.length cT), .int .u64 (m.ep : Int), .int .u64 (m.bo : Int), .int .i64 m.ak, .string m.ts, .int .u64 (m.tn : Int), .bool m.gd] 28) = w0 at *
  have k0 := HR0.out.at_ 0 _ rfl
  have k1 := HR0.out.at_ 1 _ rfl
  have k2 := HR0.out.at_ 2 _ rfl
  have k3 := HR0.out.at_ 3 _ rfl
  have k4 := HR0.out.at_ 4 _ rfl
  have k5 := HR0.out.at_ 5 _ rfl
  have k6 := HR0.out.at_ 6 _ rfl
  have k7 := HR0.out.at_ 7 _ rfl
  have k8 := HR0.out.at_ 8 _ rfl
  have k9 := HR0.out.at_ 9 _ rfl
  have k10 := HR0.out.at_ 10 _ rfl
  have k11 := HR0.out.at_ 11 _ rfl
  have k12 := HR0.out.at_ 12 _ rfl
  have k13 := HR0.out.at_ 13 _ rfl
  have k14 := HR0.out.at_ 14 _ rfl
  go_wp2_with (go_at_call 11; refine (HCK.out _ HV0.out).mono ?_; rintro e w1 ⟨rfl, hb1⟩)
  go_ret2
  exact ⟨rfl, HB0.out.trans (hb1.mono (Nat.le_of_lt z0))⟩
set_option maxRecDepth 100000 in
set_option maxHeartbeats 4000000 in
theorem write_yes (m : Mg) (u : Value) (w : World) (h : MsgV w u m) (hw : Wf m) (hm : mayM m = true) (htab : Tab w) : Calls Tryd.prog 10 #[u] w fun e w' => e = .returned (.tuple #[.string (sealB (tx (enc m))), .int .i64 0]) ∧ Below w.heap.size w w' := by
  have hMV := h
  obtain ⟨A, cA, T, cT, rfl, hA, hT, l1, l2, l3⟩ := h
  have HB0 : Hid (Below w.heap.size w (w.alloc (.cells #[.int .i64 m.kd, .int .i64 m.fr, .int .i64 m.to, .int .u64 (m.sq : Int), .int .i64 m.wh, .int .u64 m.k.i, .int .i64 m.k.s, (.slice A m.ns.length cA), (.slice T m.tb.length cT), .int .u64 (m.ep : Int), .int .u64 (m.bo : Int), .int .i64 m.ak, .string m.ts, .int .u64 (m.tn : Int), .bool m.gd] 28))) := Lib.hid ((Below.refl _ _).alloc (Nat.le_refl _) _)
  have HR0 : Hid (Row (w.alloc (.cells #[.int .i64 m.kd, .int .i64 m.fr, .int .i64 m.to, .int .u64 (m.sq : Int), .int .i64 m.wh, .int .u64 m.k.i, .int .i64 m.k.s, (.slice A m.ns.length cA), (.slice T m.tb.length cT), .int .u64 (m.ep : Int), .int .u64 (m.bo : Int), .int .i64 m.ak, .string m.ts, .int .u64 (m.tn : Int), .bool m.gd] 28)) w.heap.size [.int .i64 m.kd, .int .i64 m.fr, .int .i64 m.to, .int .u64 (m.sq : Int), .int .i64 m.wh, .int .u64 m.k.i, .int .i64 m.k.s, (.slice A m.ns.length cA), (.slice T m.tb.length cT), .int .u64 (m.ep : Int), .int .u64 (m.bo : Int), .int .i64 m.ak, .string m.ts, .int .u64 (m.tn : Int), .bool m.gd]) := Lib.hid (Row.new w _ _)
  have HV0 : Hid (MsgV (w.alloc (.cells #[.int .i64 m.kd, .int .i64 m.fr, .int .i64 m.to, .int .u64 (m.sq : Int), .int .i64 m.wh, .int .u64 m.k.i, .int .i64 m.k.s, (.slice A m.ns.length cA), (.slice T m.tb.length cT), .int .u64 (m.ep : Int), .int .u64 (m.bo : Int), .int .i64 m.ak, .string m.ts, .int .u64 (m.tn : Int), .bool m.gd] 28)) (mvv m (.slice A m.ns.length cA) (.slice T m.tb.length cT)) m) := Lib.hid (hMV.on HB0.out)
  have z0 : w.heap.size < (w.alloc (.cells #[.int .i64 m.kd, .int .i64 m.fr, .int .i64 m.to, .int .u64 (m.sq : Int), .int .i64 m.wh, .int .u64 m.k.i, .int .i64 m.k.s, (.slice A m.ns.length cA), (.slice T m.tb.length cT), .int .u64 (m.ep : Int), .int .u64 (m.bo : Int), .int .i64 m.ak, .string m.ts, .int .u64 (m.tn : Int), .bool m.gd] 28)).heap.size := by simp
  have HCK := Lib.hid (fun (W : World) (h : MsgV W (mvv m (.slice A m.ns.length cA) (.slice T m.tb.length cT)) m) => check_msg m _ W h)
  have ho : okE (mayM m) = 0 := by rw [hm]; rfl
  rw [ho] at HCK
  have HTb := Lib.hid (htab.on HB0.out)
  have hkd : 0 ≤ m.kd ∧ m.kd ≤ 12 := by have := may_kind hm; omega
  have hN : (0 ≤ m.fr ∧ m.fr < 64) ∧ 0 ≤ m.to ∧ m.to < 64 := by
    have := hm
    unfold mayM headB at this
    simp only [Bool.and_eq_true, isN_iff] at this
    exact ⟨this.1.2.1, this.1.2.2.1⟩
  obtain ⟨a, ha⟩ : ∃ a : Nat, m.kd = (a : Int) := ⟨m.kd.toNat, (nat_of hkd.1).symm⟩
  obtain ⟨b, hb⟩ : ∃ b : Nat, m.fr = (b : Int) := ⟨m.fr.toNat, (nat_of hN.1.1).symm⟩
  obtain ⟨c, hc⟩ : ∃ c : Nat, m.to = (c : Int) := ⟨m.to.toNat, (nat_of hN.2.1).symm⟩
  have ha' : a ≤ 12 := by omega
  have hb' : b < 64 := by omega
  have hc' : c < 64 := by omega
  have HNum := Lib.hid (fun (W : World) (g : Nat) => tnum3 a b c g W (by omega) (by omega) (by omega))
  have hH : num a ++ (num b ++ num c) = layH m := by unfold layH; rw [ha, hb, hc]; rfl
  rw [hH] at HNum
  have HPO := Lib.hid (fun W => partsof_any m.kd W)
  have HE : Hid (enc m = layH m ++ (pof m.kd).flatMap fun i => layP i m) := Lib.hid rfl
  have HEl := Lib.hid (enc_le hm)
  have HLm : Hid (∀ i ∈ pof m.kd, i < 11 ∧ mayP i m = true) := Lib.hid (fun i hi => ⟨pof_lt _ i hi, may_parts hm i hi⟩)
  have HL20 : Hid ((pof m.kd).length ≤ 11) := Lib.hid (by
    rcases kinds m.kd with (h | h | h | h | h | h | h | h | h | h | h | h) | ⟨_, h⟩ <;> (rw [h]; decide))
  have hHl : (tx (layH m)).size ≤ 30 := by rw [tx_size]; exact layH_le m
  have HWf := Lib.hid hw
  have HSl : Hid (∀ k, k ≤ (pof m.kd).length → (tx (layH m ++ ((pof m.kd).take k).flatMap fun i => layP i m)).size ≤ 2000) := Lib.hid (fun k _ => by
    rw [tx_size, List.length_append]
    have h1 := HEl.out
    rw [HE.out, List.length_append] at h1
    have h2 : (pof m.kd).flatMap (fun i => layP i m) = ((pof m.kd).take k).flatMap (fun i => layP i m) ++ ((pof m.kd).drop k).flatMap (fun i => layP i m) := by rw [← List.flatMap_append, List.take_append_drop]
    rw [h2, List.length_append] at h1
    omega)
  clear hMV hA hT l1 l2 l3 hm ho hkd hN hH hw htab
  generalize pof m.kd = L at *
  unfold mvv at HV0 HCK ⊢
  rw [ha, hb, hc] at HR0 HV0 HB0 HTb z0 HCK ⊢
  rw [ha] at HPO
  have hl0 : tx (layH m) = tx (layH m ++ (L.take 0).flatMap fun i => layP i m) := by simp
  have HL0 := Lib.hid hl0
  clear hl0
  generalize hq0 : tx (layH m) = q0 at *
  clear ha hb hc hq0
  go_enter Tryd.func10, Tryd.ntmps10
  go_upto_region 1 with (fail)
  generalize w.alloc (.cells #[.int .i64 (a : Int), .int .i64 (b : Int), .int .i64 (c : Int), .int .u64 (m.sq : Int), .int .i64 m.wh, .int .u64 m.k.i, .int .i64 m.k.s, (.slice A m.ns.length cA), (.slice T m.tb.length cT), .int .u64 (m.ep : Int), .int .u64 (m.bo : Int), .int .i64 m.ak, .string m.ts, .int .u64 (m.tn : Int), .bool m.gd] 28) = w0 at *
  have k0 := HR0.out.at_ 0 _ rfl
  have k1 := HR0.out.at_ 1 _ rfl
  have k2 := HR0.out.at_ 2 _ rfl
  have k3 := HR0.out.at_ 3 _ rfl
  have k4 := HR0.out.at_ 4 _ rfl
  have k5 := HR0.out.at_ 5 _ rfl
  have k6 := HR0.out.at_ 6 _ rfl
  have k7 := HR0.out.at_ 7 _ rfl
  have k8 := HR0.out.at_ 8 _ rfl
  have k9 := HR0.out.at_ 9 _ rfl
  have k10 := HR0.out.at_ 10 _ rfl
  have k11 := HR0.out.at_ 11 _ rfl
  have k12 := HR0.out.at_ 12 _ rfl
  have k13 := HR0.out.at_ 13 _ rfl
  have k14 := HR0.out.at_ 14 _ rfl
  have wa : IntKind.u64.wrap (a : Int) = (a : Int) := IntWalk.u64_in _ ⟨by omega, by omega⟩
  have wb : IntKind.u64.wrap (b : Int) = (b : Int) := IntWalk.u64_in _ ⟨by omega, by omega⟩
  have wc : IntKind.u64.wrap (c : Int) = (c : Int) := IntWalk.u64_in _ ⟨by omega, by omega⟩
  go_wp2_with fail
  refine (HCK.out _ HV0.out).mono ?_
  rintro e w1 ⟨rfl, hb1⟩
  have HB1 : Hid (Below w.heap.size w w1) := Lib.hid (HB0.out.trans (hb1.mono (Nat.le_of_lt z0)))
  have HR1 := Lib.hid (HR0.out.on hb1 (show 0 < 15 by decide))
  have HV1 := Lib.hid (HV0.out.on hb1)
  have HT1 := Lib.hid (HTb.out.on hb1)
  clear hb1 HB0 HR0 HV0 z0 HTb HCK k0 k1 k2 k3 k4 k5 k6 k7 k8 k9 k10 k11 k12 k13 k14
  have k0 := HR1.out.at_ 0 _ rfl
  have k1 := HR1.out.at_ 1 _ rfl
  have k2 := HR1.out.at_ 2 _ rfl
  go_upto_region 4 with (fail)
  have hb2 : Below w1.heap.size w1 (w1.alloc (.cells #[.int .u64 (a : Int), .int .u64 (b : Int), .int .u64 (c : Int)] 22)) := (Below.refl _ _).alloc (Nat.le_refl _) _
  go_wp2_with fail
  refine (HNum.out _ _ (by simp) (by go_simp) (by go_simp) (by go_simp)).mono ?_
  rintro e w2 ⟨rfl, hb3⟩
  have hb4 := hb2.trans (hb3.mono hb2.size)
  have HB2 : Hid (Below w.heap.size w w2) := Lib.hid (HB1.out.trans (hb4.mono HB1.out.size))
  have HR2 := Lib.hid (HR1.out.on hb4 (show 0 < 15 by decide))
  have HV2 := Lib.hid (HV1.out.on hb4)
  have HT2 := Lib.hid (HT1.out.on hb4)
  clear hb2 hb3 hb4 HB1 HR1 HV1 HT1 HNum k0 k1 k2 wa wb wc
  go_wp2_with fail
  refine (parts_any _).mono ?_
  rintro e wP ⟨g, rfl, hgB, hTab, hb⟩
  have HTab := Lib.hid hTab
  have HB3 : Hid (Below w.heap.size w wP) := Lib.hid (HB2.out.trans (hb.mono HB2.out.size))
  have HR3 := Lib.hid (HR2.out.on hb (show 0 < 15 by decide))
  have HV3 := Lib.hid (HV2.out.on hb)
  have HT3 := Lib.hid (HT2.out.on hb)
  clear hTab hgB hb HB2 HR2 HV2 HT2
  generalize w2.heap.size = B at *
  have k0 := HR3.out.at_ 0 _ rfl
  go_wp2_with fail
  refine (HPO.out _).mono ?_
  rintro e w4 ⟨LA, Lc, rfl, hLs, _, hb⟩
  have HLs := Lib.hid hLs
  have HB4 : Hid (Below w.heap.size w w4) := Lib.hid (HB3.out.trans (hb.mono HB3.out.size))
  have HR4 := Lib.hid (HR3.out.on hb (show 0 < 15 by decide))
  have HV4 := Lib.hid (HV3.out.on hb)
  have HT4 := Lib.hid (HT3.out.on hb)
  have HPS : Hid (Below wP.heap.size wP w4) := Lib.hid hb
  clear k0 hLs hb HB3 HR3 HV3 HT3 HPO
  have hln := HL20.out
  go_wp2_with fail
  go_loopw [5, 30] (fun v i wr => ∃ (k : Nat) (q : ByteArray), v = .string q ∧ i = .int .i64 k ∧ k ≤ L.length ∧ q.size ≤ 2000 ∧ Hid (q = tx (layH m ++ (L.take k).flatMap fun i => layP i m)) ∧ Hid (Below w4.heap.size w4 wr)) (fun _ i _ => L.length - (intOf i).toNat)
  case atStart => exact ⟨0, q0, rfl, rfl, Nat.zero_le _, by omega, HL0, Lib.hid (Below.refl _ _)⟩
  case round =>
    obtain ⟨k, q, rfl, rfl, hk, hqs, hq, hbr⟩ := hrel
    by_cases hlt : k < L.length
    · obtain ⟨ad, rfl, hlo, hcell⟩ := (HLs.out.on hbr.out) k hlt
      have hge : L.getD k 0 = L[k] := by simp [List.getD, hlt]
      have hmi := HLm.out (L.getD k 0) (by rw [hge]; exact List.getElem_mem hlt)
      have HN : Hid (tx (layH m ++ (L.take (k + 1)).flatMap fun i => layP i m) = tx (layH m ++ (L.take k).flatMap fun i => layP i m) ++ tx (layP (L.getD k 0) m)) := Lib.hid (by
        rw [tx_app, List.take_succ_eq_append_getElem hlt, List.flatMap_append, hge, List.append_assoc]
        simp)
      have HS2 := HSl.out (k + 1) (by omega)
      have hzz : (tx (layP (L.getD k 0) m)).size ≤ 1290 := by rw [tx_size]; exact (layP_le hmi.2).1
      clear hge
      generalize L.getD k 0 = i at *
      obtain ⟨f, hM, hdom, hsem⟩ := HTab.out
      obtain ⟨v, hv⟩ : ∃ v, f (i : Int) = some v := by
        have := (hdom (i : Int)).2 ⟨by omega, by omega⟩
        exact Option.isSome_iff_exists.1 this
      obtain ⟨nm, nz, nl, nt, cm, cz, cl, ct, rfl, ⟨_, _, hel, _⟩, hW⟩ := hsem i v hmi.1 hv
      have hbP : Below wP.heap.size wP wr := HPS.out.trans (hbr.out.mono HPS.out.size)
      have hlook := (hM.on hbP).look (i : Int) ⟨by omega, by omega⟩ _ hv
      have HV5 := HV4.out.on hbr.out
      have HC := Lib.hid ((hW wr (Same.below hbP)).2.2.1 m _ HV5 HWf.out hmi.2)
      have hel' : ∀ (args : Array Value) (w : World), (callFunc nl args).run Tryd.prog w = .ok (.enter nl args) w := hel
      have HR5 := HR4.out.on hbr.out (show 0 < 15 by decide)
      have hfd : ∀ W : World, (Instr.field 57 (.agg #[.func (.func nm) #[] cm.toArray, .func (.func nz) #[] cz.toArray, .func (.func nl) #[] cl.toArray, .func (.func nt) #[] ct.toArray]) 2).run Tryd.prog W = .ok (.func (.func nl) #[] cl.toArray) W := fun W => by kernel_rfl
      have x0 := HR5.at_ 0 _ rfl
      have x1 := HR5.at_ 1 _ rfl
      have x2 := HR5.at_ 2 _ rfl
      have x3 := HR5.at_ 3 _ rfl
      have x4 := HR5.at_ 4 _ rfl
      have x5 := HR5.at_ 5 _ rfl
      have x6 := HR5.at_ 6 _ rfl
      have x7 := HR5.at_ 7 _ rfl
      have x8 := HR5.at_ 8 _ rfl
      have x9 := HR5.at_ 9 _ rfl
      have x10 := HR5.at_ 10 _ rfl
      have x11 := HR5.at_ 11 _ rfl
      have x12 := HR5.at_ 12 _ rfl
      have x13 := HR5.at_ 13 _ rfl
      have x14 := HR5.at_ 14 _ rfl
      have k0' : (0 : Int) ≤ (k : Int) := by omega
      have k1' : (k : Int) < (L.length : Int) := by omega
      have e0 : decide ((k : Int) < (L.length : Int)) = true := by simpa using k1'
      have e0' : decide (k < L.length) = true := by simpa using hlt
      generalize hz : tx (layP i m) = z at *
      clear hW hel hM hdom hsem hv HV5 HR5 hbP hmi hz
      go_wp2_with (go_at_fn nl; refine HC.out.mono ?_; rintro e w5 ⟨rfl, hb5⟩)
      go_roundw
      case rel => exact ⟨k + 1, q ++ z, rfl, by go_num, by omega, by rw [hq.out, ← HN.out]; exact HS2, Lib.hid (by rw [hq.out, HN.out]), Lib.hid (hbr.out.trans (hb5.mono hbr.out.size))⟩
      case measure => simp [intOf]; omega
    · have hkl : k = L.length := by omega
      have e0 : decide ((k : Int) < (L.length : Int)) = false := by simp; omega
      have e0' : decide (k < L.length) = false := by simpa using hlt
      have HQ : Hid (tx (enc m) = q) := Lib.hid (by rw [hq.out, hkl, List.take_length, HE.out])
      have HSe := Lib.hid (seal_in q wr (by omega) (HT4.out.on hbr.out))
      clear hkl
      go_wp2_with (go_at_call 25; refine HSe.out.mono ?_; rintro e w5 ⟨rfl, hb5⟩)
      go_ret2
      have hb6 := hbr.out.trans (hb5.mono hbr.out.size)
      exact ⟨ret_seal (by rw [HQ.out]) rfl, HB4.out.trans (hb6.mono HB4.out.size)⟩
end Go.Proofs.YtjeepmdklbfgeaaDoor

namespace Go.Proofs.YtjeepmdklbfgeaaDoor
open Go.Sort Go.RowKit Go.Proofs.YtjeepmdklbfgeaaDoor.Pure Go.Proofs.YtjeepmdklbfgeaaDoor.W Go.Proofs.YtjeepmdklbfgeaaDoor.W.Pure

theorem MpN.blk {w w' : World} {g n : Nat} {f : Int → Option Value} (h : MpN w g n f) (hb : w'.heap[g]? = w.heap[g]?) : MpN w' g n f := by
  obtain ⟨D, ⟨es, clock, h1, h2⟩, h3⟩ := h
  exact ⟨D, ⟨es, clock, hb.trans h1, h2⟩, h3⟩
theorem Is.kp {w w' : World} {A : Option Addr} {xs : List Nat} {S : List Nat} (h : Is w A xs) (hk : Kp w.heap.size S w w') (hS : ∀ ad, A = some ad → ¬ ad.block ∈ S) : Is w' A xs := fun j hj => by
  obtain ⟨ad, e, h1, h2⟩ := h j hj
  exact ⟨ad, e, Nat.lt_of_lt_of_le h1 hk.size, (hk.cell (by rw [block_add]; exact h1) (by rw [block_add]; exact hS ad e)).trans h2⟩
theorem dec_zero (s : ByteArray) (L : List Nat) (k : Nat) (x : Mg × Tk) (h : k < L.length) : decL s (L.take (k + 1)) x = takeP s (L.getD k 0) (decL s (L.take k) x).1 (decL s (L.take k) x).2 := by
  rw [List.take_succ_eq_append_getElem h]
  unfold decL
  rw [List.foldl_append]
  simp [List.getD, h]
/-- The state of what is taken. -/
structure Sta (w0 w : World) (bt r bm : Nat) (s : ByteArray) (x : Mg × Tk) : Prop where
  t : TkAt w bt s x.2
  m : ∃ nv tv, MD w bm x.1 nv tv
  k : Kp w0.heap.size [bt] w0 w
  r : Row w r [.int .i64 0, .int .i64 0, .int .i64 0, .int .u64 0, .int .i64 0, .int .u64 0, .int .i64 0, .slice none 0 0, .slice none 0 0, .int .u64 0, .int .u64 0, .int .i64 0, .string ⟨#[]⟩, .int .u64 0, .bool false]
theorem Sta.left {w0 w w' : World} {bt r bm : Nat} {s : ByteArray} {x y : Mg × Tk} (h : Sta w0 w bt r bm s x) (hl : LeftM w bt s bm y w') (h0 : w0.heap.size ≤ bm) (hs : w0.heap.size ≤ w.heap.size) (hr : r ≠ bt ∧ r ≠ bm) : Sta w0 w' bt r bm s y :=
  ⟨hl.1, hl.2.1, h.k.trans (hl.2.2.mono hs (fun k hk hm => by simp at hm ⊢; omega)), h.r.kp hl.2.2 (h.r.lt (show 0 < 15 by decide)) (by simp; exact hr)⟩
theorem Sta.on {w0 w w' : World} {bt r bm : Nat} {s : ByteArray} {x : Mg × Tk} (h : Sta w0 w bt r bm s x) (hb : Below w.heap.size w w') (hs : w0.heap.size ≤ w.heap.size) : Sta w0 w' bt r bm s x := by
  obtain ⟨nv, tv, h1, h2, h3⟩ := h.m
  exact ⟨h.t.on hb, ⟨nv, tv, h1.on hb (show 0 < 15 by decide), h2.on hb, h3.on hb⟩, h.k.trans (Kp.of (hb.mono hs)), h.r.on hb (show 0 < 15 by decide)⟩
set_option maxRecDepth 100000 in
set_option maxHeartbeats 4000000 in
theorem message_any (s : ByteArray) (bt : Nat) (w : World) (hs : s.size ≤ 140737488351232) (hT : TkAt w bt s t0) :
    Calls Tryd.prog 40 #[.pointer (some ⟨bt, 0, none⟩)] w fun e w' => ∃ nv tv, e = .returned (mvv (dec s).1 nv tv) ∧ OwnN w' w.heap.size nv (dec s).1.ns ∧ Own w' w.heap.size tv (dec s).1.tb ∧ Took w bt s (dec s).2 w' := by
  obtain ⟨r, er⟩ : ∃ r, r = w.heap.size := ⟨_, rfl⟩
  obtain ⟨bm, ebm⟩ : ∃ bm, bm = w.heap.size + 1 := ⟨_, rfl⟩
  have hlt := hT.lt
  have hbt : bt < r ∧ r < bm ∧ bt < bm := by omega
  have HN1 := Lib.hid (fun (W : World) (h : TkAt W bt s t0) => number_any bt 12 s t0 W hs (Nat.zero_le _) h)
  have HN2 := Lib.hid (fun (W : World) (h : TkAt W bt s (tnum s 12 t0).2) => node_any bt s _ W hs (tnum_le s _ _ (Nat.zero_le _)) h)
  have HN3 := Lib.hid (fun (W : World) (h : TkAt W bt s (tnum s 63 (tnum s 12 t0).2).2) => node_any bt s _ W hs (tnum_le s _ _ (tnum_le s _ _ (Nat.zero_le _))) h)
  have hDH : decH s = ({ zm with kd := (tnum s 12 t0).1, fr := (tnum s 63 (tnum s 12 t0).2).1, «to» := (tnum s 63 (tnum s 63 (tnum s 12 t0).2).2).1 }, (tnum s 63 (tnum s 63 (tnum s 12 t0).2).2).2) := rfl
  have HLe : Hid (∀ L : List Nat, (decL s L (decH s)).2.p ≤ s.size) := Lib.hid (fun L => decL_le s L _ (decH_le s))
  have hD : dec s = decL s (pof (decH s).1.kd) (decH s) := rfl
  have hkd : (decH s).1.kd = ((tnum s 12 t0).1 : Int) := rfl
  have hm1 := tnum_most s 12 t0
  have HPO := Lib.hid (fun W => partsof_any ((tnum s 12 t0).1 : Int) W)
  rw [hkd] at hD
  have HL11 : Hid (∀ i ∈ pof ((tnum s 12 t0).1 : Int), i < 11) := Lib.hid (fun i hi => pof_lt _ i hi)
  have HL20 : Hid ((pof ((tnum s 12 t0).1 : Int)).length ≤ 11) := Lib.hid (by
    rcases kinds ((tnum s 12 t0).1 : Int) with (h | h | h | h | h | h | h | h | h | h | h | h) | ⟨_, h⟩ <;> (rw [h]; decide))
  have HDZ : Hid (∀ k, k < (pof ((tnum s 12 t0).1 : Int)).length → decL s ((pof ((tnum s 12 t0).1 : Int)).take (k + 1)) (decH s) = takeP s ((pof ((tnum s 12 t0).1 : Int)).getD k 0) (decL s ((pof ((tnum s 12 t0).1 : Int)).take k) (decH s)).1 (decL s ((pof ((tnum s 12 t0).1 : Int)).take k) (decH s)).2) := Lib.hid (fun k hk => dec_zero s _ k _ hk)
  have HD0 : Hid (decL s ((pof ((tnum s 12 t0).1 : Int)).take 0) (decH s) = decH s) := Lib.hid rfl
  rw [hD]
  generalize pof ((tnum s 12 t0).1 : Int) = L at *
  obtain ⟨x0, hx0⟩ : ∃ x0, x0 = decH s := ⟨_, rfl⟩
  rw [← hx0] at hDH HLe HDZ HD0 ⊢
  have HX0 := Lib.hid hDH
  clear hD hkd hx0 hDH
  generalize (tnum s 63 (tnum s 63 (tnum s 12 t0).2).2).1 = n3 at *
  generalize (tnum s 63 (tnum s 63 (tnum s 12 t0).2).2).2 = t3 at *
  generalize (tnum s 63 (tnum s 12 t0).2).1 = n2 at *
  generalize (tnum s 63 (tnum s 12 t0).2).2 = t2 at *
  generalize (tnum s 12 t0).1 = n1 at *
  generalize (tnum s 12 t0).2 = t1 at *
  have hba : Below w.heap.size w ((w.alloc (.cells #[.int .i64 0, .int .i64 0, .int .i64 0, .int .u64 0, .int .i64 0, .int .u64 0, .int .i64 0, .slice none 0 0, .slice none 0 0, .int .u64 0, .int .u64 0, .int .i64 0, .string ⟨#[]⟩, .int .u64 0, .bool false] 28)).alloc (.cells #[.int .i64 0, .int .i64 0, .int .i64 0, .int .u64 0, .int .i64 0, .int .u64 0, .int .i64 0, .slice none 0 0, .slice none 0 0, .int .u64 0, .int .u64 0, .int .i64 0, .string ⟨#[]⟩, .int .u64 0, .bool false] 28)) := ((Below.refl _ _).alloc (Nat.le_refl _) _).alloc (by simp) _
  have HS0 : Hid (Sta w ((w.alloc (.cells #[.int .i64 0, .int .i64 0, .int .i64 0, .int .u64 0, .int .i64 0, .int .u64 0, .int .i64 0, .slice none 0 0, .slice none 0 0, .int .u64 0, .int .u64 0, .int .i64 0, .string ⟨#[]⟩, .int .u64 0, .bool false] 28)).alloc (.cells #[.int .i64 0, .int .i64 0, .int .i64 0, .int .u64 0, .int .i64 0, .int .u64 0, .int .i64 0, .slice none 0 0, .slice none 0 0, .int .u64 0, .int .u64 0, .int .i64 0, .string ⟨#[]⟩, .int .u64 0, .bool false] 28)) bt r bm s (zm, t0)) := Lib.hid (by
    have hr1 : Row (w.alloc (.cells #[.int .i64 0, .int .i64 0, .int .i64 0, .int .u64 0, .int .i64 0, .int .u64 0, .int .i64 0, .slice none 0 0, .slice none 0 0, .int .u64 0, .int .u64 0, .int .i64 0, .string ⟨#[]⟩, .int .u64 0, .bool false] 28)) r [.int .i64 0, .int .i64 0, .int .i64 0, .int .u64 0, .int .i64 0, .int .u64 0, .int .i64 0, .slice none 0 0, .slice none 0 0, .int .u64 0, .int .u64 0, .int .i64 0, .string ⟨#[]⟩, .int .u64 0, .bool false] := er ▸ Row.new w _ _
    have hr2 := Row.new (w.alloc (.cells #[.int .i64 0, .int .i64 0, .int .i64 0, .int .u64 0, .int .i64 0, .int .u64 0, .int .i64 0, .slice none 0 0, .slice none 0 0, .int .u64 0, .int .u64 0, .int .i64 0, .string ⟨#[]⟩, .int .u64 0, .bool false] 28)) #[.int .i64 0, .int .i64 0, .int .i64 0, .int .u64 0, .int .i64 0, .int .u64 0, .int .i64 0, .slice none 0 0, .slice none 0 0, .int .u64 0, .int .u64 0, .int .i64 0, .string ⟨#[]⟩, .int .u64 0, .bool false] 28
    have hr3 : Row ((w.alloc (.cells #[.int .i64 0, .int .i64 0, .int .i64 0, .int .u64 0, .int .i64 0, .int .u64 0, .int .i64 0, .slice none 0 0, .slice none 0 0, .int .u64 0, .int .u64 0, .int .i64 0, .string ⟨#[]⟩, .int .u64 0, .bool false] 28)).alloc (.cells #[.int .i64 0, .int .i64 0, .int .i64 0, .int .u64 0, .int .i64 0, .int .u64 0, .int .i64 0, .slice none 0 0, .slice none 0 0, .int .u64 0, .int .u64 0, .int .i64 0, .string ⟨#[]⟩, .int .u64 0, .bool false] 28)) bm [.int .i64 0, .int .i64 0, .int .i64 0, .int .u64 0, .int .i64 0, .int .u64 0, .int .i64 0, .slice none 0 0, .slice none 0 0, .int .u64 0, .int .u64 0, .int .i64 0, .string ⟨#[]⟩, .int .u64 0, .bool false] := by
      have e : (w.alloc (.cells #[.int .i64 0, .int .i64 0, .int .i64 0, .int .u64 0, .int .i64 0, .int .u64 0, .int .i64 0, .slice none 0 0, .slice none 0 0, .int .u64 0, .int .u64 0, .int .i64 0, .string ⟨#[]⟩, .int .u64 0, .bool false] 28)).heap.size = bm := by simp; omega
      rw [e] at hr2; exact hr2
    exact ⟨hT.on hba, ⟨.slice none 0 0, .slice none 0 0, hr3, OwnN.nil _ _, Own.nil _ _⟩, Kp.of hba, hr1.on ((Below.refl _ _).alloc (Nat.le_refl _) _) (show 0 < 15 by decide)⟩)
  have z0 : w.heap.size ≤ ((w.alloc (.cells #[.int .i64 0, .int .i64 0, .int .i64 0, .int .u64 0, .int .i64 0, .int .u64 0, .int .i64 0, .slice none 0 0, .slice none 0 0, .int .u64 0, .int .u64 0, .int .i64 0, .string ⟨#[]⟩, .int .u64 0, .bool false] 28)).alloc (.cells #[.int .i64 0, .int .i64 0, .int .i64 0, .int .u64 0, .int .i64 0, .int .u64 0, .int .i64 0, .slice none 0 0, .slice none 0 0, .int .u64 0, .int .u64 0, .int .i64 0, .string ⟨#[]⟩, .int .u64 0, .bool false] 28)).heap.size := hba.size
  have HEr := Lib.hid er
  have HEb : Hid (w.heap.size ≤ bm) := Lib.hid (by omega)
  have HEm := Lib.hid ebm
  clear hT hba hlt
  go_enter Tryd.func40, Tryd.ntmps40
  go_upto_region 2 with (fail)
  generalize (w.alloc (.cells #[.int .i64 0, .int .i64 0, .int .i64 0, .int .u64 0, .int .i64 0, .int .u64 0, .int .i64 0, .slice none 0 0, .slice none 0 0, .int .u64 0, .int .u64 0, .int .i64 0, .string ⟨#[]⟩, .int .u64 0, .bool false] 28)).alloc (.cells #[.int .i64 0, .int .i64 0, .int .i64 0, .int .u64 0, .int .i64 0, .int .u64 0, .int .i64 0, .slice none 0 0, .slice none 0 0, .int .u64 0, .int .u64 0, .int .i64 0, .string ⟨#[]⟩, .int .u64 0, .bool false] 28) = w0 at *
  rw [← ebm, ← er]
  clear ebm er
  -- kind
  go_wp2_with fail
  refine (HN1.out _ HS0.out.t).mono ?_
  rintro e w1 ⟨rfl, hTk⟩
  obtain ⟨nv, tv, hM⟩ := HS0.out.m
  have hM1 := hM.took hTk hbt.2.2
  have wk : IntKind.i64.wrap (n1 : Int) = (n1 : Int) := IntWalk.i64_in _ ⟨by omega, by omega⟩
  have HS1 : Hid (Sta w (w1.setCell ⟨bm, 0, none⟩ (.int .i64 (n1 : Int))) bt r bm s ({ zm with kd := (n1 : Int) }, t1)) := Lib.hid (HS0.out.left (left_set hTk hM1 hbt.2.2 0 _ (by decide) rfl hM1.2.1 hM1.2.2) HEb.out z0 ⟨by omega, by omega⟩)
  have c0 := hM1.1.at_ 0 _ rfl
  have cf := hM1.1.2
  have z1 : w.heap.size ≤ (w1.setCell ⟨bm, 0, none⟩ (.int .i64 (n1 : Int))).heap.size := by have := hTk.2.size; simp; omega
  clear hTk hM hM1 HS0 HN1 z0
  go_upto_region 3 with (fail)
  generalize w1.setCell ⟨bm, 0, none⟩ (.int .i64 (n1 : Int)) = w2 at *
  clear c0 cf wk
  -- from
  go_wp2_with fail
  refine (HN2.out _ HS1.out.t).mono ?_
  rintro e w3 ⟨rfl, hTk⟩
  obtain ⟨nv, tv, hM⟩ := HS1.out.m
  have hM1 := hM.took hTk hbt.2.2
  have HS2 : Hid (Sta w (w3.setCell ⟨bm, 1, none⟩ (.int .i64 (n2 : Int))) bt r bm s ({ zm with kd := (n1 : Int), fr := (n2 : Int) }, t2)) := Lib.hid (HS1.out.left (left_set hTk hM1 hbt.2.2 1 _ (by decide) rfl hM1.2.1 hM1.2.2) HEb.out z1 ⟨by omega, by omega⟩)
  have c1 := hM1.1.at_ 1 _ rfl
  have cf := hM1.1.2
  have z2 : w.heap.size ≤ (w3.setCell ⟨bm, 1, none⟩ (.int .i64 (n2 : Int))).heap.size := by have := hTk.2.size; simp; omega
  clear hTk hM hM1 HS1 HN2 z1
  go_upto_region 4 with (fail)
  generalize w3.setCell ⟨bm, 1, none⟩ (.int .i64 (n2 : Int)) = w4 at *
  clear c1 cf
  -- to
  go_wp2_with fail
  refine (HN3.out _ HS2.out.t).mono ?_
  rintro e w5 ⟨rfl, hTk⟩
  obtain ⟨nv, tv, hM⟩ := HS2.out.m
  have hM1 := hM.took hTk hbt.2.2
  have HS3 : Hid (Sta w (w5.setCell ⟨bm, 2, none⟩ (.int .i64 (n3 : Int))) bt r bm s x0) := Lib.hid (by rw [HX0.out]; exact HS2.out.left (left_set hTk hM1 hbt.2.2 2 _ (by decide) rfl hM1.2.1 hM1.2.2) HEb.out z2 ⟨by omega, by omega⟩)
  have HKd : Hid (x0.1.kd = (n1 : Int)) := Lib.hid (by rw [HX0.out])
  have c2 := hM1.1.at_ 2 _ rfl
  have cf := hM1.1.2
  have z3 : w.heap.size ≤ (w5.setCell ⟨bm, 2, none⟩ (.int .i64 (n3 : Int))).heap.size := by have := hTk.2.size; simp; omega
  clear hTk hM hM1 HS2 HN3 z2
  go_upto_region 5 with (fail)
  generalize w5.setCell ⟨bm, 2, none⟩ (.int .i64 (n3 : Int)) = w6 at *
  clear c2 cf
  -- the table
  go_wp2_with fail
  refine (parts_any _).mono ?_
  rintro e wP ⟨g, rfl, hgB, hTab, hb⟩
  have HTab := Lib.hid hTab
  have HgB := Lib.hid hgB
  have HS4 := Lib.hid (HS3.out.on hb z3)
  have z4 : w.heap.size ≤ wP.heap.size := Nat.le_trans z3 hb.size
  have hbB : bm < w6.heap.size := by
    obtain ⟨_, _, hM⟩ := HS3.out.m
    exact hM.lt
  clear hTab hgB hb HS3 z3
  generalize w6.heap.size = B at *
  obtain ⟨nv, tv, hM⟩ := HS4.out.m
  have c0 := hM.1.at_ 0 _ rfl
  rw [HKd.out] at c0
  go_wp2_with fail
  refine (HPO.out _).mono ?_
  rintro e w7 ⟨LA, Lc, rfl, hLs, hLb, hb⟩
  have HLs := Lib.hid hLs
  have HLb : Hid (∀ ad, LA = some ad → ¬ ad.block ∈ [bt, bm]) := Lib.hid (fun ad e => by
    have := hLb ad e
    have := hM.lt
    simp; omega)
  have HS5 := Lib.hid (HS4.out.on hb z4)
  have HPS : Hid (Kp wP.heap.size [bt, bm] wP w7) := Lib.hid (Kp.of hb)
  have z5 : w.heap.size ≤ w7.heap.size := Nat.le_trans z4 hb.size
  clear hLs hLb hb HS4 hM c0 HPO z4
  have hln := HL20.out
  go_wp2_with fail
  go_loopw [22] (fun i wr => ∃ (k : Nat), i = .int .i64 k ∧ k ≤ L.length ∧ Hid (Sta w wr bt r bm s (decL s (L.take k) x0)) ∧ Hid (Kp w7.heap.size [bt, bm] w7 wr)) (fun i _ => L.length - (intOf i).toNat)
  case atStart => exact ⟨0, rfl, Nat.zero_le _, Lib.hid (by rw [HD0.out]; exact HS5.out), Lib.hid (Kp.refl _ _ _)⟩
  case round =>
    obtain ⟨k, rfl, hk, hst, hkr⟩ := hrel
    by_cases hlt : k < L.length
    · obtain ⟨ad, rfl, hlo, hcell⟩ := (HLs.out.kp hkr.out HLb.out) k hlt
      have hge : L.getD k 0 = L[k] := by simp [List.getD, hlt]
      have hmi := HL11.out (L.getD k 0) (by rw [hge]; exact List.getElem_mem hlt)
      have HN := Lib.hid (HDZ.out k hlt)
      have hle := HLe.out (L.take k)
      clear hge
      generalize L.getD k 0 = i at *
      generalize decL s (L.take k) x0 = x at *
      obtain ⟨f, hM, hdom, hsem⟩ := HTab.out
      obtain ⟨v, hv⟩ : ∃ v, f (i : Int) = some v := by
        have := (hdom (i : Int)).2 ⟨by omega, by omega⟩
        exact Option.isSome_iff_exists.1 this
      obtain ⟨nm, nz, nl, nt, cm, cz, cl, ct, rfl, ⟨_, _, _, het⟩, hW⟩ := hsem i v hmi hv
      have hkP : Kp wP.heap.size [bt, bm] wP wr := HPS.out.trans (hkr.out.mono HPS.out.size (fun _ _ h => h))
      have hSame : Same B wP wr := ⟨hkP.size, fun j h1 h2 => hkP.block j h2 (by simp; omega)⟩
      have hlook := (hM.blk (hkP.block g hM.lt (by have := HgB.out; simp; omega))).look (i : Int) ⟨by omega, by omega⟩ _ hv
      obtain ⟨nv, tv, hMD⟩ := hst.out.m
      have HC := Lib.hid ((hW wr hSame).2.2.2 s x.2 x.1 bt bm nv tv hs hle hbt.2.2 hbB hst.out.t hMD)
      have het' : ∀ (args : Array Value) (w : World), (callFunc nt args).run Tryd.prog w = .ok (.enter nt args) w := het
      have hfd : ∀ W : World, (Instr.field 57 (.agg #[.func (.func nm) #[] cm.toArray, .func (.func nz) #[] cz.toArray, .func (.func nl) #[] cl.toArray, .func (.func nt) #[] ct.toArray]) 3).run Tryd.prog W = .ok (.func (.func nt) #[] ct.toArray) W := fun W => by kernel_rfl
      have k0' : (0 : Int) ≤ (k : Int) := by omega
      have k1' : (k : Int) < (L.length : Int) := by omega
      have e0 : decide ((k : Int) < (L.length : Int)) = true := by simpa using k1'
      have e0' : decide (k < L.length) = true := by simpa using hlt
      have zr : w.heap.size ≤ wr.heap.size := Nat.le_trans z5 hkr.out.size
      clear hW het hM hdom hsem hv hkP hSame hmi hMD hle
      go_wp2_with (go_at_fn nt; refine HC.out.mono ?_; rintro e w8 ⟨rfl, hL⟩)
      go_roundw
      case rel => exact ⟨k + 1, by go_num, by omega, Lib.hid (by rw [HN.out]; exact hst.out.left hL HEb.out zr ⟨by omega, by omega⟩), Lib.hid (hkr.out.trans (hL.2.2.mono hkr.out.size (fun _ _ h => h)))⟩
      case measure => simp [intOf]; omega
    · have hkl : k = L.length := by omega
      have e0 : decide ((k : Int) < (L.length : Int)) = false := by simp; omega
      have e0' : decide (k < L.length) = false := by simpa using hlt
      have HF : Hid (Sta w wr bt r bm s (decL s L x0)) := Lib.hid (by have := hst.out; rwa [hkl, List.take_length] at this)
      clear hkl hst
      obtain ⟨x, hx⟩ : ∃ x, x = decL s L x0 := ⟨_, rfl⟩
      rw [← hx] at HF
      have HXE := Lib.hid hx
      clear hx
      obtain ⟨nv, tv, hR, hN, hK⟩ := HF.out.m
      obtain ⟨NA, Nc, rfl, _, _⟩ := hN.lst
      obtain ⟨TA, Tc, rfl, _, _⟩ := hK.lst
      have hRr := HF.out.r
      have y0 := hR.at_ 0 _ rfl
      have y1 := hR.at_ 1 _ rfl
      have y2 := hR.at_ 2 _ rfl
      have y3 := hR.at_ 3 _ rfl
      have y4 := hR.at_ 4 _ rfl
      have y5 := hR.at_ 5 _ rfl
      have y6 := hR.at_ 6 _ rfl
      have y7 := hR.at_ 7 _ rfl
      have y8 := hR.at_ 8 _ rfl
      have y9 := hR.at_ 9 _ rfl
      have y10 := hR.at_ 10 _ rfl
      have y11 := hR.at_ 11 _ rfl
      have y12 := hR.at_ 12 _ rfl
      have y13 := hR.at_ 13 _ rfl
      have y14 := hR.at_ 14 _ rfl
      have r0 := hRr.at_ 0 _ rfl
      have r1 := hRr.at_ 1 _ rfl
      have r2 := hRr.at_ 2 _ rfl
      have r3 := hRr.at_ 3 _ rfl
      have r4 := hRr.at_ 4 _ rfl
      have r5 := hRr.at_ 5 _ rfl
      have r6 := hRr.at_ 6 _ rfl
      have r7 := hRr.at_ 7 _ rfl
      have r8 := hRr.at_ 8 _ rfl
      have r9 := hRr.at_ 9 _ rfl
      have r10 := hRr.at_ 10 _ rfl
      have r11 := hRr.at_ 11 _ rfl
      have r12 := hRr.at_ 12 _ rfl
      have r13 := hRr.at_ 13 _ rfl
      have r14 := hRr.at_ 14 _ rfl
      have rf := hRr.2
      have HTF := Lib.hid (And.intro HF.out.t HF.out.k)
      have HRb : Hid (w.heap.size ≤ r) := Lib.hid (by rw [HEr.out]; exact Nat.le_refl _)
      have HNF := Lib.hid hN
      have HKF := Lib.hid hK
      have hbtr : ¬ bt = r := by omega
      clear hR hN hK hRr HF
      go_wp2_with fail
      refine bodyPost_ret (v := mvv x.1 (.slice NA x.1.ns.length Nc) (.slice TA x.1.tb.length Tc)) (by simp [results, Tryd.results40, go_sem, mvv, r0, r1, r2, r3, r4, r5, r6, r7, r8, r9, r10, r11, r12, r13, r14]) rfl ?_
      rw [← HXE.out]
      refine ⟨_, _, rfl, ?_, ?_, ?_, ?_⟩
      · refine OwnN.mono ?_ (show w.heap.size ≤ bm + 1 by have := HEb.out; omega)
        iterate 15 (refine OwnN.cellFar ?_ (by omega))
        exact HNF.out
      · refine Own.mono ?_ (show w.heap.size ≤ bm + 1 by have := HEb.out; omega)
        iterate 15 (refine Own.cellFar ?_ (by omega))
        exact HKF.out
      · unfold TkAt
        iterate 15 (refine Row.other ?_ hbtr _)
        exact HTF.out.1
      · iterate 15 (refine Kp.set ?_ (.inr HRb.out) _)
        exact HTF.out.2
end Go.Proofs.YtjeepmdklbfgeaaDoor

namespace Go.Proofs.YtjeepmdklbfgeaaDoor
open Go.Sort Go.RowKit Go.Proofs.YtjeepmdklbfgeaaDoor.Pure Go.Proofs.YtjeepmdklbfgeaaDoor.W Go.Proofs.YtjeepmdklbfgeaaDoor.W.Pure

/-- A message, and an error. -/
def ReadV (w : World) (x : Mg × Nat) (e : Ending) (w' : World) : Prop := ∃ v, e = .returned (.tuple #[v, .int .i64 (x.2 : Int)]) ∧ MsgV w' v x.1 ∧ Below w.heap.size w w'
theorem msgv_zero (w : World) : MsgV w (.agg #[.int .i64 0, .int .i64 0, .int .i64 0, .int .u64 0, .int .i64 0, .int .u64 0, .int .i64 0, .slice none 0 0, .slice none 0 0, .int .u64 0, .int .u64 0, .int .i64 0, .string ⟨#[]⟩, .int .u64 0, .bool false]) zm := ⟨none, 0, none, 0, rfl, Ns.nil _ _, Lst.nil _ _, Nat.zero_le _, Nat.zero_le _, Nat.zero_le _⟩
theorem msgv_own {w : World} {B : Nat} {m : Mg} {nv tv : Value} (hN : OwnN w B nv m.ns) (hK : Own w B tv m.tb) (hs : Small m) : MsgV w (mvv m nv tv) m := by
  obtain ⟨A, c, rfl, _, h1⟩ := hN.lst
  obtain ⟨T, d, rfl, _, h2⟩ := hK.lst
  obtain ⟨s1, s2, s3⟩ := hs
  exact ⟨A, c, T, d, rfl, h1, h2, by omega, by omega, by omega⟩
set_option maxRecDepth 100000 in
set_option maxHeartbeats 4000000 in
theorem read_err (s z : ByteArray) (k : Nat) (w : World) (hk : k ≠ 0) (ht : Tab w) (hO : ∀ W : World, Tab W → Calls Tryd.prog 39 #[.string s] W fun e w' => e = .returned (.tuple #[.string z, .int .i64 (k : Int)]) ∧ Below W.heap.size W w') :
    Calls Tryd.prog 18 #[.string s] w (ReadV w (zm, k)) := by
  have HB0 : Hid (Below w.heap.size w (w.alloc (.cells #[.int .i64 0, .int .i64 0, .int .i64 0, .int .u64 0, .int .i64 0, .int .u64 0, .int .i64 0, .slice none 0 0, .slice none 0 0, .int .u64 0, .int .u64 0, .int .i64 0, .string ⟨#[]⟩, .int .u64 0, .bool false] 28))) := Lib.hid ((Below.refl _ _).alloc (Nat.le_refl _) _)
  have HR0 : Hid (Row (w.alloc (.cells #[.int .i64 0, .int .i64 0, .int .i64 0, .int .u64 0, .int .i64 0, .int .u64 0, .int .i64 0, .slice none 0 0, .slice none 0 0, .int .u64 0, .int .u64 0, .int .i64 0, .string ⟨#[]⟩, .int .u64 0, .bool false] 28)) w.heap.size [.int .i64 0, .int .i64 0, .int .i64 0, .int .u64 0, .int .i64 0, .int .u64 0, .int .i64 0, .slice none 0 0, .slice none 0 0, .int .u64 0, .int .u64 0, .int .i64 0, .string ⟨#[]⟩, .int .u64 0, .bool false]) := Lib.hid (Row.new w _ _)
  have HC := Lib.hid (hO _ (ht.on HB0.out))
  have z0 : w.heap.size < (w.alloc (.cells #[.int .i64 0, .int .i64 0, .int .i64 0, .int .u64 0, .int .i64 0, .int .u64 0, .int .i64 0, .slice none 0 0, .slice none 0 0, .int .u64 0, .int .u64 0, .int .i64 0, .string ⟨#[]⟩, .int .u64 0, .bool false] 28)).heap.size := by simp
  have e1 : ((k : Int) == 0) = false := by simp; omega
  have e2 : ((k : Int) != 0) = true := by simp; omega
  have e3 : ¬ ((k : Int) = 0) := by omega
  clear hO ht hk
  go_enter Tryd.func18, Tryd.ntmps18
  go_upto_region 1 with (fail)
  generalize w.alloc (.cells #[.int .i64 0, .int .i64 0, .int .i64 0, .int .u64 0, .int .i64 0, .int .u64 0, .int .i64 0, .slice none 0 0, .slice none 0 0, .int .u64 0, .int .u64 0, .int .i64 0, .string ⟨#[]⟩, .int .u64 0, .bool false] 28) = w0 at *
  go_wp2_with fail
  refine HC.out.mono ?_
  rintro e w1 ⟨rfl, hb1⟩
  have HB1 : Hid (Below w.heap.size w w1) := Lib.hid (HB0.out.trans (hb1.mono (Nat.le_of_lt z0)))
  have hR1 := HR0.out.on hb1 (show 0 < 15 by decide)
  have r0 := hR1.at_ 0 _ rfl
  have r1 := hR1.at_ 1 _ rfl
  have r2 := hR1.at_ 2 _ rfl
  have r3 := hR1.at_ 3 _ rfl
  have r4 := hR1.at_ 4 _ rfl
  have r5 := hR1.at_ 5 _ rfl
  have r6 := hR1.at_ 6 _ rfl
  have r7 := hR1.at_ 7 _ rfl
  have r8 := hR1.at_ 8 _ rfl
  have r9 := hR1.at_ 9 _ rfl
  have r10 := hR1.at_ 10 _ rfl
  have r11 := hR1.at_ 11 _ rfl
  have r12 := hR1.at_ 12 _ rfl
  have r13 := hR1.at_ 13 _ rfl
  have r14 := hR1.at_ 14 _ rfl
  have rf := hR1.2
  obtain ⟨r, er⟩ : ∃ r, r = w.heap.size := ⟨_, rfl⟩
  have HEr := Lib.hid er
  simp only [← er] at r0 r1 r2 r3 r4 r5 r6 r7 r8 r9 r10 r11 r12 r13 r14 rf ⊢
  clear HB0 HR0 HC z0 hb1 hR1 er
  go_wp2_with fail
  refine bodyPost_ret (v := .tuple #[.agg #[.int .i64 0, .int .i64 0, .int .i64 0, .int .u64 0, .int .i64 0, .int .u64 0, .int .i64 0, .slice none 0 0, .slice none 0 0, .int .u64 0, .int .u64 0, .int .i64 0, .string ⟨#[]⟩, .int .u64 0, .bool false], .int .i64 (k : Int)]) (by simp [results, Tryd.results18, go_sem, r0, r1, r2, r3, r4, r5, r6, r7, r8, r9, r10, r11, r12, r13, r14]) rfl ⟨_, rfl, msgv_zero _, ?_⟩
  iterate 15 (refine Below.setCell ?_ (Nat.le_of_eq HEr.out.symm) _)
  exact HB1.out
set_option maxRecDepth 100000 in
set_option maxHeartbeats 4000000 in
theorem read_got (s o : ByteArray) (w : World) (ho : o.size ≤ 140737488351232) (ht : Tab w) (hO : ∀ W : World, Tab W → Calls Tryd.prog 39 #[.string s] W fun e w' => e = .returned (.tuple #[.string o, .int .i64 0]) ∧ Below W.heap.size W w') :
    Calls Tryd.prog 18 #[.string s] w (ReadV w (if (dec o).2.b = true ∨ (dec o).2.p < o.size ∨ mayM (dec o).1 = false then (zm, 2) else ((dec o).1, 0))) := by
  have HB0 : Hid (Below w.heap.size w (w.alloc (.cells #[.int .i64 0, .int .i64 0, .int .i64 0, .int .u64 0, .int .i64 0, .int .u64 0, .int .i64 0, .slice none 0 0, .slice none 0 0, .int .u64 0, .int .u64 0, .int .i64 0, .string ⟨#[]⟩, .int .u64 0, .bool false] 28))) := Lib.hid ((Below.refl _ _).alloc (Nat.le_refl _) _)
  have HR0 : Hid (Row (w.alloc (.cells #[.int .i64 0, .int .i64 0, .int .i64 0, .int .u64 0, .int .i64 0, .int .u64 0, .int .i64 0, .slice none 0 0, .slice none 0 0, .int .u64 0, .int .u64 0, .int .i64 0, .string ⟨#[]⟩, .int .u64 0, .bool false] 28)) w.heap.size [.int .i64 0, .int .i64 0, .int .i64 0, .int .u64 0, .int .i64 0, .int .u64 0, .int .i64 0, .slice none 0 0, .slice none 0 0, .int .u64 0, .int .u64 0, .int .i64 0, .string ⟨#[]⟩, .int .u64 0, .bool false]) := Lib.hid (Row.new w _ _)
  have HC := Lib.hid (hO _ (ht.on HB0.out))
  have HM := Lib.hid (fun (W : World) (b : Nat) (h : TkAt W b o t0) => message_any o b W ho h)
  have HSm := Lib.hid (dec_small o)
  have z0 : w.heap.size < (w.alloc (.cells #[.int .i64 0, .int .i64 0, .int .i64 0, .int .u64 0, .int .i64 0, .int .u64 0, .int .i64 0, .slice none 0 0, .slice none 0 0, .int .u64 0, .int .u64 0, .int .i64 0, .string ⟨#[]⟩, .int .u64 0, .bool false] 28)).heap.size := by simp
  obtain ⟨F, hF⟩ : ∃ F : Mg × Nat, F = (if (dec o).2.b = true ∨ (dec o).2.p < o.size ∨ mayM (dec o).1 = false then (zm, 2) else ((dec o).1, 0)) := ⟨_, rfl⟩
  rw [← hF]
  generalize dec o = d at *
  obtain ⟨x, t⟩ := d
  simp only [] at hF HM HSm
  have HF := Lib.hid hF
  clear hO ht hF
  go_enter Tryd.func18, Tryd.ntmps18
  go_upto_region 1 with (fail)
  generalize w.alloc (.cells #[.int .i64 0, .int .i64 0, .int .i64 0, .int .u64 0, .int .i64 0, .int .u64 0, .int .i64 0, .slice none 0 0, .slice none 0 0, .int .u64 0, .int .u64 0, .int .i64 0, .string ⟨#[]⟩, .int .u64 0, .bool false] 28) = w0 at *
  go_wp2_with fail
  refine HC.out.mono ?_
  rintro e w1 ⟨rfl, hb1⟩
  have HB1 : Hid (Below w.heap.size w w1) := Lib.hid (HB0.out.trans (hb1.mono (Nat.le_of_lt z0)))
  have HR1 := Lib.hid (HR0.out.on hb1 (show 0 < 15 by decide))
  have z1 : w.heap.size < w1.heap.size := Nat.lt_of_lt_of_le z0 hb1.size
  clear HB0 HR0 HC z0 hb1
  go_upto_region 5 with (fail)
  have hb2 : Below w1.heap.size w1 (w1.alloc (.cells #[.string o, .int .i64 0, .bool false] 71)) := (Below.refl _ _).alloc (Nat.le_refl _) _
  have HB2 : Hid (Below w.heap.size w (w1.alloc (.cells #[.string o, .int .i64 0, .bool false] 71))) := Lib.hid (HB1.out.trans (hb2.mono HB1.out.size))
  have HR2 := Lib.hid (HR1.out.on hb2 (show 0 < 15 by decide))
  have HT2 : Hid (TkAt (w1.alloc (.cells #[.string o, .int .i64 0, .bool false] 71)) w1.heap.size o t0) := Lib.hid (Row.new w1 _ _)
  have z2 : w1.heap.size < (w1.alloc (.cells #[.string o, .int .i64 0, .bool false] 71)).heap.size := by simp
  generalize w1.alloc (.cells #[.string o, .int .i64 0, .bool false] 71) = w2 at *
  obtain ⟨b, eb⟩ : ∃ b, b = w1.heap.size := ⟨_, rfl⟩
  have hbr : w.heap.size < b := by omega
  have hbz : b < w2.heap.size := by omega
  rw [← eb] at HT2 ⊢
  clear hb2 HB1 HR1 z1 z2 eb
  go_wp2_with fail
  refine (HM.out _ _ HT2.out).mono ?_
  rintro e w3 ⟨nv, tv, rfl, hN, hK, hTk⟩
  obtain ⟨NA, Nc, rfl, _, _⟩ := hN.lst
  obtain ⟨TA, Tc, rfl, _, _⟩ := hK.lst
  have z3 := hTk.2.size
  have hB3 : Below w.heap.size w w3 := HB2.out.trans ((hTk.2.mono (S' := []) (show w.heap.size ≤ w2.heap.size by omega) (fun k hk hm => by simp at hm; omega)).below)
  have hR3 := HR2.out.kp hTk.2 (by omega) (by simp; omega)
  have hb4 : Below w3.heap.size w3 (w3.alloc (.cells #[.int .i64 x.kd, .int .i64 x.fr, .int .i64 x.to, .int .u64 (x.sq : Int), .int .i64 x.wh, .int .u64 x.k.i, .int .i64 x.k.s, (.slice NA x.ns.length Nc), (.slice TA x.tb.length Tc), .int .u64 (x.ep : Int), .int .u64 (x.bo : Int), .int .i64 x.ak, .string x.ts, .int .u64 (x.tn : Int), .bool x.gd] 28)) := (Below.refl _ _).alloc (Nat.le_refl _) _
  have HB4 : Hid (Below w.heap.size w (w3.alloc (.cells #[.int .i64 x.kd, .int .i64 x.fr, .int .i64 x.to, .int .u64 (x.sq : Int), .int .i64 x.wh, .int .u64 x.k.i, .int .i64 x.k.s, (.slice NA x.ns.length Nc), (.slice TA x.tb.length Tc), .int .u64 (x.ep : Int), .int .u64 (x.bo : Int), .int .i64 x.ak, .string x.ts, .int .u64 (x.tn : Int), .bool x.gd] 28))) := Lib.hid (hB3.trans (hb4.mono hB3.size))
  have HR4 := Lib.hid (hR3.on hb4 (show 0 < 15 by decide))
  have HT4 := Lib.hid (hTk.1.on hb4)
  have HN4 := Lib.hid (hN.on hb4)
  have HK4 := Lib.hid (hK.on hb4)
  have HX4 : Hid (Row (w3.alloc (.cells #[.int .i64 x.kd, .int .i64 x.fr, .int .i64 x.to, .int .u64 (x.sq : Int), .int .i64 x.wh, .int .u64 x.k.i, .int .i64 x.k.s, (.slice NA x.ns.length Nc), (.slice TA x.tb.length Tc), .int .u64 (x.ep : Int), .int .u64 (x.bo : Int), .int .i64 x.ak, .string x.ts, .int .u64 (x.tn : Int), .bool x.gd] 28)) w3.heap.size [.int .i64 x.kd, .int .i64 x.fr, .int .i64 x.to, .int .u64 (x.sq : Int), .int .i64 x.wh, .int .u64 x.k.i, .int .i64 x.k.s, (.slice NA x.ns.length Nc), (.slice TA x.tb.length Tc), .int .u64 (x.ep : Int), .int .u64 (x.bo : Int), .int .i64 x.ak, .string x.ts, .int .u64 (x.tn : Int), .bool x.gd]) := Lib.hid (Row.new w3 _ _)
  have hrw : w.heap.size < w2.heap.size := by omega
  unfold mvv
  clear hN hK hTk hB3 hR3 hb4 HM HT2 HB2 HR2
  go_upto_region 6 with (fail)
  generalize w3.alloc (.cells #[.int .i64 x.kd, .int .i64 x.fr, .int .i64 x.to, .int .u64 (x.sq : Int), .int .i64 x.wh, .int .u64 x.k.i, .int .i64 x.k.s, (.slice NA x.ns.length Nc), (.slice TA x.tb.length Tc), .int .u64 (x.ep : Int), .int .u64 (x.bo : Int), .int .i64 x.ak, .string x.ts, .int .u64 (x.tn : Int), .bool x.gd] 28) = w4 at *
  generalize w3.heap.size = q at *
  have HV4 : Hid (MsgV w4 (.agg #[.int .i64 x.kd, .int .i64 x.fr, .int .i64 x.to, .int .u64 (x.sq : Int), .int .i64 x.wh, .int .u64 x.k.i, .int .i64 x.k.s, (.slice NA x.ns.length Nc), (.slice TA x.tb.length Tc), .int .u64 (x.ep : Int), .int .u64 (x.bo : Int), .int .i64 x.ak, .string x.ts, .int .u64 (x.tn : Int), .bool x.gd]) x) := Lib.hid (msgv_own HN4.out HK4.out HSm.out)
  have HCk := Lib.hid (check_msg x _ w4 HV4.out)
  obtain ⟨k0, k1, k2, kf⟩ := HT4.out.cells
  have x0 := HX4.out.at_ 0 _ rfl
  have x1 := HX4.out.at_ 1 _ rfl
  have x2 := HX4.out.at_ 2 _ rfl
  have x3 := HX4.out.at_ 3 _ rfl
  have x4 := HX4.out.at_ 4 _ rfl
  have x5 := HX4.out.at_ 5 _ rfl
  have x6 := HX4.out.at_ 6 _ rfl
  have x7 := HX4.out.at_ 7 _ rfl
  have x8 := HX4.out.at_ 8 _ rfl
  have x9 := HX4.out.at_ 9 _ rfl
  have x10 := HX4.out.at_ 10 _ rfl
  have x11 := HX4.out.at_ 11 _ rfl
  have x12 := HX4.out.at_ 12 _ rfl
  have x13 := HX4.out.at_ 13 _ rfl
  have x14 := HX4.out.at_ 14 _ rfl
  obtain ⟨r, er⟩ : ∃ r, r = w.heap.size := ⟨_, rfl⟩
  have HEr := Lib.hid er
  rw [← er] at HR4 ⊢
  have hrq : r < w2.heap.size := by omega
  clear er HT4 HX4
  rcases hb : t.b with _ | _
  rotate_left
  · have HF2 : Hid (F = (zm, 2)) := Lib.hid (by rw [HF.out, if_pos (.inl hb)])
    rw [hb] at k2
    have r0 := HR4.out.at_ 0 _ rfl
    have r1 := HR4.out.at_ 1 _ rfl
    have r2 := HR4.out.at_ 2 _ rfl
    have r3 := HR4.out.at_ 3 _ rfl
    have r4 := HR4.out.at_ 4 _ rfl
    have r5 := HR4.out.at_ 5 _ rfl
    have r6 := HR4.out.at_ 6 _ rfl
    have r7 := HR4.out.at_ 7 _ rfl
    have r8 := HR4.out.at_ 8 _ rfl
    have r9 := HR4.out.at_ 9 _ rfl
    have r10 := HR4.out.at_ 10 _ rfl
    have r11 := HR4.out.at_ 11 _ rfl
    have r12 := HR4.out.at_ 12 _ rfl
    have r13 := HR4.out.at_ 13 _ rfl
    have r14 := HR4.out.at_ 14 _ rfl
    have rf := HR4.out.2
    clear HF HCk HV4 HN4 HK4 HR4 hb
    go_wp2_with fail
    refine bodyPost_ret (v := .tuple #[.agg #[.int .i64 0, .int .i64 0, .int .i64 0, .int .u64 0, .int .i64 0, .int .u64 0, .int .i64 0, .slice none 0 0, .slice none 0 0, .int .u64 0, .int .u64 0, .int .i64 0, .string ⟨#[]⟩, .int .u64 0, .bool false], .int .i64 2]) (by simp [results, Tryd.results18, go_sem, r0, r1, r2, r3, r4, r5, r6, r7, r8, r9, r10, r11, r12, r13, r14]) rfl ?_
    rw [HF2.out]
    refine ⟨_, rfl, msgv_zero _, ?_⟩
    iterate 15 (refine Below.setCell ?_ (Nat.le_of_eq HEr.out.symm) _)
    exact HB4.out
  rw [hb] at k2
  by_cases hp : t.p < o.size
  · have HF2 : Hid (F = (zm, 2)) := Lib.hid (by rw [HF.out, if_pos (.inr (.inl hp))])
    have e1 : decide ((t.p : Int) < (o.size : Int)) = true := by simp; omega
    have e1' : decide (t.p < o.size) = true := by simpa using hp
    have r0 := HR4.out.at_ 0 _ rfl
    have r1 := HR4.out.at_ 1 _ rfl
    have r2 := HR4.out.at_ 2 _ rfl
    have r3 := HR4.out.at_ 3 _ rfl
    have r4 := HR4.out.at_ 4 _ rfl
    have r5 := HR4.out.at_ 5 _ rfl
    have r6 := HR4.out.at_ 6 _ rfl
    have r7 := HR4.out.at_ 7 _ rfl
    have r8 := HR4.out.at_ 8 _ rfl
    have r9 := HR4.out.at_ 9 _ rfl
    have r10 := HR4.out.at_ 10 _ rfl
    have r11 := HR4.out.at_ 11 _ rfl
    have r12 := HR4.out.at_ 12 _ rfl
    have r13 := HR4.out.at_ 13 _ rfl
    have r14 := HR4.out.at_ 14 _ rfl
    have rf := HR4.out.2
    clear HF HCk HV4 HN4 HK4 HR4 hb
    go_wp2_with fail
    refine bodyPost_ret (v := .tuple #[.agg #[.int .i64 0, .int .i64 0, .int .i64 0, .int .u64 0, .int .i64 0, .int .u64 0, .int .i64 0, .slice none 0 0, .slice none 0 0, .int .u64 0, .int .u64 0, .int .i64 0, .string ⟨#[]⟩, .int .u64 0, .bool false], .int .i64 2]) (by simp [results, Tryd.results18, go_sem, r0, r1, r2, r3, r4, r5, r6, r7, r8, r9, r10, r11, r12, r13, r14]) rfl ?_
    rw [HF2.out]
    refine ⟨_, rfl, msgv_zero _, ?_⟩
    iterate 15 (refine Below.setCell ?_ (Nat.le_of_eq HEr.out.symm) _)
    exact HB4.out
  have e1 : decide ((t.p : Int) < (o.size : Int)) = false := by simp; omega
  have e1' : decide (t.p < o.size) = false := by simpa using hp
  rcases hm : mayM x with _ | _
  · have HF2 : Hid (F = (zm, 2)) := Lib.hid (by rw [HF.out, if_pos (.inr (.inr hm))])
    have ho1 : okE (mayM x) = 1 := by rw [hm]; rfl
    rw [ho1] at HCk
    clear HF HV4 HN4 HK4 hb hm ho1
    go_wp2_with (go_at_call 11; refine HCk.out.mono ?_; rintro e w5 ⟨rfl, hb5⟩; have HR5 := Lib.hid (HR4.out.on hb5 (show 0 < 15 by decide)); have hb6 := Lib.hid hb5; clear hb5; have r0 := HR5.out.at_ 0 _ rfl; have r1 := HR5.out.at_ 1 _ rfl; have r2 := HR5.out.at_ 2 _ rfl; have r3 := HR5.out.at_ 3 _ rfl; have r4 := HR5.out.at_ 4 _ rfl; have r5 := HR5.out.at_ 5 _ rfl; have r6 := HR5.out.at_ 6 _ rfl; have r7 := HR5.out.at_ 7 _ rfl; have r8 := HR5.out.at_ 8 _ rfl; have r9 := HR5.out.at_ 9 _ rfl; have r10 := HR5.out.at_ 10 _ rfl; have r11 := HR5.out.at_ 11 _ rfl; have r12 := HR5.out.at_ 12 _ rfl; have r13 := HR5.out.at_ 13 _ rfl; have r14 := HR5.out.at_ 14 _ rfl; have rf := HR5.out.2)
    refine bodyPost_ret (v := .tuple #[.agg #[.int .i64 0, .int .i64 0, .int .i64 0, .int .u64 0, .int .i64 0, .int .u64 0, .int .i64 0, .slice none 0 0, .slice none 0 0, .int .u64 0, .int .u64 0, .int .i64 0, .string ⟨#[]⟩, .int .u64 0, .bool false], .int .i64 2]) (by simp [results, Tryd.results18, go_sem, r0, r1, r2, r3, r4, r5, r6, r7, r8, r9, r10, r11, r12, r13, r14]) rfl ?_
    rw [HF2.out]
    refine ⟨_, rfl, msgv_zero _, ?_⟩
    iterate 15 (refine Below.setCell ?_ (Nat.le_of_eq HEr.out.symm) _)
    exact HB4.out.trans (hb6.out.mono HB4.out.size)
  · have HF2 : Hid (F = (x, 0)) := Lib.hid (by rw [HF.out, if_neg]; rintro (h | h | h); exact absurd (h.symm.trans hb) (by decide); exact hp h; exact absurd (hm.symm.trans h) (by decide))
    have ho1 : okE (mayM x) = 0 := by rw [hm]; rfl
    rw [ho1] at HCk
    clear HF HV4 hb hm ho1
    go_wp2_with (go_at_call 11; refine HCk.out.mono ?_; rintro e w5 ⟨rfl, hb5⟩; have HR5 := Lib.hid (HR4.out.on hb5 (show 0 < 15 by decide)); have HN5 := Lib.hid (HN4.out.on hb5); have HK5 := Lib.hid (HK4.out.on hb5); have hb6 := Lib.hid hb5; replace x0 := (hb5.cell (World.block_lt_of_cell? _ _ x0)).trans x0; replace x1 := (hb5.cell (World.block_lt_of_cell? _ _ x1)).trans x1; replace x2 := (hb5.cell (World.block_lt_of_cell? _ _ x2)).trans x2; replace x3 := (hb5.cell (World.block_lt_of_cell? _ _ x3)).trans x3; replace x4 := (hb5.cell (World.block_lt_of_cell? _ _ x4)).trans x4; replace x5 := (hb5.cell (World.block_lt_of_cell? _ _ x5)).trans x5; replace x6 := (hb5.cell (World.block_lt_of_cell? _ _ x6)).trans x6; replace x7 := (hb5.cell (World.block_lt_of_cell? _ _ x7)).trans x7; replace x8 := (hb5.cell (World.block_lt_of_cell? _ _ x8)).trans x8; replace x9 := (hb5.cell (World.block_lt_of_cell? _ _ x9)).trans x9; replace x10 := (hb5.cell (World.block_lt_of_cell? _ _ x10)).trans x10; replace x11 := (hb5.cell (World.block_lt_of_cell? _ _ x11)).trans x11; replace x12 := (hb5.cell (World.block_lt_of_cell? _ _ x12)).trans x12; replace x13 := (hb5.cell (World.block_lt_of_cell? _ _ x13)).trans x13; replace x14 := (hb5.cell (World.block_lt_of_cell? _ _ x14)).trans x14; clear hb5; have r0 := HR5.out.at_ 0 _ rfl; have r1 := HR5.out.at_ 1 _ rfl; have r2 := HR5.out.at_ 2 _ rfl; have r3 := HR5.out.at_ 3 _ rfl; have r4 := HR5.out.at_ 4 _ rfl; have r5 := HR5.out.at_ 5 _ rfl; have r6 := HR5.out.at_ 6 _ rfl; have r7 := HR5.out.at_ 7 _ rfl; have r8 := HR5.out.at_ 8 _ rfl; have r9 := HR5.out.at_ 9 _ rfl; have r10 := HR5.out.at_ 10 _ rfl; have r11 := HR5.out.at_ 11 _ rfl; have r12 := HR5.out.at_ 12 _ rfl; have r13 := HR5.out.at_ 13 _ rfl; have r14 := HR5.out.at_ 14 _ rfl; have rf := HR5.out.2)
    refine bodyPost_ret (v := .tuple #[.agg #[.int .i64 x.kd, .int .i64 x.fr, .int .i64 x.to, .int .u64 (x.sq : Int), .int .i64 x.wh, .int .u64 x.k.i, .int .i64 x.k.s, (.slice NA x.ns.length Nc), (.slice TA x.tb.length Tc), .int .u64 (x.ep : Int), .int .u64 (x.bo : Int), .int .i64 x.ak, .string x.ts, .int .u64 (x.tn : Int), .bool x.gd], .int .i64 0]) (by simp [results, Tryd.results18, go_sem, r0, r1, r2, r3, r4, r5, r6, r7, r8, r9, r10, r11, r12, r13, r14]) rfl ?_
    rw [HF2.out]
    refine ⟨mvv x (.slice NA x.ns.length Nc) (.slice TA x.tb.length Tc), rfl, msgv_own (B := w2.heap.size) ?_ ?_ HSm.out, ?_⟩
    · iterate 15 (refine OwnN.cellFar ?_ hrq)
      exact HN5.out
    · iterate 15 (refine Own.cellFar ?_ hrq)
      exact HK5.out
    · iterate 15 (refine Below.setCell ?_ (Nat.le_of_eq HEr.out.symm) _)
      exact HB4.out.trans (hb6.out.mono HB4.out.size)
end Go.Proofs.YtjeepmdklbfgeaaDoor

namespace Go.Proofs.YtjeepmdklbfgeaaDoor
open Go.Sort Go.RowKit Go.Proofs.YtjeepmdklbfgeaaDoor.Pure Go.Proofs.YtjeepmdklbfgeaaDoor.W Go.Proofs.YtjeepmdklbfgeaaDoor.W.Pure

theorem read_any (s : ByteArray) (w : World) (hs : s.size ≤ 140737488351232) (ht : Tab w) : Calls Tryd.prog 18 #[.string s] w (ReadV w (readM s)) := by
  unfold readM
  by_cases h1 : s.size < 4
  · rw [if_pos h1]
    exact read_err s ⟨#[]⟩ 3 w (by decide) ht (fun W _ => (open_short s W h1).mono (fun e w' h => ⟨h.1, h.2 ▸ Below.refl _ _⟩))
  rw [if_neg h1]
  by_cases h2 : 4100 < s.size
  · rw [if_pos h2]
    exact read_err s ⟨#[]⟩ 4 w (by decide) ht (fun W _ => (open_large s W hs h2).mono (fun e w' h => ⟨h.1, h.2 ▸ Below.refl _ _⟩))
  rw [if_neg h2]
  by_cases h3 : Opens s
  · rw [if_neg (fun h => h h3)]
    exact read_got s (inner s) w (by unfold inner; rw [ByteArray.size_extract]; omega) ht (fun W h => open_yes s W (by omega) (by omega) h h3)
  · rw [if_pos h3]
    exact read_err s ⟨#[]⟩ 10 w (by decide) ht (fun W h => open_no s W (by omega) (by omega) h h3)
end Go.Proofs.YtjeepmdklbfgeaaDoor
