/-
  THE LAW NewsOften: what was added to nothing is told just as often as it was to be, if nothing beats it, and all is taken; then nothing is left.
  For all news (of which the law looks at the first twenty), and every two numbers.
-/
import Derived.Test.YtipepmnnjhhjbaaMapI
import Derived.Test.YtipepmnnjhhjbaaLaw
import Derived.Lib.MinMax
namespace Go.Proofs.Ytipepmnnjhhjbaa.lawOften
open Go.Sort Go.ChangeShapes Go.WideShapes Go.ChangeAt Go.RowKit Go.Joins Go.Proofs.Ytipepmnnjhhjbaa.Pure

/-- What is wanted: of each in the queue, as often as it is to be told. -/
def Want (w : World) (g : Nat) (q : List Td) : Prop := ∃ S D, Mi w g q.length S (leftK q) D ∧ ∀ k, k ∈ S ↔ k ∈ q.map Td.w
/-- What was told: each key as often as it stands in T. -/
def Many (w : World) (g : Nat) (T : List Int) : Prop := ∃ S D, Mi w g T.length S (fun k => (T.count k : Int)) D ∧ ∀ k, k ∈ S ↔ k ∈ T
theorem Want.on {w w' : World} {g : Nat} {q : List Td} (h : Want w g q) (hb : Below w.heap.size w w') : Want w' g q := by
  obtain ⟨S, D, h1, h2⟩ := h
  exact ⟨S, D, h1.on hb, h2⟩
theorem Want.made (w : World) : Want (w.alloc (.map #[] 0)) w.heap.size [] := ⟨[], .map [], Mi.made w, fun k => by simp⟩
theorem Many.made (w : World) : Many (w.alloc (.map #[] 0)) w.heap.size [] := ⟨[], .map [], Mi.made w, fun k => by simp⟩
theorem Want.look {w : World} {g : Nat} {q : List Td} (h : Want w g q) (k : Int) (hk : (Lit.int .i64 k).wf = true) (c : Int) (hc : leftK q k = c) : (Instr.lookup 55 (.map (some g)) (.int .i64 k) false).run Try.prog w = .ok (.int .i64 c) w := by
  obtain ⟨S, D, h1, h2⟩ := h
  exact h1.look k hk c hc
theorem Want.put {w : World} {g : Nat} {q : List Td} (h : Want w g q) (hn : q.length < 900) (hq : ∀ x ∈ q, 1 ≤ x.l) (x : Td) (hx : x.w ∉ q.map Td.w) (hb : 0 ≤ x.w ∧ x.w < 64 ∧ 1 ≤ x.l ∧ x.l ≤ 64) :
    ∃ w', (Instr.mapUpdate 55 (.map (some g)) (.int .i64 x.w) (.int .i64 x.l)).run Try.prog w = .ok () w' ∧ Want w' g (addQ q x) ∧ w.grownBy w' (some g) ∧ (∀ A q', Ts w A q' → Ts w' A q') := by
  obtain ⟨S, D, h1, h2⟩ := h
  have hp := addQ_new x hx
  have h0 : ¬ 0 < leftK q x.w := fun h => hx ((leftK_pos hq x.w).2.1 h)
  have h00 := (leftK_pos hq x.w).1
  obtain ⟨w', D', hrun, h3, hg⟩ := h1.put (by omega) x.w x.l (wf_in (by omega)) (wf_in (by omega)) (leftK (addQ q x)) (fun k => by
    rw [leftK_perm hp, leftK_cons]
    by_cases e : k = x.w
    · subst e; simp; omega
    · rw [if_neg e, if_neg (Ne.symm e)]; omega)
  have hxs : x.w ∉ S := fun h => hx ((h2 _).1 h)
  rw [if_neg hxs] at h3
  refine ⟨w', hrun, ⟨x.w :: S, D', ?_, fun k => ?_⟩, hg, fun A q' hT => h1.ts hT hg⟩
  · rw [hp.length_eq]; exact h3
  · rw [(hp.map Td.w).mem_iff, List.map_cons, List.mem_cons, List.mem_cons, h2 k]
theorem Many.look {w : World} {g : Nat} {T : List Int} (h : Many w g T) (k : Int) (hk : (Lit.int .i64 k).wf = true) (c : Int) (hc : (T.count k : Int) = c) : (Instr.lookup 55 (.map (some g)) (.int .i64 k) false).run Try.prog w = .ok (.int .i64 c) w := by
  obtain ⟨S, D, h1, h2⟩ := h
  exact h1.look k hk c hc
theorem Many.put {w : World} {g : Nat} {T : List Int} (h : Many w g T) (hn : T.length < 900) (k : Int) (hk : (Lit.int .i64 k).wf = true) :
    ∃ w', (Instr.mapUpdate 55 (.map (some g)) (.int .i64 k) (.int .i64 ((T.count k : Int) + 1))).run Try.prog w = .ok () w' ∧ Many w' g (T ++ [k]) ∧ w.grownBy w' (some g) ∧ (∀ A q', Ts w A q' → Ts w' A q') ∧ (∀ A q', Ns w A q' → Ns w' A q') := by
  obtain ⟨S, D, h1, h2⟩ := h
  have hc : T.count k ≤ T.length := List.count_le_length
  obtain ⟨w', D', hrun, h3, hg⟩ := h1.put (by omega) k ((T.count k : Int) + 1) hk (wf_in (by omega)) (fun x => ((T ++ [k]).count x : Int)) (fun x => by
    rw [List.count_append]
    by_cases e : x = k
    · subst e; simp
    · simp [e, Ne.symm e])
  refine ⟨w', hrun, ⟨_, D', by rw [List.length_append]; exact h3, fun x => ?_⟩, hg, fun A q' hT => h1.ts hT hg, fun A q' hT => h1.ns hT hg⟩
  have := h2 x
  by_cases e : k ∈ S
  · rw [if_pos e]
    have := (h2 k).1 e
    simp
    constructor
    · intro h; exact .inl ((h2 x).1 h)
    · rintro (h | rfl)
      · exact (h2 x).2 h
      · exact e
  · rw [if_neg e]
    simp [h2 x]
    constructor <;> (rintro (h | h) <;> simp [h])

theorem add_ok {W : World} {A : Option Addr} {c : Nat} {q : List Td} (h : Ts W A q) (hq : mayQ q = true) (n : Nw) (o : Int) (hx : mayT (n.td o) = true) :
    Calls Try.prog 12 #[.slice A q.length c, .agg #[.int .i64 n.w, .int .u64 n.i, .int .i64 n.s], .int .i64 o] W fun e w' => ∃ A' c', e = .returned (.tuple #[.slice A' (addQ q (n.td o)).length c', .int .i64 0]) ∧ Ts w' A' (addQ q (n.td o)) ∧ Below W.heap.size W w' := by
  have := l_add (c := c) h (by have := mayQ_len hq; omega) n o
  have hu : addL q (n.td o) = addQ q (n.td o) ∧ addE q (n.td o) = 0 := by unfold addL addE; rw [hq, hx]; exact ⟨rfl, rfl⟩
  rw [hu.1, hu.2] at this
  exact this

set_option maxRecDepth 100000 in
set_option maxHeartbeats 8000000 in
theorem way (A : Option Addr) (c often k kk mm : Nat) (l : List Nw) (w : World) (ho : often ≤ 255) (hk : k ≤ 255) (hkk : kk = k % 5) (hmm : mm = 1 + kk) (_hll : l.length ≤ 9223372036854775807) (hL : Ns w A l) :
    Calls Try.prog 5 #[.slice A l.length c, .int .u8 often, .int .u8 k] w fun e w' => e = .returned (.bool true) ∧ Below w.heap.size w w' := by
  have r1 : Int.tmod (k : Int) 5 = ((kk : Nat) : Int) := by rw [Int.tmod_eq_emod_of_nonneg (by omega), hkk]; omega
  have hkk5 : kk < 5 := by omega
  have r3 : IntKind.u8.wrap ((kk : Nat) : Int) = ((kk : Nat) : Int) := by rw [IntKind.wrap_u8]; omega
  have r5 : IntKind.i64.wrap ((kk : Nat) : Int) = ((kk : Nat) : Int) := IntWalk.i64_in _ (by omega)
  have r6 : IntKind.i64.wrap (1 + (kk : Int)) = (mm : Int) := by rw [IntWalk.i64_in _ (by omega)]; omega
  have r7 : IntKind.i64.wrap (often : Int) = (often : Int) := IntWalk.i64_in _ (by omega)
  have hmm5 : 1 ≤ mm ∧ mm ≤ 5 := by omega
  have HL := Lib.hid hL
  have HAW := Lib.hid (fun W => awake_any W)
  clear hL hk hkk hmm
  have hmk := @run_makeMap Try.prog
  have HM0 := Lib.hid (Want.made w)
  have HB0 : Hid (Below w.heap.size w (w.alloc (.map #[] 0))) := Lib.hid ((Below.refl _ _).alloc (Nat.le_refl _) _)
  have HT0 := Lib.hid (Ts.nil (w.alloc (.map #[] 0)) none)
  go_enter Try.func5, Try.ntmps5
  go_wp2_with fail
  go_loopw [7, 9] (fun v7 v9 wr => ∃ (i : Nat) (Aq : Option Addr) (cq : Nat) (q : List Td), v7 = .slice Aq q.length cq ∧ v9 = .int .i64 i ∧ i ≤ 20 ∧ q.length ≤ i ∧ Hid (mayQ q = true) ∧ Hid (∀ x ∈ q, x.l ≤ 9) ∧
    Hid (Ts wr Aq q) ∧ Hid (Want wr w.heap.size q) ∧ Hid (Below w.heap.size w wr)) (fun _ v _ => 20 - (intOf v).toNat)
  case atStart => exact ⟨0, none, 0, [], rfl, rfl, by omega, Nat.le_refl _, Lib.hid rfl, Lib.hid (fun x hx => by cases hx), HT0, HM0, HB0⟩
  case round =>
    clear HM0 HB0 HT0
    obtain ⟨i, Aq, cq, q, rfl, rfl, hi, hqi, HQ, H9, HTq, HWq, HBq⟩ := hrel
    obtain ⟨wq, e⟩ : ∃ wq, wq = wr := ⟨_, rfl⟩
    subst e
    by_cases hlt : i < l.length ∧ i < 20
    · obtain ⟨ad, rfl, hlo, h1⟩ := (HL.out.on HBq.out) i hlt.1
      obtain ⟨a0, a1, a2⟩ := h1.flat
      obtain ⟨x, ex⟩ : ∃ x, x = nw l i := ⟨_, rfl⟩
      rw [← ex] at a0 a1 a2
      have HX := Lib.hid ex
      have k0 : (0 : Int) ≤ (i : Int) := by omega
      have k1 : (i : Int) < (l.length : Int) := by omega
      have d1 : decide ((i : Int) < (l.length : Int)) = true := by simpa using k1
      have d2 : decide ((i : Int) < 20) = true := by simp; omega
      have hw1 : IntKind.i64.wrap ((i : Int) + 1) = (i : Int) + 1 := by rw [IntWalk.i64_in _ (by omega)]
      have HLT := Lib.hid hlt
      obtain ⟨o1, eo⟩ : ∃ o1, o1 = oneB x := ⟨_, rfl⟩
      have HON : Hid (∀ W : World, Calls Try.prog 18 #[.agg #[.int .i64 x.w, .int .u64 x.i, .int .i64 x.s]] W fun e w' => e = .returned (.bool o1) ∧ Below W.heap.size W w') := Lib.hid (fun W => by rw [eo]; exact one_any x W)
      have HEO := Lib.hid eo
      clear h1 ex hlt eo hi
      go_wp2_with fail
      refine (HON.out _).mono ?_
      rintro e w5 ⟨rfl, hb⟩
      have HT5 := Lib.hid (HTq.out.on hb)
      have HW5 := Lib.hid (HWq.out.on hb)
      have HB5 : Hid (Below w.heap.size w w5) := Lib.hid (HBq.out.trans (hb.mono HBq.out.size))
      clear hb HTq HWq HBq a0 a1 a2 HON
      rcases o1 with _ | _
      · go_wp2_with fail
        go_roundw
        case rel => exact ⟨i + 1, Aq, cq, q, rfl, by go_num, by have := HLT.out; omega, by omega, HQ, H9, HT5, HW5, HB5⟩
        case measure => have := HLT.out; simp [intOf]; omega
      · obtain ⟨ad', e, hlo', h1⟩ := (HL.out.on HB5.out) i HLT.out.1
        obtain rfl := Option.some.inj e
        obtain ⟨a0, a1, a2⟩ := h1.flat
        rw [← HX.out] at a0 a1 a2
        have h64 : 0 ≤ x.w ∧ x.w < 64 := by
          have h := HEO.out.symm
          unfold oneB at h
          simp at h
          omega
        obtain ⟨cw, ecw⟩ : ∃ cw, cw = leftK q x.w := ⟨_, rfl⟩
        have hlook := HW5.out.look x.w (wf_in (by omega)) cw ecw.symm
        have HP := Lib.hid (leftK_pos (fun y hy => (told_bounds HQ.out y hy).1) x.w)
        by_cases hc : 0 < cw
        · have d3 : decide (0 < cw) = true := by simpa using hc
          clear h1 HP
          go_wp2_with fail
          go_roundw
          case rel => exact ⟨i + 1, Aq, cq, q, rfl, by go_num, by have := HLT.out; omega, by omega, HQ, H9, HT5, HW5, HB5⟩
          case measure => have := HLT.out; simp [intOf]; omega
        · have d3 : decide (0 < cw) = false := by simpa using hc
          have HNX : Hid (x.w ∉ q.map Td.w) := Lib.hid (fun h => hc (by rw [ecw]; exact HP.out.2.2 h))
          have hi20 : i < 20 := HLT.out.2
          obtain ⟨z, ez⟩ : ∃ z : Nat, z = (often + i) % 9 := ⟨_, rfl⟩
          obtain ⟨y, ey⟩ : ∃ y : Int, y = (often : Int) + (i : Int) := ⟨_, rfl⟩
          obtain ⟨o, eo⟩ : ∃ o : Int, o = 1 + (z : Int) := ⟨_, rfl⟩
          have c2 : IntKind.i64.wrap ((often : Int) + (i : Int)) = y := by rw [ey, IntWalk.i64_in _ (by omega)]
          have c3 : Int.tmod y 9 = (z : Int) := by rw [Int.tmod_eq_emod_of_nonneg (by omega), ez, ey]; omega
          have c4 : IntKind.i64.wrap (z : Int) = (z : Int) := IntWalk.i64_in _ (by omega)
          have c5 : IntKind.i64.wrap (1 + (z : Int)) = o := by rw [IntWalk.i64_in _ (by omega), eo]
          have ho9 : 1 ≤ o ∧ o ≤ 9 := by omega
          have hxt : mayT (x.td o) = true := by rw [mayT_td, ← HEO.out]; simp; omega
          have HXT := Lib.hid hxt
          have HAD := Lib.hid (fun W h => add_ok (W := W) (A := Aq) (c := cq) (q := q) h HQ.out x o hxt)
          have HADQ := Lib.hid (may_addQ HQ.out hxt)
          have HLEN : Hid ((addQ q (x.td o)).length = q.length + 1) := Lib.hid (by rw [(addQ_new (x.td o) HNX.out).length_eq]; rfl)
          clear h1 HP hc ecw ez ey eo hxt
          go_wp2_with fail
          refine (HAD.out _ HT5.out).mono ?_
          rintro e w6 ⟨A6, c6, rfl, hl6, hb⟩
          have HW6 := Lib.hid (HW5.out.on hb)
          have HB6 : Hid (Below w.heap.size w w6) := Lib.hid (HB5.out.trans (hb.mono HB5.out.size))
          obtain ⟨w9, hput, hW9, hg9, hts⟩ := HW6.out.put (by omega) (fun y hy => (told_bounds HQ.out y hy).1) (x.td o) HNX.out ⟨h64.1, h64.2, ho9.1, by show o ≤ 64; omega⟩
          have HT9 := Lib.hid (hts _ _ hl6)
          have HW9 := Lib.hid hW9
          have HB9 : Hid (Below w.heap.size w w9) := Lib.hid (HB6.out.grown hg9 HB6.out.size (by intro b e; injection e with e; omega))
          have hput : (Instr.mapUpdate 55 (.map (some w.heap.size)) (.int .i64 x.w) (.int .i64 o)).run Try.prog w6 = .ok () w9 := hput
          clear a0 a1 a2 hlook
          obtain ⟨ad', e, hlo', h1⟩ := (HL.out.on HB6.out) i HLT.out.1
          obtain rfl := Option.some.inj e
          obtain ⟨a0, a1, a2⟩ := h1.flat
          rw [← HX.out] at a0 a1 a2
          clear h1 hb hts hW9 hg9 HT5 HW5 HB5 HAD hl6
          go_wp2_with fail
          go_roundw
          case rel =>
            refine ⟨i + 1, A6, c6, addQ q (x.td o), rfl, by go_num, by have := HLT.out; omega, by rw [HLEN.out]; omega, HADQ, Lib.hid (fun y hy => ?_), HT9, HW9, HB9⟩
            rcases mem_addQ hy with rfl | hy
            · exact ho9.2
            · exact H9.out y hy
          case measure => have := HLT.out; simp [intOf]; omega
    · have hcond : (decide ((i : Int) < (l.length : Int)) = true ∧ decide ((i : Int) < 20) = false ∧ i < l.length ∧ (20 : Int) ≤ (i : Int) ∧ ¬ (i : Int) < 20) ∨ (decide ((i : Int) < (l.length : Int)) = false ∧ ¬ i < l.length) := by
        by_cases h : i < l.length
        · exact .inl ⟨by simp; omega, by simp; omega, h, by omega, by omega⟩
        · exact .inr ⟨by simp; omega, h⟩
      have HWE := Lib.hid HWq.out
      have HS180 : Hid (sumT q ≤ 180) := Lib.hid (by have := sumT_le9 H9.out; omega)
      clear hlt hi HL
      obtain ⟨w2, e2⟩ : ∃ w2, w2 = wq := ⟨_, rfl⟩
      subst e2
      have HW2 : Hid (∀ W, Below w2.heap.size w2 W → Want W w.heap.size q) := Lib.hid (fun W hb => HWq.out.on hb)
      have HGL : Hid (w.heap.size < w2.heap.size) := Lib.hid (by obtain ⟨S, D, h, _⟩ := HWq.out; exact h.lt)
      have HMN := Lib.hid (Many.made w2)
      have HBN : Hid (Below w2.heap.size w2 (w2.alloc (.map #[] 0))) := Lib.hid ((Below.refl _ _).alloc (Nat.le_refl _) _)
      have HTN := Lib.hid (HTq.out.alloc (.map #[] 0))
      generalize hg : w.heap.size = g at *
      have EG := Lib.hid hg
      clear hg
      rcases hcond with ⟨d1, d2, e1, e2, e3⟩ | ⟨d1, e1⟩
      ·
        clear HWq HTq H9 HWE hqi
        go_wp2_with fail
        go_loopw [7, 14] (fun v7 v14 wr => ∃ (i : Nat) (Aq : Option Addr) (cq : Nat) (p : List Td) (T : List Int), v7 = .slice Aq p.length cq ∧ v14 = .int .i64 i ∧ i ≤ T.length ∧ T.length ≤ 180 ∧ Hid (mayQ p = true) ∧ Hid ((T.length : Int) + sumT p = sumT q) ∧
          Hid (∀ k : Int, (T.count k : Int) + leftK p k = leftK q k) ∧ Hid (Ts wr Aq p) ∧ Hid (Many wr w2.heap.size T) ∧ Hid (Below w2.heap.size w2 wr)) (fun _ v _ => 400 - (intOf v).toNat)
        case atStart => exact ⟨0, Aq, cq, q, [], rfl, rfl, Nat.le_refl _, by simp, HQ, Lib.hid (by simp), Lib.hid (fun k => by simp), HTN, HMN, HBN⟩
        case round =>
          clear HTN HMN HBN
          obtain ⟨i, A', c', p, T, rfl, rfl, hi, hT180, HP, HSM, HCT, HTp, HMp, HBp⟩ := hrel
          obtain ⟨wq, e⟩ : ∃ wq, wq = wr := ⟨_, rfl⟩
          subst e
          have d3 : decide ((i : Int) < 400) = true := by simp; omega
          have hw1 : IntKind.i64.wrap ((i : Int) + 1) = (i : Int) + 1 := by rw [IntWalk.i64_in _ (by omega)]
          by_cases hp0 : 0 < p.length
          · have d4 : decide ((0 : Int) < (p.length : Int)) = true := by simpa using hp0
            have HTK : Hid (∀ W, Ts W A' p → Calls Try.prog 13 #[.slice A' p.length c', .int .i64 mm] W (Gn W (tellN p mm) (tellR p mm) 0)) := Lib.hid (fun W h => by have := l_take (c := c') h HP.out (mm : Int) (by omega); rwa [Int.toNat_natCast] at this)
            have hnl := tellN_len p mm
            have hs := sumT_rest p mm
            have HCK := Lib.hid (leftK_rest p mm)
            have HMR := Lib.hid (may_tellR HP.out mm)
            have HIN := Lib.hid (tellN_mem HP.out mm)
            generalize tellN p mm = lN at *
            generalize tellR p mm = lR at *
            have hs0 := sumT_ge (fun x hx => (told_bounds HMR.out x hx).1)
            have hsm := HSM.out
            have hsq := HS180.out
            have hnl1 : 1 ≤ lN.length ∧ lN.length ≤ 5 := by omega
            have HSR : Hid (((T.length + lN.length : Nat) : Int) + sumT lR = sumT q) := Lib.hid (by omega)
            have hTN : T.length + lN.length ≤ 180 := by omega
            have d5 : ((lN.length : Int) == 0) = false := by rw [beq_eq_false_iff_ne]; omega
            clear hnl hs hs0 hsm hsq
            go_wp2_with fail
            refine (HTK.out _ HTp.out).mono ?_
            rintro e w3 ⟨A3, c3, A4, c4, rfl, hn3, hl3, hb⟩
            obtain ⟨S1, D1, hM1, hS1⟩ := HMp.out
            have HM3 : Hid (Many w3 w2.heap.size T) := Lib.hid ⟨S1, D1, hM1.on hb, hS1⟩
            have HB3 : Hid (Below w2.heap.size w2 w3) := Lib.hid (HBp.out.trans (hb.mono HBp.out.size))
            have HN3 := Lib.hid hn3
            have HR3 := Lib.hid hl3
            clear hb hn3 hl3 hM1 hS1 HMp HBp HTp HTK
            go_wp2_with fail
            go_loopw [18] (fun v18 wr => ∃ j : Nat, j ≤ lN.length ∧ v18 = .int .i64 j ∧ Hid (Many wr w2.heap.size (T ++ (lN.map Nw.w).take j)) ∧ Hid (Ns wr A3 lN) ∧ Hid (Ts wr A4 lR) ∧ Hid (Below w2.heap.size w2 wr)) (fun v _ => lN.length - (intOf v).toNat)
            case atStart => exact ⟨0, Nat.zero_le _, rfl, by simpa using HM3, HN3, HR3, HB3⟩
            case round =>
              clear HM3 HN3 HR3 HB3
              obtain ⟨j, hj, rfl, HMj, HNj, HRj, HBj⟩ := hrel
              obtain ⟨wj, e⟩ : ∃ wj, wj = wr := ⟨_, rfl⟩
              subst e
              by_cases hlt : j < lN.length
              · obtain ⟨ad3, rfl, hlo, h1⟩ := HNj.out j hlt
                obtain ⟨a0, a1, a2⟩ := h1.flat
                have hwl := nw_w lN j hlt
                have hx := HIN.out _ hwl.2.1
                have HTK := Lib.hid hwl.1
                have HTL : Hid ((T ++ (lN.map Nw.w).take j).length = T.length + j) := Lib.hid (by rw [List.length_append, List.length_take, List.length_map]; omega)
                generalize (nw lN j).w = x at *
                have hcl : (T ++ (lN.map Nw.w).take j).count x ≤ (T ++ (lN.map Nw.w).take j).length := List.count_le_length
                rw [HTL.out] at hcl
                have hlook := HMj.out.look x (wf_in (by omega)) _ rfl
                obtain ⟨w9, hput, hM9, hg9, hts, hns⟩ := HMj.out.put (by rw [HTL.out]; omega) x (wf_in (by omega))
                generalize (T ++ (lN.map Nw.w).take j).count x = cx at *
                have hwc : IntKind.i64.wrap ((cx : Int) + 1) = (cx : Int) + 1 := by rw [IntWalk.i64_in _ (by omega)]
                have k0 : (0 : Int) ≤ (j : Int) := by omega
                have k1 : (j : Int) < (lN.length : Int) := by omega
                have hw2 : IntKind.i64.wrap ((j : Int) + 1) = (j : Int) + 1 := by rw [IntWalk.i64_in _ (by omega)]
                have HM9 : Hid (Many w9 w2.heap.size (T ++ (lN.map Nw.w).take (j + 1))) := Lib.hid (by rw [HTK.out, ← List.append_assoc]; exact hM9)
                have HN9 := Lib.hid (hns _ _ HNj.out)
                have HR9 := Lib.hid (hts _ _ HRj.out)
                have HB9 : Hid (Below w2.heap.size w2 w9) := Lib.hid (HBj.out.grown hg9 HBj.out.size (by intro b e; injection e with e; omega))
                clear h1 hwl hcl hM9 hg9 hts hns HMj HNj HRj HBj hj a1 a2
                go_wp2_with fail
                go_roundw
                case rel => exact ⟨j + 1, by omega, by go_num, HM9, HN9, HR9, HB9⟩
                case measure => simp [intOf]; omega
              · obtain rfl : lN.length = j := by omega
                have HMe : Hid (Many wj w2.heap.size (T ++ lN.map Nw.w)) := Lib.hid (by have h := HMj.out; rwa [List.take_of_length_le (by rw [List.length_map]; exact Nat.le_refl _)] at h)
                have HCT' : Hid (∀ k : Int, ((T ++ lN.map Nw.w).count k : Int) + leftK lR k = leftK q k) := Lib.hid (fun k => by
                  have h1 := HCT.out k
                  have h2 := HCK.out k
                  rw [List.count_append]
                  omega)
                clear HMj hj hlt
                go_wp2_with fail
                go_roundw
                case rel => exact ⟨i + 1, A4, c4, lR, T ++ lN.map Nw.w, rfl, by go_num, by rw [List.length_append, List.length_map]; omega, by rw [List.length_append, List.length_map]; exact hTN, HMR, Lib.hid (by rw [List.length_append, List.length_map]; exact HSR.out), HCT', HRj, HMe, HBj⟩
                case measure => simp [intOf]; omega
          · obtain rfl : p = [] := List.eq_nil_of_length_eq_zero (by omega)
            have HCE : Hid (∀ k : Int, (T.count k : Int) = leftK q k) := Lib.hid (fun k => by have h := HCT.out k; rw [leftK_nil] at h; omega)
            obtain ⟨S1, D1, hM1, hS1⟩ := HMp.out
            obtain ⟨S0, D0, hM0, hS0⟩ := HW2.out _ HBp.out
            have HSS : Hid (S1.length = S0.length) := Lib.hid (len_same hM1.2.2.2.1 hM0.2.2.2.1 (fun k => by
              rw [hS1, hS0, ← (leftK_pos (fun y hy => (told_bounds HQ.out y hy).1) k).2, ← HCE.out k, ← List.count_pos_iff]
              omega))
            have HM1 := Lib.hid hM1
            have HM0 := Lib.hid hM0
            have hbp := HBp.out.size
            have hgl := HGL.out
            have hg2 := hM1.lt
            clear hM1 hS1 hS0 HCT HSM HMp HTp hi hT180 hp0 HS180 HW2
            go_wp2_with (first
              | (at_range; refine wpList_range_own _ rfl _ 55 rfl 3 3 intKeyed2 Try.underlying55 _ g _ D0 rfl hM0.1 ?_; intro w0 hrg0 hg0 hs0))
            go_frame
            have HMr : Hid (Mi w0 w2.heap.size T.length S1 (fun k => (T.count k : Int)) D1) := Lib.hid (HM1.out.kept hg0 (by simp))
            have HBr : Hid (Below w2.heap.size w2 w0) := Lib.hid (HBp.out.grown hg0 hbp (by simp))
            obtain ⟨r, er⟩ : ∃ r, r = wq.heap.size := ⟨_, rfl⟩
            rw [← er] at hrg0 ⊢
            have hrn : w2.heap.size ≠ r := by omega
            have HRG : Hid (w2.heap.size ≤ r) := Lib.hid (by omega)
            clear er
            go_loopw [20] (fun _ wr => ∃ (left : Lit → Bool) (cnt : Nat), wr.ranges Try.prog 3 (plainElem (H := Unit) Try.prog 3) g r q.length D0 left cnt ∧ Hid (Mi wr w2.heap.size T.length S1 (fun k => (T.count k : Int)) D1) ∧ Hid (Below w2.heap.size w2 wr)) (fun _ wr => wr.rangeLeft g r)
            case atStart => exact ⟨_, _, hrg0, HMr, HBr⟩
            case round =>
              clear HMr HBr hrg0
              obtain ⟨left, cnt, hrg, HMr, HBr⟩ := hrel
              go_wp2_with (first
                | (at_next; refine wpList_next_ranges_ii _ rfl _ rfl 3 3 .i64 .i64 intKeyed2 Try.underlying3 Try.underlying3 g r q.length _ _ _ rfl hrg ?_ ?_))
              · intro hc0 hl0
                have hl1 : ∀ ty, (Builtin.len_ #[55] ty #[.map (some w2.heap.size)]).run Try.prog wr = .ok (.int .i64 (S0.length : Nat)) wr := fun ty => by rw [HMr.out.1.len Try.underlying55 ty, HMr.out.2.2.2.2, HSS.out]
                have hl2 : ∀ ty, (Builtin.len_ #[55] ty #[.map (some g)]).run Try.prog wr = .ok (.int .i64 (S0.length : Nat)) wr := fun ty => by rw [hrg.owns.len Try.underlying55 ty, HM0.out.2.2.2.2]
                have HGW : Hid (g ≤ wr.heap.size) := Lib.hid (Nat.le_trans (Nat.le_of_lt HGL.out) HBr.out.size)
                have HBe : Hid (Below g w wr) := Lib.hid (HBq.out.trans (HBr.out.mono (Nat.le_of_lt HGL.out)))
                go_wp2_with fail
                refine (HAW.out _).mono ?_
                rintro e w10 ⟨rfl, hb10⟩
                have HB_10 : Hid (Below g w w10) := Lib.hid (HBe.out.trans (hb10.mono HGW.out))
                clear hb10
                go_wp2_with fail
                go_ret
                exact ⟨rfl, by rw [EG.out]; exact HB_10.out⟩
              · intro x cx w1 cnt1 hwx hwc hlx hat hrg1 hlt hg1 hs1 hen
                have hM1 := HMr.out.kept hg1 (by intro e; injection e with e; exact hrn e)
                have hcx : (T.count x : Int) = cx := by
                  have h1 := hat (.lit (.int .i64 0))
                  rw [HM0.out.2.1 x] at h1
                  injection h1 with h1
                  injection h1 with _ h1
                  rw [HCE.out x, h1]
                have hlook := hM1.look x hwx cx hcx
                have HM1' := Lib.hid hM1
                have HB1' : Hid (Below w2.heap.size w2 w1) := Lib.hid (HBr.out.grown hg1 HBr.out.size (by intro b e; injection e with e; have := HRG.out; omega))
                clear hM1 hcx hat
                go_wp2_with fail
                go_roundw
                case rel => exact ⟨_, _, _, _, _, _, _, _, _, _, _, _, _, ⟨_, cnt1, hrg1, HM1', HB1'⟩, rfl⟩
                case measure => rw [hrg1.left_eq, hrg.left_eq]; exact hlt
      ·
        clear HWq HTq H9 HWE hqi
        go_wp2_with fail
        go_loopw [7, 14] (fun v7 v14 wr => ∃ (i : Nat) (Aq : Option Addr) (cq : Nat) (p : List Td) (T : List Int), v7 = .slice Aq p.length cq ∧ v14 = .int .i64 i ∧ i ≤ T.length ∧ T.length ≤ 180 ∧ Hid (mayQ p = true) ∧ Hid ((T.length : Int) + sumT p = sumT q) ∧
          Hid (∀ k : Int, (T.count k : Int) + leftK p k = leftK q k) ∧ Hid (Ts wr Aq p) ∧ Hid (Many wr w2.heap.size T) ∧ Hid (Below w2.heap.size w2 wr)) (fun _ v _ => 400 - (intOf v).toNat)
        case atStart => exact ⟨0, Aq, cq, q, [], rfl, rfl, Nat.le_refl _, by simp, HQ, Lib.hid (by simp), Lib.hid (fun k => by simp), HTN, HMN, HBN⟩
        case round =>
          clear HTN HMN HBN
          obtain ⟨i, A', c', p, T, rfl, rfl, hi, hT180, HP, HSM, HCT, HTp, HMp, HBp⟩ := hrel
          obtain ⟨wq, e⟩ : ∃ wq, wq = wr := ⟨_, rfl⟩
          subst e
          have d3 : decide ((i : Int) < 400) = true := by simp; omega
          have hw1 : IntKind.i64.wrap ((i : Int) + 1) = (i : Int) + 1 := by rw [IntWalk.i64_in _ (by omega)]
          by_cases hp0 : 0 < p.length
          · have d4 : decide ((0 : Int) < (p.length : Int)) = true := by simpa using hp0
            have HTK : Hid (∀ W, Ts W A' p → Calls Try.prog 13 #[.slice A' p.length c', .int .i64 mm] W (Gn W (tellN p mm) (tellR p mm) 0)) := Lib.hid (fun W h => by have := l_take (c := c') h HP.out (mm : Int) (by omega); rwa [Int.toNat_natCast] at this)
            have hnl := tellN_len p mm
            have hs := sumT_rest p mm
            have HCK := Lib.hid (leftK_rest p mm)
            have HMR := Lib.hid (may_tellR HP.out mm)
            have HIN := Lib.hid (tellN_mem HP.out mm)
            generalize tellN p mm = lN at *
            generalize tellR p mm = lR at *
            have hs0 := sumT_ge (fun x hx => (told_bounds HMR.out x hx).1)
            have hsm := HSM.out
            have hsq := HS180.out
            have hnl1 : 1 ≤ lN.length ∧ lN.length ≤ 5 := by omega
            have HSR : Hid (((T.length + lN.length : Nat) : Int) + sumT lR = sumT q) := Lib.hid (by omega)
            have hTN : T.length + lN.length ≤ 180 := by omega
            have d5 : ((lN.length : Int) == 0) = false := by rw [beq_eq_false_iff_ne]; omega
            clear hnl hs hs0 hsm hsq
            go_wp2_with fail
            refine (HTK.out _ HTp.out).mono ?_
            rintro e w3 ⟨A3, c3, A4, c4, rfl, hn3, hl3, hb⟩
            obtain ⟨S1, D1, hM1, hS1⟩ := HMp.out
            have HM3 : Hid (Many w3 w2.heap.size T) := Lib.hid ⟨S1, D1, hM1.on hb, hS1⟩
            have HB3 : Hid (Below w2.heap.size w2 w3) := Lib.hid (HBp.out.trans (hb.mono HBp.out.size))
            have HN3 := Lib.hid hn3
            have HR3 := Lib.hid hl3
            clear hb hn3 hl3 hM1 hS1 HMp HBp HTp HTK
            go_wp2_with fail
            go_loopw [18] (fun v18 wr => ∃ j : Nat, j ≤ lN.length ∧ v18 = .int .i64 j ∧ Hid (Many wr w2.heap.size (T ++ (lN.map Nw.w).take j)) ∧ Hid (Ns wr A3 lN) ∧ Hid (Ts wr A4 lR) ∧ Hid (Below w2.heap.size w2 wr)) (fun v _ => lN.length - (intOf v).toNat)
            case atStart => exact ⟨0, Nat.zero_le _, rfl, by simpa using HM3, HN3, HR3, HB3⟩
            case round =>
              clear HM3 HN3 HR3 HB3
              obtain ⟨j, hj, rfl, HMj, HNj, HRj, HBj⟩ := hrel
              obtain ⟨wj, e⟩ : ∃ wj, wj = wr := ⟨_, rfl⟩
              subst e
              by_cases hlt : j < lN.length
              · obtain ⟨ad3, rfl, hlo, h1⟩ := HNj.out j hlt
                obtain ⟨a0, a1, a2⟩ := h1.flat
                have hwl := nw_w lN j hlt
                have hx := HIN.out _ hwl.2.1
                have HTK := Lib.hid hwl.1
                have HTL : Hid ((T ++ (lN.map Nw.w).take j).length = T.length + j) := Lib.hid (by rw [List.length_append, List.length_take, List.length_map]; omega)
                generalize (nw lN j).w = x at *
                have hcl : (T ++ (lN.map Nw.w).take j).count x ≤ (T ++ (lN.map Nw.w).take j).length := List.count_le_length
                rw [HTL.out] at hcl
                have hlook := HMj.out.look x (wf_in (by omega)) _ rfl
                obtain ⟨w9, hput, hM9, hg9, hts, hns⟩ := HMj.out.put (by rw [HTL.out]; omega) x (wf_in (by omega))
                generalize (T ++ (lN.map Nw.w).take j).count x = cx at *
                have hwc : IntKind.i64.wrap ((cx : Int) + 1) = (cx : Int) + 1 := by rw [IntWalk.i64_in _ (by omega)]
                have k0 : (0 : Int) ≤ (j : Int) := by omega
                have k1 : (j : Int) < (lN.length : Int) := by omega
                have hw2 : IntKind.i64.wrap ((j : Int) + 1) = (j : Int) + 1 := by rw [IntWalk.i64_in _ (by omega)]
                have HM9 : Hid (Many w9 w2.heap.size (T ++ (lN.map Nw.w).take (j + 1))) := Lib.hid (by rw [HTK.out, ← List.append_assoc]; exact hM9)
                have HN9 := Lib.hid (hns _ _ HNj.out)
                have HR9 := Lib.hid (hts _ _ HRj.out)
                have HB9 : Hid (Below w2.heap.size w2 w9) := Lib.hid (HBj.out.grown hg9 HBj.out.size (by intro b e; injection e with e; omega))
                clear h1 hwl hcl hM9 hg9 hts hns HMj HNj HRj HBj hj a1 a2
                go_wp2_with fail
                go_roundw
                case rel => exact ⟨j + 1, by omega, by go_num, HM9, HN9, HR9, HB9⟩
                case measure => simp [intOf]; omega
              · obtain rfl : lN.length = j := by omega
                have HMe : Hid (Many wj w2.heap.size (T ++ lN.map Nw.w)) := Lib.hid (by have h := HMj.out; rwa [List.take_of_length_le (by rw [List.length_map]; exact Nat.le_refl _)] at h)
                have HCT' : Hid (∀ k : Int, ((T ++ lN.map Nw.w).count k : Int) + leftK lR k = leftK q k) := Lib.hid (fun k => by
                  have h1 := HCT.out k
                  have h2 := HCK.out k
                  rw [List.count_append]
                  omega)
                clear HMj hj hlt
                go_wp2_with fail
                go_roundw
                case rel => exact ⟨i + 1, A4, c4, lR, T ++ lN.map Nw.w, rfl, by go_num, by rw [List.length_append, List.length_map]; omega, by rw [List.length_append, List.length_map]; exact hTN, HMR, Lib.hid (by rw [List.length_append, List.length_map]; exact HSR.out), HCT', HRj, HMe, HBj⟩
                case measure => simp [intOf]; omega
          · obtain rfl : p = [] := List.eq_nil_of_length_eq_zero (by omega)
            have HCE : Hid (∀ k : Int, (T.count k : Int) = leftK q k) := Lib.hid (fun k => by have h := HCT.out k; rw [leftK_nil] at h; omega)
            obtain ⟨S1, D1, hM1, hS1⟩ := HMp.out
            obtain ⟨S0, D0, hM0, hS0⟩ := HW2.out _ HBp.out
            have HSS : Hid (S1.length = S0.length) := Lib.hid (len_same hM1.2.2.2.1 hM0.2.2.2.1 (fun k => by
              rw [hS1, hS0, ← (leftK_pos (fun y hy => (told_bounds HQ.out y hy).1) k).2, ← HCE.out k, ← List.count_pos_iff]
              omega))
            have HM1 := Lib.hid hM1
            have HM0 := Lib.hid hM0
            have hbp := HBp.out.size
            have hgl := HGL.out
            have hg2 := hM1.lt
            clear hM1 hS1 hS0 HCT HSM HMp HTp hi hT180 hp0 HS180 HW2
            go_wp2_with (first
              | (at_range; refine wpList_range_own _ rfl _ 55 rfl 3 3 intKeyed2 Try.underlying55 _ g _ D0 rfl hM0.1 ?_; intro w0 hrg0 hg0 hs0))
            go_frame
            have HMr : Hid (Mi w0 w2.heap.size T.length S1 (fun k => (T.count k : Int)) D1) := Lib.hid (HM1.out.kept hg0 (by simp))
            have HBr : Hid (Below w2.heap.size w2 w0) := Lib.hid (HBp.out.grown hg0 hbp (by simp))
            obtain ⟨r, er⟩ : ∃ r, r = wq.heap.size := ⟨_, rfl⟩
            rw [← er] at hrg0 ⊢
            have hrn : w2.heap.size ≠ r := by omega
            have HRG : Hid (w2.heap.size ≤ r) := Lib.hid (by omega)
            clear er
            go_loopw [20] (fun _ wr => ∃ (left : Lit → Bool) (cnt : Nat), wr.ranges Try.prog 3 (plainElem (H := Unit) Try.prog 3) g r q.length D0 left cnt ∧ Hid (Mi wr w2.heap.size T.length S1 (fun k => (T.count k : Int)) D1) ∧ Hid (Below w2.heap.size w2 wr)) (fun _ wr => wr.rangeLeft g r)
            case atStart => exact ⟨_, _, hrg0, HMr, HBr⟩
            case round =>
              clear HMr HBr hrg0
              obtain ⟨left, cnt, hrg, HMr, HBr⟩ := hrel
              go_wp2_with (first
                | (at_next; refine wpList_next_ranges_ii _ rfl _ rfl 3 3 .i64 .i64 intKeyed2 Try.underlying3 Try.underlying3 g r q.length _ _ _ rfl hrg ?_ ?_))
              · intro hc0 hl0
                have hl1 : ∀ ty, (Builtin.len_ #[55] ty #[.map (some w2.heap.size)]).run Try.prog wr = .ok (.int .i64 (S0.length : Nat)) wr := fun ty => by rw [HMr.out.1.len Try.underlying55 ty, HMr.out.2.2.2.2, HSS.out]
                have hl2 : ∀ ty, (Builtin.len_ #[55] ty #[.map (some g)]).run Try.prog wr = .ok (.int .i64 (S0.length : Nat)) wr := fun ty => by rw [hrg.owns.len Try.underlying55 ty, HM0.out.2.2.2.2]
                have HGW : Hid (g ≤ wr.heap.size) := Lib.hid (Nat.le_trans (Nat.le_of_lt HGL.out) HBr.out.size)
                have HBe : Hid (Below g w wr) := Lib.hid (HBq.out.trans (HBr.out.mono (Nat.le_of_lt HGL.out)))
                go_wp2_with fail
                refine (HAW.out _).mono ?_
                rintro e w10 ⟨rfl, hb10⟩
                have HB_10 : Hid (Below g w w10) := Lib.hid (HBe.out.trans (hb10.mono HGW.out))
                clear hb10
                go_wp2_with fail
                go_ret
                exact ⟨rfl, by rw [EG.out]; exact HB_10.out⟩
              · intro x cx w1 cnt1 hwx hwc hlx hat hrg1 hlt hg1 hs1 hen
                have hM1 := HMr.out.kept hg1 (by intro e; injection e with e; exact hrn e)
                have hcx : (T.count x : Int) = cx := by
                  have h1 := hat (.lit (.int .i64 0))
                  rw [HM0.out.2.1 x] at h1
                  injection h1 with h1
                  injection h1 with _ h1
                  rw [HCE.out x, h1]
                have hlook := hM1.look x hwx cx hcx
                have HM1' := Lib.hid hM1
                have HB1' : Hid (Below w2.heap.size w2 w1) := Lib.hid (HBr.out.grown hg1 HBr.out.size (by intro b e; injection e with e; have := HRG.out; omega))
                clear hM1 hcx hat
                go_wp2_with fail
                go_roundw
                case rel => exact ⟨_, _, _, _, _, _, _, _, _, _, _, _, _, ⟨_, cnt1, hrg1, HM1', HB1'⟩, rfl⟩
                case measure => rw [hrg1.left_eq, hrg.left_eq]; exact hlt

theorem walk (A : Option Addr) (c : Nat) (l : List Nw) (x y : Nat) (w : World) (hx : x ≤ 255) (hy : y ≤ 255) (hl : l.length ≤ c ∧ c ≤ maxLen ∧ Ns w A l) :
    Calls Try.prog 5 #[.slice A l.length c, .int .u8 x, .int .u8 y] w fun e w' => e = .returned (.bool true) ∧ Below w.heap.size w w' :=
  way A c x y (y % 5) (1 + y % 5) l w hx hy rfl rfl (by have := hl.2.1; unfold maxLen at this; omega) hl.2.2

theorem parOk : ∀ t ∈ (#[37, 5, 5] : Array TypeId).toList, Try.prog.readableRec t = true ∧ t < Try.prog.types.size := by
  have hall : ([37, 5, 5].all fun t => Try.prog.readableRec t && decide (t < Try.prog.types.size)) = true := by kernel_rfl
  intro t ht
  simpa using List.all_eq_true.1 hall t ht

set_option maxRecDepth 100000 in
/-- What the walk gives, for every argument. -/
theorem contract (H : Type) (enc : TypeId × Value → H) (W : World) (base : Nat) (args : Array Value) (ds gs : List (DataW H)) (before : List MemPlace)
    (hval : ∀ (j : Nat) t v, Try.f5.params[j]? = some t → args[j]? = some v → Value.okWide Try.prog W .any base t v)
    (hW : DataW.Whole enc Try.prog Try.f5.params.toList Rows.newsOftenSpec.vars false W args.toList ds gs before) :
    Calls Try.prog 5 args W fun e W' => ∃ v, e = .returned v ∧ Rows.newsOftenSpec.post enc Try.prog Try.f5 false true false false W args v W' := by
  have hW' := hW
  obtain ⟨p, q, hA0, hV, rfl, hfz, hnd⟩ := hW
  have hA : DataW.TrodAll enc Try.prog W 0 (fun _ => true) true Try.f5.params.toList args.toList ds p := hA0
  rw [Try.params5] at hA hval
  obtain ⟨v0, vs0, d0, ds0, p0, q0, hargs, rfl, rfl, h0, r0⟩ := trodAll_cons hA
  obtain ⟨v1, vs1, d1, ds1, p1, q1, rfl, rfl, rfl, h1, r1⟩ := trodAll_cons r0
  obtain ⟨v2, vs2, d2, ds2, p2, q2, rfl, rfl, rfl, h2, r2⟩ := trodAll_cons r1
  obtain ⟨rfl, rfl, rfl⟩ := trodAll_nil r2
  obtain rfl : args = #[v0, v1, v2] := by cases args; simp_all
  obtain ⟨rfl, rfl⟩ := trodVars_none hV
  obtain ⟨A, c, l, rfl, hl⟩ := open_nws (hval 0 37 v0 rfl rfl) h0
  obtain ⟨x, rfl, hx⟩ := open_u8 (hval 1 5 v1 rfl rfl) h1
  obtain ⟨y, rfl, hy⟩ := open_u8 (hval 2 5 v2 rfl rfl) h2
  clear hA0
  refine (walk A c l x y W hx hy hl).mono fun e W' ⟨he, hb⟩ => ?_
  subst he
  exact ⟨_, rfl, law_post rfl (by rw [Try.params5]; exact parOk) rfl hW' rfl rfl rfl hb⟩

set_option maxRecDepth 100000 in
theorem lifted (os : Os) (started : os.Started) (H : Type) (enc : TypeId × Value → H) :
    ReturnsInHanded {} Try.checked os 5 .any (Rows.newsOftenSpec.pre6 enc Try.prog Try.f5 Rows.newsOftenRow.domain false) (Rows.newsOftenSpec.post enc Try.prog Try.f5 false true false false) := by
  refine returnsInHanded_of_change (C := Try.checked) own started (by kernel_rfl) Try.func5
    (ChangeSpec.witness6 (enc := enc) (C := Try.checked) false ⟨#[], #[.slice none 0 0, .int .u8 0, .int .u8 0], []⟩ 8 (by kernel_rfl) (by kernel_rfl) (by kernel_rfl) (by kernel_rfl)) ?_
  intro W base args ds gs before hval hW _ _
  exact contract H enc W base args ds gs before hval hW

/-- THE STATEMENT. -/
theorem said : Rows.NewsOftenSaid :=
  OpenClaim.holds_of_wide 5 Try.f5 rfl rfl rfl rfl rfl rfl rfl ⟨rfl, rfl, rfl, rfl, rfl⟩ rfl rfl rfl rfl rfl (by kernel_rfl) Try.func5 (by kernel_rfl)
    (of_decide_eq_true (by kernel_rfl)) (by unfold Func.isWrapper; first | (rw [if_pos (by decide +kernel)]; kernel_rfl) | (rw [if_neg (by decide +kernel)]; exact ⟨rfl, rfl⟩))
    (fun os started H enc _ => lifted os started H enc)
end Go.Proofs.Ytipepmnnjhhjbaa.lawOften
