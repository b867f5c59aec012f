/-
  VoteWaits: behind a restart nothing is granted until the term is over: the law returns true for every input.
-/
import Derived.Test.YtlefnohcfnlejaaPf
namespace Go.Proofs.Ytlefnohcfnlejaa.lawWaits
open Go.Sort Go.ChangeShapes Go.WideShapes Go.ChangeAt Go.RowKit Go.Joins Go.Proofs.Ytlefnohcfnlejaa.Pure

set_option maxRecDepth 100000 in
set_option maxHeartbeats 4000000 in
theorem walk (x : Tm) (A : Option Addr) (cA : Nat) (l : List Rs) (w : World) (hl : RL w A l) (hf : ∀ j, j < l.length → FitR (rs l j)) : Calls Try.prog 5 #[.agg #[.int .i64 x.t, .int .i64 x.d, .int .i64 x.r], .slice A l.length cA] w fun e w' => e = .returned (.bool true) ∧ Below w.heap.size w w' := by
  have HAW := Lib.hid (fun W => awake_any W)
  have HRH := Lib.hid (fun W => rhold_any x W)
  have HLl : Hid (∀ W, Below w.heap.size w W → RL W A l) := Lib.hid (fun W hb => hl.on hb)
  have HB_0 : Hid (Below w.heap.size w (w.alloc (.cells #[.int .i64 x.t, .int .i64 x.d, .int .i64 x.r] 23))) := Lib.hid ((Below.refl _ _).alloc (Nat.le_refl _) _)
  have HT_0 := Lib.hid (TmA.new w x 23)
  by_cases hz : holdF x = 0
  · rw [hz] at HRH
    clear HLl hl hf hz
    go_enter Try.func5, Try.ntmps5
    go_upto_region 1 with (fail)
    generalize w.alloc (.cells #[.int .i64 x.t, .int .i64 x.d, .int .i64 x.r] 23) = w0 at *
    obtain ⟨t0, t1, t2⟩ := HT_0.out
    try simp only at t0 t1 t2
    go_wp2_with fail
    refine (HRH.out _).mono ?_
    rintro e w1 ⟨rfl, hb⟩
    clear t0 t1 t2
    have B_1 := Lib.hid (HB_0.out.trans (hb.mono HB_0.out.size))
    have t_1 := Lib.hid (HT_0.out.on hb)
    clear HB_0 HT_0
    clear hb
    go_wp2_with fail
    refine (HAW.out _).mono ?_
    rintro e w2 ⟨rfl, hb⟩
    have B_2 := Lib.hid (B_1.out.trans (hb.mono B_1.out.size))
    have t_2 := Lib.hid (t_1.out.on hb)
    clear B_1 t_1
    clear hb
    go_wp2_with fail
    go_ret
    exact ⟨rfl, B_2.out⟩
  · obtain ⟨K, hK⟩ : ∃ K, K = min l.length 60 := ⟨_, rfl⟩
    have HPL := Lib.hid (fun W (h : RL W A l) => played_any x A cA l W h hf hz K hK)
    obtain ⟨ht, hw, hb, ha, ho, hr, hwt⟩ := py_all hz hf K hK
    have HF := Lib.hid hf
    have HK := Lib.hid hK
    have HNB := Lib.hid (fun i (h1 : i < l.length) (h2 : i < 60) => (played_facts (x := x) hz hf h1 h2).1)
    have HAG := Lib.hid (fun i (h : i < K) => py_again (x := x) (l := l) h (by omega))
    have HBD := Lib.hid hb
    have HBA := Lib.hid ha
    have HON := Lib.hid ho
    have HRI := Lib.hid hr
    have HWT := Lib.hid hwt
    have HFW := Lib.hid hw
    have z : (holdF x == 0) = false := by simpa using hz
    clear hl hf hz hb ha ho hr hwt hK hw
    generalize holdF x = hh at HRH z
    go_enter Try.func5, Try.ntmps5
    go_upto_region 1 with (fail)
    generalize w.alloc (.cells #[.int .i64 x.t, .int .i64 x.d, .int .i64 x.r] 23) = w0 at *
    obtain ⟨t0, t1, t2⟩ := HT_0.out
    try simp only at t0 t1 t2
    go_wp2_with fail
    refine (HRH.out _).mono ?_
    rintro e w1 ⟨rfl, hb⟩
    clear t0 t1 t2
    have B_1 := Lib.hid (HB_0.out.trans (hb.mono HB_0.out.size))
    have t_1 := Lib.hid (HT_0.out.on hb)
    clear HB_0 HT_0
    clear hb
    obtain ⟨t0, t1, t2⟩ := t_1.out
    try simp only at t0 t1 t2
    go_wp2_with fail
    refine (HPL.out _ (HLl.out _ B_1.out)).mono ?_
    rintro e w9 ⟨vo, va, rfl, hO, hA, hb⟩
    clear t0 t1 t2
    have B_2 := Lib.hid (B_1.out.trans (hb.mono B_1.out.size))
    have t_2 := Lib.hid (t_1.out.on hb)
    clear B_1 t_1
    obtain ⟨A1, c1, rfl, hc1, hG⟩ := hO.lst
    obtain ⟨A2, c2, rfl, hc2, hN⟩ := hA.has
    have HG := Lib.hid hG
    have HN := Lib.hid hN
    clear hb hO hA hG hN HPL HRH z hc1 hc2
    generalize (pyF x l K).o = O at *
    generalize (pyF x l K).a = N at *
    clear HRI HON
    obtain ⟨ht1, ht2⟩ := ht
    go_wp2_with fail
    go_loopw [8, 10, 11] (fun vn va vi wr => ∃ i : Nat, vi = .int .i64 (i : Nat) ∧ vn = .int .i64 (pyF x l i).n ∧ va = .int .i64 ((pyF x l i).a.length : Nat) ∧ i ≤ l.length ∧ i ≤ 60 ∧ Hid (Below w9.heap.size w9 wr)) (fun _ _ i _ => 60 - (intOf i).toNat)
    case atStart => exact ⟨0, rfl, rfl, rfl, Nat.zero_le _, Nat.zero_le _, Lib.hid (Below.refl _ _)⟩
    case round =>
      obtain ⟨i, rfl, rfl, rfl, hi, hi60, hB9⟩ := hrel
      have hfw := HFW.out
      have y1 : IntKind.i64.wrap ((i : Int) + 1) = (i : Int) + 1 := IntWalk.i64_in _ (by omega)
      by_cases hin : i < l.length ∧ i < 60
      · obtain ⟨h1, h2⟩ := hin
        have e1 : decide ((i : Int) < (l.length : Int)) = true := decide_eq_true (by omega)
        have e1' : decide (i < l.length) = true := decide_eq_true h1
        have e2 : decide ((i : Int) < 60) = true := decide_eq_true (by omega)
        have e2' : decide (i < 60) = true := decide_eq_true h2
        have k0 : (0 : Int) ≤ (i : Int) := by omega
        have k1 : (i : Int) < (l.length : Int) := by omega
        have hBr := Lib.hid (B_2.out.trans (hB9.out.mono B_2.out.size))
        obtain ⟨ad, rfl, hlo, hat⟩ := (HLl.out _ hBr.out) i h1
        have hat := hat.flat
        obtain ⟨n0, n9⟩ := HNB.out i h1 h2
        obtain ⟨g1, g2, g3⟩ := HAG.out i (by have := HK.out; omega)
        obtain ⟨-, -, ⟨l0, l9⟩⟩ := HF.out i h1
        clear HNB HAG HF HLl HK hlo hBr HWT HBD HBA HG
        generalize rs l i = r at *
        obtain ⟨rf, re, rl, ra⟩ := r
        simp only at g1 g2 g3 l0 l9 hat
        obtain ⟨i0, i1, i2, i3⟩ := hat
        generalize (pyF x l i).n = M at *
        generalize (pyF x l i).a.length = aL at *
        have q1 : Int.tmod rl 16 = rl % 16 := Int.tmod_eq_emod_of_nonneg l0
        obtain ⟨dl, hdl⟩ : ∃ d, d = rl % 16 := ⟨_, rfl⟩
        rw [← hdl] at q1 g1 g3
        have b1 : 0 ≤ dl ∧ dl < 16 := by omega
        have w1' : IntKind.i64.wrap dl = dl := IntWalk.i64_in _ (by omega)
        have w4' : IntKind.u8.wrap dl = dl := by simp [IntKind.wrap, IntKind.bits, IntKind.signed]; omega
        have p1 : rl % 16 = dl := hdl.symm
        obtain ⟨N2, hN3⟩ : ∃ N2, N2 = M + dl := ⟨_, rfl⟩
        rw [← hN3] at g1 g3
        have w7' : IntKind.i64.wrap (M + dl) = N2 := by rw [hN3]; exact IntWalk.i64_in _ (by omega)
        have HG1 := Lib.hid g1
        clear hdl hN3 l0 l9 g1
        rcases ra with _ | _
        · rw [if_neg (by decide)] at g2
          have HG2 := Lib.hid g2
          clear g2 g3
          go_wp2_with fail
          go_roundw
          case rel => exact ⟨i + 1, rfl, by rw [HG1.out], by rw [HG2.out], by omega, by omega, hB9⟩
          case measure => simp [intOf]; omega
        · rw [if_pos rfl] at g2
          obtain ⟨g4, g5⟩ := g3 rfl
          have HG2 := Lib.hid g2
          clear g2 g3
          obtain ⟨ad2, rfl, -, -, c0⟩ := (HN.out.on hB9.out (Nat.le_refl _)) aL g4
          rw [g5] at c0
          clear g5
          have z1 : decide ((N.length : Int) ≤ (aL : Int)) = false := decide_eq_false (by omega)
          have z1' : decide (N.length ≤ aL) = false := decide_eq_false (by omega)
          have z2 : (N2 != N2) = false := by simp
          have k2 : (0 : Int) ≤ (aL : Int) := by omega
          have k3 : (aL : Int) < (N.length : Int) := by omega
          have y2 : IntKind.i64.wrap ((aL : Int) + 1) = (aL : Int) + 1 := IntWalk.i64_in _ (by omega)
          go_wp2_with fail
          go_roundw
          case rel => exact ⟨i + 1, rfl, by rw [HG1.out], by rw [HG2.out]; rfl, by omega, by omega, hB9⟩
          case measure => simp [intOf]; omega
      · clear HNB HAG HF HLl HK
        by_cases h1 : i < l.length
        · have e1 : decide ((i : Int) < (l.length : Int)) = true := decide_eq_true (by omega)
          have e1' : decide (i < l.length) = true := decide_eq_true h1
          have e2 : decide ((i : Int) < 60) = false := decide_eq_false (by omega)
          have e2' : decide (i < 60) = false := decide_eq_false (by omega)
          have hB7 := hB9
          clear hB9
          go_wp2_with fail
          go_loopw [9, 10] (fun vk va wr => ∃ n : Nat, vk = .int .i64 (n : Nat) ∧ n ≤ O.length ∧ Hid (Below w9.heap.size w9 wr)) (fun k _ _ => O.length - (intOf k).toNat)
          case atStart => exact ⟨0, rfl, Nat.zero_le _, hB7⟩
          case round =>
            clear hB7
            obtain ⟨n, rfl, hn, hB9⟩ := hrel
            have y3 : IntKind.i64.wrap ((n : Int) + 1) = (n : Int) + 1 := IntWalk.i64_in _ (by omega)
            by_cases h3 : n < O.length
            · have e3 : decide ((n : Int) < (O.length : Int)) = true := decide_eq_true (by omega)
              have e3' : decide (n < O.length) = true := decide_eq_true (by omega)
              have hB8 := hB9
              go_wp2_with fail
              go_loopw [10] (fun va wr => ∃ m : Nat, va = .int .i64 (m : Nat) ∧ m ≤ N.length ∧ Hid (Below w9.heap.size w9 wr)) (fun k _ => N.length - (intOf k).toNat)
              case atStart => exact ⟨0, rfl, Nat.zero_le _, hB8⟩
              case round =>
                clear hB9 hB8
                obtain ⟨m, rfl, hm, hB9⟩ := hrel
                have y4 : IntKind.i64.wrap ((m : Int) + 1) = (m : Int) + 1 := IntWalk.i64_in _ (by omega)
                by_cases h4 : m < N.length
                · have e4 : decide ((m : Int) < (N.length : Int)) = true := decide_eq_true (by omega)
                  have e4' : decide (m < N.length) = true := decide_eq_true (by omega)
                  have c := HWT.out n m h3 h4
                  have b1 := (HBD.out n h3).1
                  have b2 := HBA.out m h4
                  obtain ⟨ad, rfl, _, a1⟩ := (HG.out.on hB9.out) n h3
                  obtain ⟨ad2, rfl, -, -, c0⟩ := (HN.out.on hB9.out (Nat.le_refl _)) m h4
                  obtain ⟨i0, i1, i2⟩ := a1.flat
                  clear a1 i0 i1
                  generalize gr O n = G1 at *
                  generalize N.getD m 0 = a at *
                  obtain ⟨t0, t1, t2⟩ := t_2.out.on hB9.out
                  have k0 : (0 : Int) ≤ (n : Int) := by omega
                  have k1 : (n : Int) < (O.length : Int) := by omega
                  have k2 : (0 : Int) ≤ (m : Int) := by omega
                  have k3 : (m : Int) < (N.length : Int) := by omega
                  have x1 : IntKind.i64.wrap (a + x.t) = a + x.t := IntWalk.i64_in _ (by omega)
                  by_cases hq : a < G1.n
                  · have q : decide (a < G1.n) = true := decide_eq_true hq
                    have q2 : decide (G1.n < a + x.t) = false := decide_eq_false (by omega)
                    clear c hq
                    go_upto_region 21 with (fail)
                    have Ri2 := fun p : Regrown => cell_regrown i2 p.d p.os
                    have Rc0 := fun p : Regrown => cell_regrown c0 p.d p.os
                    have Rt0 := fun p : Regrown => cell_regrown t0 p.d p.os
                    clear i2 c0 t0
                    refine q_enter (by kernel_rfl) (by kernel_rfl) ?_
                    iterate 25 (refine q_step ?_; intro K hK; go_simp; refine hK _ ?_; clear hK K)
                    refine q_nil ?_
                    intro wz hbz
                    have hBz := Lib.hid (hB9.out.trans (hbz.mono hB9.out.size))
                    clear hbz Ri2 Rc0 Rt0
                    go_wp2_with fail
                    go_roundw
                    case rel => exact ⟨m + 1, rfl, by omega, hBz⟩
                    case measure => simp [intOf]; omega
                  · have q : decide (a < G1.n) = false := decide_eq_false hq
                    clear c hq
                    go_upto_region 21 with (fail)
                    have Ri2 := fun p : Regrown => cell_regrown i2 p.d p.os
                    have Rc0 := fun p : Regrown => cell_regrown c0 p.d p.os
                    have Rt0 := fun p : Regrown => cell_regrown t0 p.d p.os
                    clear i2 c0 t0
                    refine q_enter (by kernel_rfl) (by kernel_rfl) ?_
                    iterate 25 (refine q_step ?_; intro K hK; go_simp; refine hK _ ?_; clear hK K)
                    refine q_nil ?_
                    intro wz hbz
                    have hBz := Lib.hid (hB9.out.trans (hbz.mono hB9.out.size))
                    clear hbz Ri2 Rc0 Rt0
                    go_wp2_with fail
                    go_roundw
                    case rel => exact ⟨m + 1, rfl, by omega, hBz⟩
                    case measure => simp [intOf]; omega
                · have e4 : decide ((m : Int) < (N.length : Int)) = false := decide_eq_false (by omega)
                  have e4' : decide (m < N.length) = false := decide_eq_false (by omega)
                  go_wp2_with fail
                  go_roundw
                  case rel => exact ⟨n + 1, rfl, by omega, hB9⟩
                  case measure => simp [intOf]; omega
            · have e3 : decide ((n : Int) < (O.length : Int)) = false := decide_eq_false (by omega)
              have e3' : decide (n < O.length) = false := decide_eq_false (by omega)
              have hBr := Lib.hid (B_2.out.trans (hB9.out.mono B_2.out.size))
              go_wp2_with fail
              refine (HAW.out _).mono ?_
              rintro e w2 ⟨rfl, hb⟩
              have B_3 := Lib.hid (hBr.out.trans (hb.mono hBr.out.size))
              clear hBr
              clear hb
              go_wp2_with fail
              go_ret
              exact ⟨rfl, B_3.out⟩
        · have e1 : decide ((i : Int) < (l.length : Int)) = false := decide_eq_false (by omega)
          have e1' : decide (i < l.length) = false := decide_eq_false h1
          have hB7 := hB9
          clear hB9
          go_wp2_with fail
          go_loopw [9, 10] (fun vk va wr => ∃ n : Nat, vk = .int .i64 (n : Nat) ∧ n ≤ O.length ∧ Hid (Below w9.heap.size w9 wr)) (fun k _ _ => O.length - (intOf k).toNat)
          case atStart => exact ⟨0, rfl, Nat.zero_le _, hB7⟩
          case round =>
            clear hB7
            obtain ⟨n, rfl, hn, hB9⟩ := hrel
            have y3 : IntKind.i64.wrap ((n : Int) + 1) = (n : Int) + 1 := IntWalk.i64_in _ (by omega)
            by_cases h3 : n < O.length
            · have e3 : decide ((n : Int) < (O.length : Int)) = true := decide_eq_true (by omega)
              have e3' : decide (n < O.length) = true := decide_eq_true (by omega)
              have hB8 := hB9
              go_wp2_with fail
              go_loopw [10] (fun va wr => ∃ m : Nat, va = .int .i64 (m : Nat) ∧ m ≤ N.length ∧ Hid (Below w9.heap.size w9 wr)) (fun k _ => N.length - (intOf k).toNat)
              case atStart => exact ⟨0, rfl, Nat.zero_le _, hB8⟩
              case round =>
                clear hB9 hB8
                obtain ⟨m, rfl, hm, hB9⟩ := hrel
                have y4 : IntKind.i64.wrap ((m : Int) + 1) = (m : Int) + 1 := IntWalk.i64_in _ (by omega)
                by_cases h4 : m < N.length
                · have e4 : decide ((m : Int) < (N.length : Int)) = true := decide_eq_true (by omega)
                  have e4' : decide (m < N.length) = true := decide_eq_true (by omega)
                  have c := HWT.out n m h3 h4
                  have b1 := (HBD.out n h3).1
                  have b2 := HBA.out m h4
                  obtain ⟨ad, rfl, _, a1⟩ := (HG.out.on hB9.out) n h3
                  obtain ⟨ad2, rfl, -, -, c0⟩ := (HN.out.on hB9.out (Nat.le_refl _)) m h4
                  obtain ⟨i0, i1, i2⟩ := a1.flat
                  clear a1 i0 i1
                  generalize gr O n = G1 at *
                  generalize N.getD m 0 = a at *
                  obtain ⟨t0, t1, t2⟩ := t_2.out.on hB9.out
                  have k0 : (0 : Int) ≤ (n : Int) := by omega
                  have k1 : (n : Int) < (O.length : Int) := by omega
                  have k2 : (0 : Int) ≤ (m : Int) := by omega
                  have k3 : (m : Int) < (N.length : Int) := by omega
                  have x1 : IntKind.i64.wrap (a + x.t) = a + x.t := IntWalk.i64_in _ (by omega)
                  by_cases hq : a < G1.n
                  · have q : decide (a < G1.n) = true := decide_eq_true hq
                    have q2 : decide (G1.n < a + x.t) = false := decide_eq_false (by omega)
                    clear c hq
                    go_upto_region 21 with (fail)
                    have Ri2 := fun p : Regrown => cell_regrown i2 p.d p.os
                    have Rc0 := fun p : Regrown => cell_regrown c0 p.d p.os
                    have Rt0 := fun p : Regrown => cell_regrown t0 p.d p.os
                    clear i2 c0 t0
                    refine q_enter (by kernel_rfl) (by kernel_rfl) ?_
                    iterate 25 (refine q_step ?_; intro K hK; go_simp; refine hK _ ?_; clear hK K)
                    refine q_nil ?_
                    intro wz hbz
                    have hBz := Lib.hid (hB9.out.trans (hbz.mono hB9.out.size))
                    clear hbz Ri2 Rc0 Rt0
                    go_wp2_with fail
                    go_roundw
                    case rel => exact ⟨m + 1, rfl, by omega, hBz⟩
                    case measure => simp [intOf]; omega
                  · have q : decide (a < G1.n) = false := decide_eq_false hq
                    clear c hq
                    go_upto_region 21 with (fail)
                    have Ri2 := fun p : Regrown => cell_regrown i2 p.d p.os
                    have Rc0 := fun p : Regrown => cell_regrown c0 p.d p.os
                    have Rt0 := fun p : Regrown => cell_regrown t0 p.d p.os
                    clear i2 c0 t0
                    refine q_enter (by kernel_rfl) (by kernel_rfl) ?_
                    iterate 25 (refine q_step ?_; intro K hK; go_simp; refine hK _ ?_; clear hK K)
                    refine q_nil ?_
                    intro wz hbz
                    have hBz := Lib.hid (hB9.out.trans (hbz.mono hB9.out.size))
                    clear hbz Ri2 Rc0 Rt0
                    go_wp2_with fail
                    go_roundw
                    case rel => exact ⟨m + 1, rfl, by omega, hBz⟩
                    case measure => simp [intOf]; omega
                · have e4 : decide ((m : Int) < (N.length : Int)) = false := decide_eq_false (by omega)
                  have e4' : decide (m < N.length) = false := decide_eq_false (by omega)
                  go_wp2_with fail
                  go_roundw
                  case rel => exact ⟨n + 1, rfl, by omega, hB9⟩
                  case measure => simp [intOf]; omega
            · have e3 : decide ((n : Int) < (O.length : Int)) = false := decide_eq_false (by omega)
              have e3' : decide (n < O.length) = false := decide_eq_false (by omega)
              have hBr := Lib.hid (B_2.out.trans (hB9.out.mono B_2.out.size))
              go_wp2_with fail
              refine (HAW.out _).mono ?_
              rintro e w2 ⟨rfl, hb⟩
              have B_3 := Lib.hid (hBr.out.trans (hb.mono hBr.out.size))
              clear hBr
              clear hb
              go_wp2_with fail
              go_ret
              exact ⟨rfl, B_3.out⟩

theorem parOk : ∀ t ∈ (#[23, 24] : Array TypeId).toList, Try.prog.readableRec t = true ∧ t < Try.prog.types.size := by
  have hall : ([23, 24].all fun t => Try.prog.readableRec t && decide (t < Try.prog.types.size)) = true := by kernel_rfl
  intro t ht
  simpa using List.all_eq_true.1 hall t ht

set_option maxRecDepth 100000 in
/-- What the walk gives, for every argument. -/
theorem contract (H : Type) (enc : TypeId × Value → H) (W : World) (base : Nat) (args : Array Value) (ds gs : List (DataW H)) (before : List MemPlace)
    (hval : ∀ (j : Nat) t v, Try.f5.params[j]? = some t → args[j]? = some v → Value.okWide Try.prog W .any base t v)
    (hW : DataW.Whole enc Try.prog Try.f5.params.toList Rows.voteWaitsSpec.vars false W args.toList ds gs before) :
    Calls Try.prog 5 args W fun e W' => ∃ v, e = .returned v ∧ Rows.voteWaitsSpec.post enc Try.prog Try.f5 false true false false W args v W' := by
  have hW' := hW
  obtain ⟨p, q, hA0, hV, rfl, hfz, hnd⟩ := hW
  have hA : DataW.TrodAll enc Try.prog W 0 (fun _ => true) true Try.f5.params.toList args.toList ds p := hA0
  rw [Try.params5] at hA hval
  obtain ⟨v0, vs0, d0, ds0, p0, q0, hargs, rfl, rfl, h0, r0⟩ := trodAll_cons hA
  obtain ⟨v1, vs1, d1, ds1, p1, q1, rfl, rfl, rfl, h1, r1⟩ := trodAll_cons r0
  obtain ⟨rfl, rfl, rfl⟩ := trodAll_nil r1
  obtain rfl : args = #[v0, v1] := by cases args; simp_all
  obtain ⟨rfl, rfl⟩ := trodVars_none hV
  obtain ⟨x, rfl, hx⟩ := open_tm (hval 0 23 v0 rfl rfl) h0
  obtain ⟨A, cA, l, rfl, hcA, hmA, hl, hfl⟩ := open_steps (hval 1 24 v1 rfl rfl) h1
  clear hA0
  refine (walk x A cA l W hl hfl).mono fun e W' ⟨he, hb⟩ => ?_
  subst he
  exact ⟨_, rfl, law_post rfl (by rw [Try.params5]; exact parOk) rfl hW' rfl rfl rfl hb⟩

set_option maxRecDepth 100000 in
theorem lifted (os : Os) (started : os.Started) (H : Type) (enc : TypeId × Value → H) :
    ReturnsInHanded {} Try.checked os 5 .any (Rows.voteWaitsSpec.pre6 enc Try.prog Try.f5 Rows.voteWaitsRow.domain false) (Rows.voteWaitsSpec.post enc Try.prog Try.f5 false true false false) := by
  refine returnsInHanded_of_change (C := Try.checked) own started (by kernel_rfl) Try.func5
    (ChangeSpec.witness6 (enc := enc) (C := Try.checked) false ⟨#[], #[.agg #[.int .i64 0, .int .i64 0, .int .i64 0], .slice none 0 0], []⟩ 8 (by kernel_rfl) (by kernel_rfl) (by kernel_rfl) (by kernel_rfl)) ?_
  intro W base args ds gs before hval hW _ _
  exact contract H enc W base args ds gs before hval hW

/-- THE STATEMENT. -/
theorem said : Rows.VoteWaitsSaid :=
  OpenClaim.holds_of_wide 5 Try.f5 rfl rfl rfl rfl rfl rfl rfl ⟨rfl, rfl, rfl, rfl, rfl⟩ rfl rfl rfl rfl rfl (by kernel_rfl) Try.func5 (by kernel_rfl)
    (of_decide_eq_true (by kernel_rfl)) (by unfold Func.isWrapper; first | (rw [if_pos (by decide +kernel)]; kernel_rfl) | (rw [if_neg (by decide +kernel)]; exact ⟨rfl, rfl⟩))
    (fun os started H enc _ => lifted os started H enc)
end Go.Proofs.Ytlefnohcfnlejaa.lawWaits
