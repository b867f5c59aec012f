/-
  TableOrders, where more than is looked at is to be applied.
-/
import Derived.Test.YtmfpipcedblklaaLaw
import Derived.Test.YtmfpipcedblklaaOrd
namespace Go.Proofs.Ytmfpipcedblklaa.lawOrders
open Go.Sort Go.ChangeShapes Go.WideShapes Go.ChangeAt Go.RowKit Go.Joins Go.Proofs.Ytmfpipcedblklaa.Pure

theorem three_onLong {w w' : World} {p q r : Addr} {v1 v2 v3 : Value} (h : w.cell? p = some v1 ∧ w.cell? q = some v2 ∧ w.cell? r = some v3) (hb : Below w.heap.size w w') : w'.cell? p = some v1 ∧ w'.cell? q = some v2 ∧ w'.cell? r = some v3 :=
  ⟨cell_on h.1 hb, cell_on h.2.1 hb, cell_on h.2.2 hb⟩
set_option maxRecDepth 100000 in
set_option maxHeartbeats 4000000 in
theorem wayLong (A C D : Option Addr) (al : Addr) (kt nt nl nw no ca cb cc cd : Nat) (t l : List Kn) (who order : List Int) (wh : Nat → Nat) (w : World) (HF : Hid (∀ W : World, Calls Try.prog 9 #[.slice A kt ca] W fun e w' => e = .returned (.slice A nt ca) ∧ Below W.heap.size W w')) (HC : Hid (∀ W : World, Lst W A t → Calls Try.prog 16 #[.slice A nt ca] W fun e w' => e = .returned (.int .i64 0) ∧ Below W.heap.size W w'))
    (HQ : Hid (∀ i, Int.tmod (who.getD (i % nw) 0) (nt : Int) = ((wh i : Nat) : Int) ∧ wh i < nt ∧ 0 ≤ who.getD (i % nw) 0 ∧ who.getD (i % nw) 0 ≤ 255))
    (HMY : Hid (∀ (W : World) k, Calls Try.prog 25 #[.agg #[.int .u64 (kn l k).i, .int .i64 (kn l k).s]] W fun e w' => e = .returned (.bool (mayK (kn l k))) ∧ Below W.heap.size W w'))
    (HA : Hid (∀ (W : World) X cx j, j < 12 → mayK (kn l j) = true → Lst W X (runA t l wh j) → Calls Try.prog 12 #[.slice X nt cx, .int .i64 (wh j : Nat), .agg #[.int .u64 (kn l j).i, .int .i64 (kn l j).s]] W fun e w' => ∃ A' c' bo, e = .returned (.tuple #[.slice A' nt c', .bool bo, .int .i64 0]) ∧ Lst w' A' (runA t l wh (j + 1)) ∧ Below W.heap.size W w'))
    (HBT : Hid (∀ (W : World) (p : Regrown) j k, j < 12 → mayK (kn l j) = true → k < nt → Calls Try.prog 29 #[.agg #[.int .u64 (kn (runA t l wh j) k).i, .int .i64 (kn (runA t l wh j) k).s], .agg #[.int .u64 (kn (runA t l wh (j + 1)) k).i, .int .i64 (kn (runA t l wh (j + 1)) k).s]] (grow (redrawn W p.d) p.os) fun e w' => e = .returned (.bool false) ∧ Below (grow (redrawn W p.d) p.os).heap.size (grow (redrawn W p.d) p.os) w'))
    (HAB : Hid (mayL l = true → ∀ (W : World) X cx b k, Mid t (runA t l wh 12) b → k < 12 → Lst W X b → Calls Try.prog 12 #[.slice X nt cx, .int .i64 (wh k : Nat), .agg #[.int .u64 (kn l k).i, .int .i64 (kn l k).s]] W fun e w' => ∃ A' c' bo, e = .returned (.tuple #[.slice A' nt c', .bool bo, .int .i64 0]) ∧ Lst w' A' (appL b (wh k) (kn l k)) ∧ Below W.heap.size W w'))
    (HSM : Hid (∀ (W : World) X cx Y cy, Lst W X (runA t l wh 12) → Lst W Y (runA t l wh 12) → Calls Try.prog 11 #[.slice X nt cx, .slice Y nt cy] W fun e w' => e = .returned (.bool true) ∧ Below W.heap.size W w'))
    (HM0 : Hid (mayL l = true → Mid t (runA t l wh 12) t)) (HM1 : Hid (mayL l = true → ∀ b k, Mid t (runA t l wh 12) b → k < 12 → Mid t (runA t l wh 12) (appL b (wh k) (kn l k))))
    (HL0 : Hid (∀ b, Mid t (runA t l wh 12) b → Late t (runA t l wh 12) l b wh 12)) (HL1 : Hid (mayL l = true → ∀ b m, Late t (runA t l wh 12) l b wh (m + 1) → m < 12 → Late t (runA t l wh 12) l (appL b (wh m) (kn l m)) wh m))
    (HLE : Hid (mayL l = true → ∀ b, Late t (runA t l wh 12) l b wh 0 → runA t l wh 12 = b)) (HLN : Hid (∀ i, (runA t l wh i).length = nt))
    (hT : Lst w A t) (hLl : Lst w (some al) l) (hW : Octs w C who) (hO : Octs w D order) (hnt : 1 ≤ nt ∧ nt ≤ 64) (hnw : who.length = nw) (hnw1 : 1 ≤ nw) (hwm : nw ≤ maxLen) (hno : order.length = no) (hn : l.length = 12) (hnl : 12 < nl) (hlc : nl ≤ cb) (hcm : cb ≤ maxLen) :
    Calls Try.prog 5 #[.agg #[.slice A kt ca, .slice (some al) nl cb, .slice C nw cc, .slice D no cd]] w fun e w' => e = .returned (.bool true) ∧ Below w.heap.size w w' := by
  have LT_0 := Lib.hid (hT)
  have LL_0 := Lib.hid (hLl)
  have OW_0 := Lib.hid (hW)
  have OO_0 := Lib.hid (hO)
  unfold maxLen at *
  have HNW := Lib.hid hnw
  have HNO := Lib.hid hno
  have HNL := Lib.hid hn
  clear hT hLl hW hO hnw hno hn
  have nt0 : ((nt : Int) == 0) = false := by simp only [beq_eq_false_iff_ne]; omega
  have nw0 : ((nw : Int) == 0) = false := by simp only [beq_eq_false_iff_ne]; omega
  have nt1 : ¬(nt : Int) = 0 := by omega
  have nw1 : ¬(nw : Int) = 0 := by omega
  have nt2 : ¬nt = 0 := by omega
  have nw2 : ¬nw = 0 := by omega
  have nl0 : decide ((12 : Int) < (nl : Int)) = true := by simp; omega
  have c0 : (w.alloc (.cells #[.slice A kt ca, .slice (some al) nl cb, .slice C nw cc, .slice D no cd] 55)).cell? ⟨w.heap.size, 0, none⟩ = some (.slice A kt ca) := by rw [World.cell?_alloc_mark]; rfl
  have c1 : (w.alloc (.cells #[.slice A kt ca, .slice (some al) nl cb, .slice C nw cc, .slice D no cd] 55)).cell? ⟨w.heap.size, 1, none⟩ = some (.slice (some al) nl cb) := by rw [World.cell?_alloc_mark]; rfl
  have c2 : (w.alloc (.cells #[.slice A kt ca, .slice (some al) nl cb, .slice C nw cc, .slice D no cd] 55)).cell? ⟨w.heap.size, 2, none⟩ = some (.slice C nw cc) := by rw [World.cell?_alloc_mark]; rfl
  have c3 : (w.alloc (.cells #[.slice A kt ca, .slice (some al) nl cb, .slice C nw cc, .slice D no cd] 55)).cell? ⟨w.heap.size, 3, none⟩ = some (.slice D no cd) := by rw [World.cell?_alloc_mark]; rfl
  have hal : Below w.heap.size w (w.alloc (.cells #[.slice A kt ca, .slice (some al) nl cb, .slice C nw cc, .slice D no cd] 55)) := (Below.refl _ _).alloc (Nat.le_refl _) _
  have HB_1 : Hid (Below w.heap.size w (w.alloc (.cells #[.slice A kt ca, .slice (some al) nl cb, .slice C nw cc, .slice D no cd] 55))) := Lib.hid hal
  have LT_1 := Lib.hid (LT_0.out.on hal)
  have LL_1 := Lib.hid (LL_0.out.on hal)
  have OW_1 := Lib.hid (OW_0.out.on hal)
  have OO_1 := Lib.hid (OO_0.out.on hal)
  clear LT_0 LL_0 OW_0 OO_0 hal
  go_enter Try.func5, Try.ntmps5
  go_upto_region 1 with (fail)
  generalize w.alloc (.cells #[.slice A kt ca, .slice (some al) nl cb, .slice C nw cc, .slice D no cd] 55) = w2 at *
  have C0 := fun d os => cell_regrown c0 d os
  have C1 := fun d os => cell_regrown c1 d os
  have C2 := fun d os => cell_regrown c2 d os
  have C3 := fun d os => cell_regrown c3 d os
  clear c0 c1 c2 c3
  refine q_enter (by kernel_rfl) (by kernel_rfl) ?_
  iterate 13 (refine q_step ?_; intro K hK; go_simp; first | (refine hK _ ?_; clear hK K) | (refine ⟨_, fun p => Calls.regrown_of (by with_reducible exact HF.out _), hK _ ?_⟩; clear hK K))
  refine q_nil ?_
  intro wz hbz
  have HB_2 : Hid (Below w.heap.size w wz) := Lib.hid (HB_1.out.trans (hbz.mono HB_1.out.size))
  have LT_2 := Lib.hid (LT_1.out.on hbz)
  have LL_2 := Lib.hid (LL_1.out.on hbz)
  have OW_2 := Lib.hid (OW_1.out.on hbz)
  have OO_2 := Lib.hid (OO_1.out.on hbz)
  clear HB_1 LT_1 LL_1 OW_1 OO_1 hbz
  clear C0 C1 C2 C3
  go_wp2_with fail
  refine (HC.out _ LT_2.out).mono ?_
  rintro e w3 ⟨rfl, hb⟩
  have HB_3 : Hid (Below w.heap.size w w3) := Lib.hid (HB_2.out.trans (hb.mono HB_2.out.size))
  have LT_3 := Lib.hid (LT_2.out.on hb)
  have LL_3 := Lib.hid (LL_2.out.on hb)
  have OW_3 := Lib.hid (OW_2.out.on hb)
  have OO_3 := Lib.hid (OO_2.out.on hb)
  clear HB_2 LT_2 LL_2 OW_2 OO_2 hb
  go_wp2_with fail
  have LT_B := LT_3
  have LL_B := LL_3
  have OW_B := OW_3
  have OO_B := OO_3
  have HB_B := HB_3
  clear LT_3 LL_3 OW_3 OO_3 HB_3
  generalize w3 = w2 at *
  go_loopw [7, 9] (fun a i wr => ∃ (j : Nat) (Aa : Option Addr) (ac : Nat), i = .int .i64 j ∧ a = .slice Aa nt ac ∧ j ≤ 12 ∧ Hid (∀ m, m < j → mayK (kn l m) = true) ∧ Hid (Lst wr Aa (runA t l wh j)) ∧ Hid (Below w2.heap.size w2 wr)) (fun _ i _ => 12 - (intOf i).toNat)
  case atStart => exact ⟨0, A, ca, rfl, rfl, Nat.zero_le _, Lib.hid (fun m hm => absurd hm (Nat.not_lt_zero m)), LT_B, Lib.hid (Below.refl _ _)⟩
  case round =>
    obtain ⟨wq, eq⟩ : ∃ wq, wq = wr := ⟨_, rfl⟩
    subst eq
    obtain ⟨j, Aa, ac, rfl, rfl, hj, HMJ, LX, HW⟩ := hrel
    by_cases hlt : j < 12
    · have d1 : decide ((j : Int) < (12 : Int)) = true := by simp only [decide_eq_true_eq]; omega
      have hlt' := Lib.hid hlt
      obtain ⟨al2, el, _, h1⟩ := ((LL_B.out).on HW.out) j (by rw [HNL.out]; exact hlt)
      obtain rfl : al = al2 := Option.some.inj el
      obtain ⟨a0, a1⟩ := h1.flat
      have HMYj := Lib.hid (fun W => HMY.out W j)
      have j0 : (0 : Int) ≤ (j : Int) := by omega
      have j1 : (j : Int) < (12 : Int) := by omega
      clear h1
      rcases hmk : mayK (kn l j) with _ | _
      · rw [hmk] at HMYj
        clear hmk
        go_wp2_with fail
        refine (HMYj.out _).mono ?_
        rintro e w5 ⟨rfl, hb⟩
        have HBE : Hid (Below w.heap.size w w5) := Lib.hid ((HB_B.out.trans (HW.out.mono HB_B.out.size)).trans (hb.mono (HB_B.out.trans (HW.out.mono HB_B.out.size)).size))
        clear hb a0 a1
        go_wp2_with fail
        refine (awake_any _).mono ?_
        rintro e wE ⟨rfl, hbE⟩
        have HEE : Hid (Below w.heap.size w wE) := Lib.hid (HBE.out.trans (hbE.mono HBE.out.size))
        clear hbE
        go_wp2_with fail
        go_ret
        exact ⟨rfl, HEE.out⟩
      · rw [hmk] at HMYj
        have HAj := Lib.hid (fun W X cx h => HA.out W X cx j hlt hmk h)
        have HBj := Lib.hid (fun W p k hk => HBT.out W p j k hlt hmk hk)
        have HMJ' : Hid (∀ m, m < j + 1 → mayK (kn l m) = true) := Lib.hid fun m hm => by
          rcases Nat.lt_or_ge m j with h | h
          · exact HMJ.out m h
          · obtain rfl : m = j := by omega
            exact hmk
        clear hmk
        go_wp2_with fail
        refine (HMYj.out _).mono ?_
        rintro e w4 ⟨rfl, hb⟩
        have LX3 := Lib.hid (LX.out.on hb)
        have HW3 : Hid (Below w2.heap.size w2 w4) := Lib.hid (HW.out.trans (hb.mono HW.out.size))
        clear hb a0 a1 LX HW HMYj HMJ
        go_wp2_with fail
        obtain ⟨r, hr⟩ : ∃ r, r = j % nw := ⟨_, rfl⟩
        have hrw : r < nw := by rw [hr]; exact Nat.mod_lt _ (by omega)
        have er : Int.tmod (j : Int) (nw : Int) = (r : Int) := by rw [Int.tmod_eq_emod_of_nonneg (by omega), hr]; omega
        have hQ := HQ.out j
        rw [← hr] at hQ
        clear hr
        obtain ⟨aw, ew, _, v0⟩ := ((OW_B.out).on HW3.out).1 r (by rw [HNW.out]; exact hrw)
        subst ew
        obtain ⟨al2, el, _, h1⟩ := ((LL_B.out).on HW3.out) j (by rw [HNL.out]; exact hlt'.out)
        obtain rfl : al = al2 := Option.some.inj el
        obtain ⟨a0, a1⟩ := h1.flat
        clear h1
        generalize who.getD r 0 = v at *
        generalize kn l j = x at *
        generalize wh j = q at *
        obtain ⟨eq, hq, hv0, hv1⟩ := hQ
        have ev : IntKind.i64.wrap v = v := IntWalk.i64_in _ (by omega)
        have r0 : (0 : Int) ≤ (r : Int) := by omega
        have r1 : (r : Int) < (nw : Int) := by omega
        have k0 : (0 : Int) ≤ (j : Int) := by omega
        have k1 : (j : Int) < (12 : Int) := by have := hlt'.out; omega
        go_upto_region 12 with (fail)
        refine z_enter [(0, true), (1, true), (2, true), (3, true), (4, true), (5, true), (6, true), (7, true), (8, true), (9, true), (10, true), (11, true), (12, true), (13, true), (14, true), (15, true), (16, false), (17, true), (18, true), (19, true), (20, true), (21, true), (22, true), (23, true)] (fun w' => w'.cell? (aw.add r) = some (.int .u8 v) ∧ w'.cell? (al.add (j * 2)) = some (.int .u64 x.i) ∧ w'.cell? ⟨(al.add (j * 2)).block, (al.add (j * 2)).off + 1, none⟩ = some (.int .i64 x.s)) (by kernel_rfl) (by kernel_rfl) (by kernel_rfl) (fun _ _ d _ _ h => by cases d <;> exact h) ⟨v0, a0, a1⟩ ?_
        simp only [pickL, List.drop_succ_cons, List.drop_zero]
        have hdr : Below w4.heap.size w4 w4.drew := (Below.refl _ _).drew
        have hS : Hid (_ ∧ _) := Lib.hid (three_onLong ⟨v0, a0, a1⟩ hdr)
        have LX4 := Lib.hid (LX3.out.on hdr)
        have HW4 : Hid (Below w2.heap.size w2 w4.drew) := Lib.hid (HW3.out.trans (hdr.mono HW3.out.size))
        clear v0 a0 a1 hdr
        generalize w4.drew = wd at *
        iterate 16 (first | (refine' z_yes ?_ (by rfl) ?_ ?_; rotate_left; (intro w' hS; (try dsimp only at hS); go_simp; try (with_reducible rfl)); simp only [Act.put, List.setIfInBounds_toArray, List.set_cons_zero, List.set_cons_succ]) | (refine z_no (by rfl) ?_; simp only [Act.put, List.setIfInBounds_toArray, List.set_cons_zero, List.set_cons_succ]))
        refine z_mem ?_
        intro KK hK
        go_simp
        refine (HAj.out _ _ _ LX4.out).mono ?_
        rintro e w5 ⟨A5, c5, bo, rfl, hl5, hb5⟩
        have hS5 : Hid (_ ∧ _) := Lib.hid (three_onLong hS.out hb5)
        have LX5 := Lib.hid hl5
        have HW5 : Hid (Below w2.heap.size w2 w5) := Lib.hid (HW4.out.trans (hb5.mono HW4.out.size))
        have LP5 := Lib.hid (LX4.out.on hb5)
        clear hl5 hb5 hS LX4 HW4
        refine hK.out _ _ hS5.out ?_
        clear hK
        iterate 7 (first | (refine' z_yes ?_ (by rfl) ?_ ?_; rotate_left; (intro w' hS; (try dsimp only at hS); go_simp; try (with_reducible rfl)); simp only [Act.put, List.setIfInBounds_toArray, List.set_cons_zero, List.set_cons_succ]) | (refine z_no (by rfl) ?_; simp only [Act.put, List.setIfInBounds_toArray, List.set_cons_zero, List.set_cons_succ]))
        refine z_nil ?_
        clear hS5
        clear LX3 HW3 HAj eq er
        go_wp2_with fail
        go_loopw [13] (fun i wr => ∃ k : Nat, i = .int .i64 k ∧ k ≤ nt ∧ Hid (Below w5.heap.size w5 wr)) (fun i _ => nt - (intOf i).toNat)
        case atStart => exact ⟨0, rfl, Nat.zero_le _, Lib.hid (Below.refl _ _)⟩
        case round =>
          obtain ⟨k, rfl, hk, HK5⟩ := hrel
          by_cases hkt : k < nt
          · have d2 : decide ((k : Int) < (nt : Int)) = true := by simpa using hkt
            obtain ⟨ap, rfl, _, hp⟩ := (LP5.out.on HK5.out) k (by rw [HLN.out]; exact hkt)
            obtain ⟨an, rfl, _, hq'⟩ := (LX5.out.on HK5.out) k (by rw [HLN.out]; exact hkt)
            obtain ⟨p0, p1⟩ := hp.flat
            obtain ⟨q0, q1⟩ := hq'.flat
            have HBk := Lib.hid (fun W p => HBj.out W p k hkt)
            have k0' : (0 : Int) ≤ (k : Int) := by omega
            have k1' : (k : Int) < (nt : Int) := by omega
            clear hp hq'
            generalize kn (runA t l wh j) k = xx at *
            generalize kn (runA t l wh (j + 1)) k = yy at *
            have P0 := fun d os => cell_regrown p0 d os
            have P1 := fun d os => cell_regrown p1 d os
            have Q0 := fun d os => cell_regrown q0 d os
            have Q1 := fun d os => cell_regrown q1 d os
            clear p0 p1 q0 q1
            go_upto_region 18 with (fail)
            refine q_enter (by kernel_rfl) (by kernel_rfl) ?_
            iterate 9 (refine q_step ?_; intro K hK; go_simp; first | (refine hK _ ?_; clear hK K) | (refine ⟨_, fun p => Calls.regrown_of (by with_reducible exact HBk.out _ p), hK _ ?_⟩; clear hK K))
            refine q_nil ?_
            intro wz hbz
            have HK6 : Hid (Below w5.heap.size w5 wz) := Lib.hid (HK5.out.trans (hbz.mono HK5.out.size))
            clear hbz P0 P1 Q0 Q1
            go_wp2_with fail
            go_roundw
            case rel => exact ⟨k + 1, by go_num, by omega, HK6⟩
            case measure => simp [intOf]; omega
          · have d2 : decide ((k : Int) < (nt : Int)) = false := by simp; omega
            have hkn : k = nt := by omega
            have LXE := Lib.hid (LX5.out.on HK5.out)
            have HWE : Hid (Below w2.heap.size w2 wr) := Lib.hid (HW5.out.trans (HK5.out.mono HW5.out.size))
            clear hkn
            go_wp2_with fail
            go_roundw
            case rel => exact ⟨j + 1, A5, c5, by go_num, rfl, by omega, HMJ', LXE, HWE⟩
            case measure => simp [intOf]; omega
    · have hjn : j = 12 := by omega
      have d1 : decide ((j : Int) < (12 : Int)) = false := by simp; omega
      have LAE : Hid (Lst wq Aa (runA t l wh 12)) := Lib.hid (by have := LX.out; rwa [hjn] at this)
      have hml : mayL l = true := (mayL_iff l).2 fun m hm => HMJ.out m (by rw [hjn, ← HNL.out]; exact hm)
      have HABl := Lib.hid (HAB.out hml)
      have HM0l := Lib.hid (HM0.out hml)
      have HM1l := Lib.hid (HM1.out hml)
      have HL1l := Lib.hid (HL1.out hml)
      have HLEl := Lib.hid (HLE.out hml)
      have LBE := Lib.hid (LT_B.out.on HW.out)
      clear hjn LX hml HMJ
      go_wp2_with fail
      go_loopw [8, 14] (fun b i wr => ∃ (g : Nat) (Ab : Option Addr) (bc : Nat) (bl : List Kn), i = .int .i64 g ∧ b = .slice Ab nt bc ∧ g ≤ no ∧ Hid (Mid t (runA t l wh 12) bl) ∧ Hid (Lst wr Ab bl) ∧ Hid (Lst wr Aa (runA t l wh 12)) ∧ Hid (Below w2.heap.size w2 wr)) (fun _ i _ => no - (intOf i).toNat)
      case atStart => exact ⟨0, A, ca, t, rfl, rfl, Nat.zero_le _, HM0l, LBE, LAE, HW⟩
      case round =>
        clear LBE LAE HW
        obtain ⟨g, Ab, bc, bl, rfl, rfl, hg, HMD, LX, LAE, HW⟩ := hrel
        obtain ⟨bb, hbb⟩ : ∃ b : Bool, b = decide (g < no ∧ g < 40 ∧ 0 < 12) := ⟨_, rfl⟩
        have HBC := Lib.hid hbb
        have hcd : g < no ∨ ¬g < no := by omega
        clear hbb
        go_upto_region 22 with (fail)
        go_cut [124] (fun s wx => s = .bool bb ∧ wr = wx)
        case first =>
          rcases hcd with h1 | h1
          · have e0 : decide ((g : Int) < (no : Int)) = true := by simp; omega
            by_cases h2 : g < 40
            · have e1 : decide ((g : Int) < 40) = true := by simp; omega
              by_cases h3 : 0 < 12
              · have e2 : decide ((0 : Int) < (12 : Int)) = true := by simp only [decide_eq_true_eq]; omega
                obtain rfl : bb = true := by rw [HBC.out]; simp [h1, h2, h3]
                go_wp2_with fail
                go_meet
                exact ⟨rfl, rfl⟩
              · exact absurd h3 (by omega)
            · have e1 : decide ((g : Int) < 40) = false := by simp; omega
              obtain rfl : bb = false := by rw [HBC.out]; simp [h2]
              go_wp2_with fail
              go_meet
              exact ⟨rfl, rfl⟩
          · have e0 : decide ((g : Int) < (no : Int)) = false := by simp; omega
            obtain rfl : bb = false := by rw [HBC.out]; simp [h1]
            go_wp2_with fail
            go_meet
            exact ⟨rfl, rfl⟩
        case rest =>
        obtain ⟨rfl, rfl⟩ := hcut
        clear hcd
        rcases bb with _ | _
        · clear HBC
          have nsub : IntKind.i64.wrap ((12 : Int) - 1) = (12 : Int) - 1 := IntWalk.i64_in _ (by omega)
          go_wp2_with fail
          go_loopw [8, 19] (fun b i wr => ∃ (m : Nat) (iv : Int) (Ab : Option Addr) (bc : Nat) (bl : List Kn), i = .int .i64 iv ∧ Hid (iv = (m : Int) - 1) ∧ b = .slice Ab nt bc ∧ m ≤ 12 ∧ Hid (Late t (runA t l wh 12) l bl wh m) ∧ Hid (Lst wr Ab bl) ∧ Hid (Lst wr Aa (runA t l wh 12)) ∧ Hid (Below w2.heap.size w2 wr)) (fun _ i _ => (intOf i + 1).toNat)
          case atStart => exact ⟨12, (12 : Int) - 1, Ab, bc, bl, rfl, Lib.hid rfl, rfl, Nat.le_refl _, Lib.hid (HL0.out _ HMD.out), LX, LAE, HW⟩
          case round =>
            clear LX LAE HW HMD
            obtain ⟨m, iv, Ab, bc, bl, rfl, hiv, rfl, hm, HLT, LX, LAE, HW⟩ := hrel
            rcases m with _ | m
            · have hiv' : iv = -1 := by have := hiv.out; omega
              have heq := HLEl.out _ HLT.out
              have LXE : Hid (Lst wr Ab (runA t l wh 12)) := Lib.hid (by rw [heq]; exact LX.out)
              subst hiv'
              have HBE : Hid (Below w.heap.size w wr) := Lib.hid (HB_B.out.trans (HW.out.mono HB_B.out.size))
              clear heq hiv LX HW HLT
              go_wp2_with fail
              refine (HSM.out _ _ _ _ _ LAE.out LXE.out).mono ?_
              rintro e w5 ⟨rfl, hb⟩
              have HBS : Hid (Below w.heap.size w w5) := Lib.hid (HBE.out.trans (hb.mono HBE.out.size))
              clear hb LXE LAE HBE
              go_wp2_with fail
              refine (awake_any _).mono ?_
              rintro e wE ⟨rfl, hbE⟩
              have HEE : Hid (Below w.heap.size w wE) := Lib.hid (HBS.out.trans (hbE.mono HBS.out.size))
              clear hbE
              go_wp2_with fail
              go_ret
              exact ⟨rfl, HEE.out⟩
            · have hiv' : iv = (m : Int) := by have := hiv.out; omega
              subst hiv'
              have hmn : Hid (m < 12) := Lib.hid hm
              have hsub : IntKind.i64.wrap ((m : Int) - 1) = (m : Int) - 1 := IntWalk.i64_in _ (by omega)
              have dm : decide ((0 : Int) ≤ (m : Int)) = true := by simp
              have HAm := Lib.hid (fun W X cx h => HABl.out W X cx bl m HLT.out.1 hm h)
              have HL' := Lib.hid (HL1l.out bl m HLT.out hm)
              have LAEr := LAE
              clear hiv HLT
              go_wp2_with fail
              obtain ⟨r, hr⟩ : ∃ r, r = m % nw := ⟨_, rfl⟩
              have hrw : r < nw := by rw [hr]; exact Nat.mod_lt _ (by omega)
              have er : Int.tmod (m : Int) (nw : Int) = (r : Int) := by rw [Int.tmod_eq_emod_of_nonneg (by omega), hr]; omega
              have hQ := HQ.out m
              rw [← hr] at hQ
              clear hr
              obtain ⟨aw, ew, _, v0⟩ := ((OW_B.out).on HW.out).1 r (by rw [HNW.out]; exact hrw)
              subst ew
              obtain ⟨al2, el, _, h1⟩ := ((LL_B.out).on HW.out) m (by rw [HNL.out]; exact hmn.out)
              obtain rfl : al = al2 := Option.some.inj el
              obtain ⟨a0, a1⟩ := h1.flat
              clear h1
              generalize who.getD r 0 = v at *
              generalize kn l m = x at *
              generalize wh m = q at *
              obtain ⟨eq, hq, hv0, hv1⟩ := hQ
              have ev : IntKind.i64.wrap v = v := IntWalk.i64_in _ (by omega)
              have r0 : (0 : Int) ≤ (r : Int) := by omega
              have r1 : (r : Int) < (nw : Int) := by omega
              have k0 : (0 : Int) ≤ (m : Int) := by omega
              have k1 : (m : Int) < (12 : Int) := by have := hmn.out; omega
              go_upto_region 32 with (fail)
              refine z_enter [(0, true), (1, true), (2, true), (3, true), (4, true), (5, true), (6, true), (7, true), (8, true), (9, true), (10, true), (11, true), (12, true), (13, true), (14, true), (15, true), (16, false), (17, true), (18, true), (19, true), (20, true), (21, true), (22, true), (23, true)] (fun w' => w'.cell? (aw.add r) = some (.int .u8 v) ∧ w'.cell? (al.add (m * 2)) = some (.int .u64 x.i) ∧ w'.cell? ⟨(al.add (m * 2)).block, (al.add (m * 2)).off + 1, none⟩ = some (.int .i64 x.s)) (by kernel_rfl) (by kernel_rfl) (by kernel_rfl) (fun _ _ d _ _ h => by cases d <;> exact h) ⟨v0, a0, a1⟩ ?_
              simp only [pickL, List.drop_succ_cons, List.drop_zero]
              have hdr : Below wr.heap.size wr wr.drew := (Below.refl _ _).drew
              have hS : Hid (_ ∧ _) := Lib.hid (three_onLong ⟨v0, a0, a1⟩ hdr)
              have LX4 := Lib.hid (LX.out.on hdr)
              have HW4 : Hid (Below w2.heap.size w2 wr.drew) := Lib.hid (HW.out.trans (hdr.mono HW.out.size))
              have hdr5 := hdr
              clear v0 a0 a1 hdr
              generalize wr.drew = wd at *
              iterate 16 (first | (refine' z_yes ?_ (by rfl) ?_ ?_; rotate_left; (intro w' hS; (try dsimp only at hS); go_simp; try (with_reducible rfl)); simp only [Act.put, List.setIfInBounds_toArray, List.set_cons_zero, List.set_cons_succ]) | (refine z_no (by rfl) ?_; simp only [Act.put, List.setIfInBounds_toArray, List.set_cons_zero, List.set_cons_succ]))
              refine z_mem ?_
              intro KK hK
              go_simp
              refine (HAm.out _ _ _ LX4.out).mono ?_
              rintro e w5 ⟨A5, c5, bo, rfl, hl5, hb5⟩
              have hS5 : Hid (_ ∧ _) := Lib.hid (three_onLong hS.out hb5)
              have LX5 := Lib.hid hl5
              have HW5 : Hid (Below w2.heap.size w2 w5) := Lib.hid (HW4.out.trans (hb5.mono HW4.out.size))
              have LA5 := Lib.hid ((LAE.out.on hdr5).on hb5)
              clear hl5 hb5 hS LX4 HW4
              refine hK.out _ _ hS5.out ?_
              clear hK
              iterate 7 (first | (refine' z_yes ?_ (by rfl) ?_ ?_; rotate_left; (intro w' hS; (try dsimp only at hS); go_simp; try (with_reducible rfl)); simp only [Act.put, List.setIfInBounds_toArray, List.set_cons_zero, List.set_cons_succ]) | (refine z_no (by rfl) ?_; simp only [Act.put, List.setIfInBounds_toArray, List.set_cons_zero, List.set_cons_succ]))
              refine z_nil ?_
              clear hS5
              clear hdr5
              go_wp2_with fail
              go_roundw
              case rel => exact ⟨m, (m : Int) - 1, A5, c5, appL bl q x, by first | rfl | go_num, Lib.hid rfl, rfl, by omega, HL', LX5, LA5, HW5⟩
              case measure => simp [intOf]
        · obtain ⟨hgo, h40, hn0⟩ : g < no ∧ g < 40 ∧ 0 < 12 := by simpa using HBC.out.symm
          have nn1 : ¬(12 : Int) = 0 := by omega
          have nn0 : ((12 : Int) == 0) = false := by simp only [beq_eq_false_iff_ne]; omega
          have nn2 : ¬12 = 0 := by omega
          obtain ⟨ao, eo, _, o0⟩ := ((OO_B.out).on HW.out).1 g (by rw [HNO.out]; exact hgo)
          subst eo
          have ho := OO_B.out.2 (order.getD g 0) (by
            have hgl : g < order.length := by rw [HNO.out]; exact hgo
            have : order.getD g 0 = order[g] := by simp [List.getD, hgl]
            rw [this]
            exact List.getElem_mem hgl)
          have g0 : (0 : Int) ≤ (g : Int) := by omega
          have g1 : (g : Int) < (no : Int) := by omega
          generalize order.getD g 0 = ov at *
          obtain ⟨k, ek, hk⟩ : ∃ k : Nat, Int.tmod ov (12 : Int) = (k : Int) ∧ k < 12 := by
            have h1 := Int.tmod_eq_emod_of_nonneg (b := (12 : Int)) ho.1
            have h2 := Int.emod_nonneg ov (b := (12 : Int)) (by omega)
            have h3 := Int.emod_lt_of_pos ov (b := (12 : Int)) (by omega)
            exact ⟨(ov % (12 : Int)).toNat, by omega, by omega⟩
          have hkn := Lib.hid hk
          have eov : IntKind.i64.wrap ov = ov := IntWalk.i64_in _ (by omega)
          have HAk := Lib.hid (fun W X cx h => HABl.out W X cx bl k HMD.out hk h)
          have HM' := Lib.hid (HM1l.out bl k HMD.out hk)
          clear HBC HMD
          go_wp2_with fail
          obtain ⟨r, hr⟩ : ∃ r, r = k % nw := ⟨_, rfl⟩
          have hrw : r < nw := by rw [hr]; exact Nat.mod_lt _ (by omega)
          have er : Int.tmod (k : Int) (nw : Int) = (r : Int) := by rw [Int.tmod_eq_emod_of_nonneg (by omega), hr]; omega
          have hQ := HQ.out k
          rw [← hr] at hQ
          clear hr
          obtain ⟨aw, ew, _, v0⟩ := ((OW_B.out).on HW.out).1 r (by rw [HNW.out]; exact hrw)
          subst ew
          obtain ⟨al2, el, _, h1⟩ := ((LL_B.out).on HW.out) k (by rw [HNL.out]; exact hkn.out)
          obtain rfl : al = al2 := Option.some.inj el
          obtain ⟨a0, a1⟩ := h1.flat
          clear h1
          generalize who.getD r 0 = v at *
          generalize kn l k = x at *
          generalize wh k = q at *
          obtain ⟨eq, hq, hv0, hv1⟩ := hQ
          have ev : IntKind.i64.wrap v = v := IntWalk.i64_in _ (by omega)
          have r0 : (0 : Int) ≤ (r : Int) := by omega
          have r1 : (r : Int) < (nw : Int) := by omega
          have k0 : (0 : Int) ≤ (k : Int) := by omega
          have k1 : (k : Int) < (12 : Int) := by have := hkn.out; omega
          go_upto_region 25 with (fail)
          refine z_enter [(0, true), (1, true), (2, true), (3, true), (4, true), (5, true), (6, true), (7, true), (8, true), (9, true), (10, true), (11, true), (12, true), (13, true), (14, true), (15, true), (16, false), (17, true), (18, true), (19, true), (20, true), (21, true), (22, true), (23, true)] (fun w' => w'.cell? (aw.add r) = some (.int .u8 v) ∧ w'.cell? (al.add (k * 2)) = some (.int .u64 x.i) ∧ w'.cell? ⟨(al.add (k * 2)).block, (al.add (k * 2)).off + 1, none⟩ = some (.int .i64 x.s)) (by kernel_rfl) (by kernel_rfl) (by kernel_rfl) (fun _ _ d _ _ h => by cases d <;> exact h) ⟨v0, a0, a1⟩ ?_
          simp only [pickL, List.drop_succ_cons, List.drop_zero]
          have hdr : Below wr.heap.size wr wr.drew := (Below.refl _ _).drew
          have hS : Hid (_ ∧ _) := Lib.hid (three_onLong ⟨v0, a0, a1⟩ hdr)
          have LX4 := Lib.hid (LX.out.on hdr)
          have HW4 : Hid (Below w2.heap.size w2 wr.drew) := Lib.hid (HW.out.trans (hdr.mono HW.out.size))
          have hdr5 := hdr
          clear v0 a0 a1 hdr
          generalize wr.drew = wd at *
          iterate 16 (first | (refine' z_yes ?_ (by rfl) ?_ ?_; rotate_left; (intro w' hS; (try dsimp only at hS); go_simp; try (with_reducible rfl)); simp only [Act.put, List.setIfInBounds_toArray, List.set_cons_zero, List.set_cons_succ]) | (refine z_no (by rfl) ?_; simp only [Act.put, List.setIfInBounds_toArray, List.set_cons_zero, List.set_cons_succ]))
          refine z_mem ?_
          intro KK hK
          go_simp
          refine (HAk.out _ _ _ LX4.out).mono ?_
          rintro e w5 ⟨A5, c5, bo, rfl, hl5, hb5⟩
          have hS5 : Hid (_ ∧ _) := Lib.hid (three_onLong hS.out hb5)
          have LX5 := Lib.hid hl5
          have HW5 : Hid (Below w2.heap.size w2 w5) := Lib.hid (HW4.out.trans (hb5.mono HW4.out.size))
          have LA5 := Lib.hid ((LAE.out.on hdr5).on hb5)
          clear hl5 hb5 hS LX4 HW4
          refine hK.out _ _ hS5.out ?_
          clear hK
          iterate 7 (first | (refine' z_yes ?_ (by rfl) ?_ ?_; rotate_left; (intro w' hS; (try dsimp only at hS); go_simp; try (with_reducible rfl)); simp only [Act.put, List.setIfInBounds_toArray, List.set_cons_zero, List.set_cons_succ]) | (refine z_no (by rfl) ?_; simp only [Act.put, List.setIfInBounds_toArray, List.set_cons_zero, List.set_cons_succ]))
          refine z_nil ?_
          clear hS5
          clear hdr5
          go_wp2_with fail
          go_roundw
          case rel => exact ⟨g + 1, A5, c5, appL bl q x, by go_num, rfl, by omega, HM', LX5, LA5, HW5⟩
          case measure => simp [intOf]; omega
end Go.Proofs.Ytmfpipcedblklaa.lawOrders
