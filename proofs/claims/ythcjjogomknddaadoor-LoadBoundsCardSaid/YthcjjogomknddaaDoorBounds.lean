/-
  LoadBounds: each task is on just one of the nodes, and on none more than the bound: the law returns true for every input.
-/
import Derived.Test.YthcjjogomknddaaDoorLp
import Derived.Test.YthcjjogomknddaaDoorCards
import Derived.Test.YthcjjogomknddaaDoorTie
namespace Go.Proofs.YthcjjogomknddaaDoor.lawBounds
open Go.ChangeMaps (open_string)
open Go.Sort Go.ChangeShapes Go.WideShapes Go.ChangeAt Go.RowKit Go.Joins Go.Proofs.YthcjjogomknddaaDoor.Pure

set_option maxRecDepth 100000 in
set_option maxHeartbeats 4000000 in
theorem walk (A B C : Option Addr) (c d e k : Nat) (xs : List Int) (s t : Int) (l : List ByteArray)  (w : World) (hc : xs.length ≤ c) (hm : c ≤ maxLen) (hx : Has w 0 w.heap.size A xs) (hd : l.length ≤ d) (hmd : d ≤ maxLen) (hl : Ss w B l) (hsh : Shrt l)  :
    Calls Tryd.prog 4 #[.agg #[.slice A xs.length c, .int .i64 s, .slice B l.length d, .slice C k e, .int .i64 t]] w fun e w' => e = .returned (.bool true) ∧ Below w.heap.size w w' := by
  have HX : Hid (∀ W, Below w.heap.size w W → Has W 0 w.heap.size A xs) := Lib.hid (fun W hb => hx.on hb (Nat.le_refl _))
  have HL : Hid (∀ W, Below w.heap.size w W → Ss W B l) := Lib.hid (fun W hb => hl.on hb)
  have HB1 : Hid (Below w.heap.size w (w.alloc (.cells #[.slice A xs.length c, .int .i64 s, .slice B l.length d, .slice C k e, .int .i64 t] 26))) := Lib.hid ((Below.refl _ w).alloc (Nat.le_refl _) _)
  have HQ1 : Hid (Ab (w.alloc (.cells #[.slice A xs.length c, .int .i64 s, .slice B l.length d, .slice C k e, .int .i64 t] 26)) w.heap.size (.slice A xs.length c) (.int .i64 s) (.slice B l.length d) (.slice C k e) (.int .i64 t)) := Lib.hid (Ab.new w A B C xs.length l.length k c d e s t)
  have HLA : Hid (∀ (L : Bool), (L = true ↔ Lgt xs s l) → ∀ W, Below w.heap.size w W → Calls Tryd.prog 24 #[.agg #[.slice A xs.length c, .int .i64 s, .slice B l.length d, .slice C k e, .int .i64 t]] W fun e w' => e = .returned (.bool L) ∧ Below W.heap.size W w') := Lib.hid (fun L hL W hb => light_any A B C c d e k xs s t l W ((hx.on hb (Nat.le_refl _)).wide (Nat.zero_le _) hb.size) (hl.on hb) hsh L hL)
  by_cases hg : Lgt xs s l
  rotate_left
  · have HLT := Lib.hid (HLA.out false ⟨fun e => (by cases e), fun h => absurd h hg⟩)
    clear hx hl hsh HX HL hg HLA
    go_enter Tryd.func4, Tryd.ntmps4
    go_upto_region 1 with (fail)
    generalize w.alloc (.cells #[.slice A xs.length c, .int .i64 s, .slice B l.length d, .slice C k e, .int .i64 t] 26) = w1 at *
    obtain ⟨a0, a1, a2, a3, a4⟩ := HQ1.out
    go_wp2_with fail
    refine (HLT.out _ HB1.out).mono ?_
    rintro e w2 ⟨rfl, hb2⟩
    obtain ⟨a0, a1, a2, a3, a4⟩ := HQ1.out.on hb2
    have HB2 := Lib.hid (HB1.out.trans (hb2.mono HB1.out.size))
    go_wp2_with fail
    refine (awake_any _).mono ?_
    rintro e w9 ⟨rfl, hb9⟩
    go_wp2_with fail
    go_ret
    exact ⟨rfl, HB2.out.trans (hb9.mono HB2.out.size)⟩
  have HLT := Lib.hid (HLA.out true (iff_of_true rfl hg))
  obtain ⟨s, rfl⟩ := Int.eq_ofNat_of_zero_le (show 0 ≤ s by have := hg.s1; omega)
  have hs1 : 1 ≤ s := by have := hg.s1; omega
  have hs8 : s ≤ 8 := by have := hg.s8; omega
  have hx1 := hg.x1
  have hx6 := hg.x6
  have hl20 := hg.l20
  have hle : l.length ≤ 100 := by omega
  have HAS := Lib.hid (fun (W : World) (hb : Below w.heap.size w W) => assign_yes A B c d 0 w.heap.size xs s l W (hx.on hb (Nat.le_refl _)) hb.size (hl.on hb) hsh hg.nod hg.x1 hs1 (by omega) hg.tsk)
  have HBD := Lib.hid (fun (W : World) => bound_yes l.length xs.length W hle hx1 (by omega))
  have HRl := Lib.hid (lb_len xs s l)
  have HRt := Lib.hid (fun (i : Nat) (hi : i < l.length) => lb_at xs s l hi)
  have HRm := Lib.hid (fun (i : Nat) (hi : i < l.length) => many_one hg.nod (lb_in hg hi))
  have HRc := Lib.hid (fun (x : Int) => lb_most hg x)
  have HRo := Lib.hid (fun (i : Nat) (hi : i < l.length) => lb_of hg hi)
  have hRs : Shrt ((asgA2 xs s l).map Pu.t) := by rw [lb_map]; exact hsh
  have hRlen : (asgA2 xs s l).length ≤ 100000 := by rw [lb_len]; omega
  have HCK := Lib.hid (fun (A : Option Addr) (c : Nat) (W : World) (h : Us W A (asgA2 xs s l)) => chkU_any A c (asgA2 xs s l) W hRlen h hRs true (lb_put hg))
  have HOF := Lib.hid (fun (A : Option Addr) (c : Nat) (t : ByteArray) (n : Int) (W : World) (h : Us W A (asgA2 xs s l)) (he : ofE (asgA2 xs s l) t = 0) (hn : ofI (asgA2 xs s l) t = n) => of_any A c (asgA2 xs s l) t W hRlen h hRs n 0 he (by rw [if_pos rfl]; exact hn))
  have HMN := Lib.hid (fun (y : Int) (W : World) (hb : Below w.heap.size w W) => (many_any A c 0 w.heap.size xs y W (by omega) (hx.on hb (Nat.le_refl _))).mono fun e w' (hh : e = .returned (.int .i64 (many xs y : Nat)) ∧ W = w') => (⟨hh.1, hh.2 ▸ Below.refl _ _⟩ : e = .returned (.int .i64 (many xs y : Nat)) ∧ Below W.heap.size W w'))
  have HCN := Lib.hid (fun (A : Option Addr) (c : Nat) (y : Int) (W : World) (h : Us W A (asgA2 xs s l)) => (cnt_any A c (asgA2 xs s l) y W hRlen h).mono fun e w' (hh : e = .returned (.int .i64 (cnt (asgA2 xs s l) y : Nat)) ∧ W = w') => (⟨hh.1, hh.2 ▸ Below.refl _ _⟩ : e = .returned (.int .i64 (cnt (asgA2 xs s l) y : Nat)) ∧ Below W.heap.size W w'))
  have hbh := bound_holds (t := l.length) hx1
  have hbl : ∀ k, k < boundN l.length xs.length → 4 * xs.length * k < 5 * l.length := fun k hk => bound_lt hx1 hk
  have hbm := bound_le (t := l.length) hx1
  generalize boundN l.length xs.length = M at *
  obtain ⟨MN, hMN⟩ : ∃ MN, MN = M * xs.length := ⟨_, rfl⟩
  obtain ⟨G, hG⟩ : ∃ G, G = 4 * xs.length := ⟨_, rfl⟩
  obtain ⟨Z, hZ⟩ : ∃ Z : Int, Z = (M : Int) - 1 := ⟨_, rfl⟩
  obtain ⟨GZ, hGZ⟩ : ∃ GZ : Int, GZ = (G : Int) * Z := ⟨_, rfl⟩
  obtain ⟨F5, hF5⟩ : ∃ F5, F5 = 5 * l.length := ⟨_, rfl⟩
  obtain ⟨F6, hF6⟩ : ∃ F6, F6 = F5 + 1 := ⟨_, rfl⟩
  have hMN2 : MN ≤ 40 * 6 := by rw [hMN]; exact Nat.mul_le_mul (by omega) hx6
  have hGZ2 : GZ < (F6 : Int) ∧ -24 ≤ GZ := by
    rcases Nat.eq_zero_or_pos M with h0 | h0
    · have : Z = -1 := by omega
      rw [hGZ, this]; omega
    · obtain ⟨m, hm⟩ : ∃ m, M = m + 1 := ⟨M - 1, by omega⟩
      have h1 := hbl m (by omega)
      have h2 : Z = (m : Int) := by omega
      rw [← hG] at h1
      have h3 : GZ = ((G * m : Nat) : Int) := by rw [hGZ, h2, Int.natCast_mul]
      generalize G * m = gm at *
      omega
  have p1 : IntKind.i64.wrap ((M : Int) * (xs.length : Int)) = (MN : Int) := by rw [← Int.natCast_mul, ← hMN]; exact IntWalk.i64_in _ (by omega)
  have p2 : IntKind.i64.wrap (4 * (xs.length : Int)) = (G : Int) := by rw [IntWalk.i64_in _ (by omega)]; omega
  have p3 : IntKind.i64.wrap ((M : Int) - 1) = Z := by rw [IntWalk.i64_in _ (by omega)]; omega
  have p4 : IntKind.i64.wrap ((G : Int) * Z) = GZ := by rw [← hGZ]; exact IntWalk.i64_in _ (by omega)
  have p5 : IntKind.i64.wrap (5 * (l.length : Int)) = (F5 : Int) := by rw [IntWalk.i64_in _ (by omega)]; omega
  have p6 : IntKind.i64.wrap ((F5 : Int) + 1) = (F6 : Int) := by rw [IntWalk.i64_in _ (by omega)]; omega
  have p7 : decide ((l.length : Int) ≤ (MN : Int)) = true := decide_eq_true (by omega)
  have p7' : decide (l.length ≤ MN) = true := decide_eq_true (by omega)
  have p8 : decide (GZ < (F6 : Int)) = true := decide_eq_true hGZ2.1
  generalize asgA2 xs s l = R at *
  clear hMN hG hZ hGZ hF5 hF6 hMN2 hGZ2 hbh hbl hbm hRs hsh hg
  clear hx hl HLA
  go_enter Tryd.func4, Tryd.ntmps4
  go_upto_region 1 with (fail)
  generalize w.alloc (.cells #[.slice A xs.length c, .int .i64 s, .slice B l.length d, .slice C k e, .int .i64 t] 26) = w1 at *
  obtain ⟨a0, a1, a2, a3, a4⟩ := HQ1.out
  go_wp2_with fail
  refine (HLT.out _ HB1.out).mono ?_
  rintro e w2 ⟨rfl, hb⟩
  have B_1 := Lib.hid (HB1.out.trans (hb.mono HB1.out.size))
  have Q_1 := Lib.hid (HQ1.out.on hb)
  clear HB1 HQ1
  clear hb HLT a0 a1 a2 a3 a4
  obtain ⟨a0, a1, a2, a3, a4⟩ := Q_1.out
  go_wp2_with fail
  refine (HAS.out _ B_1.out).mono ?_
  rintro e w3 ⟨v, rfl, ho, hb⟩
  have B_2 := Lib.hid (B_1.out.trans (hb.mono B_1.out.size))
  have Q_2 := Lib.hid (Q_1.out.on hb)
  clear B_1 Q_1
  obtain ⟨AR, cR, rfl, hcR, huR⟩ := ho.lst
  have UR_3 := Lib.hid (huR)
  clear ho huR hb a0 a1 a2 a3 a4
  obtain ⟨a0, a1, a2, a3, a4⟩ := Q_2.out
  go_wp2_with fail
  refine (HBD.out _).mono ?_
  rintro e w4 ⟨rfl, rfl⟩
  have f1 : ((R.length : Int) != (l.length : Int)) = false := by rw [HRl.out]; simp
  have f1' : (R.length != l.length) = false := by rw [HRl.out]; simp
  have f2 : okE true = 0 := rfl
  go_wp2_with fail
  refine (HCK.out _ _ _ UR_3.out).mono ?_
  rintro e w4 ⟨rfl, hb⟩
  have B_4 := Lib.hid (B_2.out.trans (hb.mono B_2.out.size))
  have Q_4 := Lib.hid (Q_2.out.on hb)
  have UR_4 := Lib.hid (UR_3.out.on hb)
  clear B_2 Q_2 UR_3
  clear hb a0 a1 a2 a3 a4 HCK
  obtain ⟨a0, a1, a2, a3, a4⟩ := Q_4.out
  go_wp2_with fail
  clear f1 f1' f2 a0 a1 a2 a3 a4
  go_loopw [7] (fun i wr => ∃ q : Nat, i = .int .i64 q ∧ q ≤ R.length ∧ Hid (Below w4.heap.size w4 wr)) (fun i _ => R.length - (intOf i).toNat)
  case atStart => exact ⟨0, rfl, Nat.zero_le _, Lib.hid (Below.refl _ _)⟩
  case round =>
    obtain ⟨wq, ewq⟩ : ∃ wq, wq = wr := ⟨_, rfl⟩
    subst ewq
    obtain ⟨q, rfl, hq, hb⟩ := hrel
    have HBq : Hid (Below w.heap.size w wq) := Lib.hid (B_4.out.trans (hb.out.mono B_4.out.size))
    have HQq := Lib.hid (Q_4.out.on hb.out)
    have HUq := Lib.hid (UR_4.out.on hb.out)
    by_cases hlt : q < R.length
    · have hll : q < l.length := by have := HRl.out; omega
      have q0 : (0 : Int) ≤ (q : Int) := by omega
      have q1 : (q : Int) < (R.length : Int) := by omega
      have q2 : (q : Int) < (l.length : Int) := by omega
      obtain ⟨aR, eR, hRo, h1⟩ := HUq.out q hlt
      obtain ⟨r0, r1⟩ := h1.flat
      obtain ⟨aB, eB, hBo, b0⟩ := (HL.out _ HBq.out) q hll
      have ht := HRt.out q hll
      have hof := HRo.out q hll
      have HMq := Lib.hid (fun W hb => HMN.out (pu R q).n W hb)
      rw [HRm.out q hll] at HMq
      have HCq := Lib.hid (fun A c W h => HCN.out A c (pu R q).n W h)
      have hcm := HRc.out (pu R q).n
      rw [ht] at r0
      obtain ⟨y, hy⟩ : ∃ y, (pu R q).n = y := ⟨_, rfl⟩
      obtain ⟨z, hz⟩ : ∃ z, ba l q = z := ⟨_, rfl⟩
      rw [hy] at r1 hof HMq HCq hcm
      rw [hz] at r0 b0 ht hof
      have HOFq := Lib.hid (fun A c W h => HOF.out A c z y W h hof.2 hof.1)
      have HYq := Lib.hid hy
      have HZq := Lib.hid hz
      have HTq := Lib.hid ht
      clear hy hz hof
      generalize cnt R y = cy at *
      have g1 : decide ((M : Int) < (cy : Int)) = false := decide_eq_false (by omega)
      have g1' : decide (M < cy) = false := decide_eq_false (by omega)
      have g2 : (z.toList == z.toList) = true := by simp
      subst eR eB
      obtain ⟨a0, a1, a2, a3, a4⟩ := HQq.out
      have R0 : ∀ p : Regrown, (grow (redrawn wq p.d) p.os).cell? (aR.add (q * 2)) = some (.string z) := fun p => cell_regrown r0 p.d p.os
      have R1 : ∀ p : Regrown, (grow (redrawn wq p.d) p.os).cell? ⟨(aR.add (q * 2)).block, (aR.add (q * 2)).off + 1, none⟩ = some (.int .i64 y) := fun p => cell_regrown r1 p.d p.os
      have B0 : ∀ p : Regrown, (grow (redrawn wq p.d) p.os).cell? (aB.add q) = some (.string z) := fun p => cell_regrown b0 p.d p.os
      have G0 : ∀ p : Regrown, (grow (redrawn wq p.d) p.os).cell? ⟨w.heap.size, 0, none⟩ = some (.slice A xs.length c) := fun p => cell_regrown a0 p.d p.os
      have G2 : ∀ p : Regrown, (grow (redrawn wq p.d) p.os).cell? ⟨w.heap.size, 2, none⟩ = some (.slice (some aB) l.length d) := fun p => cell_regrown a2 p.d p.os
      have hzq := HBq.out.size
      have HP1 := Lib.hid (fun p : Regrown => HMq.out (grow (redrawn wq p.d) p.os) (HBq.out.trans ((below_regrown wq p.d p.os).mono hzq)))
      have HP2 := Lib.hid (fun p : Regrown => HCq.out (some aR) cR (grow (redrawn wq p.d) p.os) (HUq.out.on (below_regrown wq p.d p.os)))
      clear h1 r0 r1 b0 a0 a1 a2 a3 a4 ht hcm HMq HCq
      go_upto_region 10 with (fail)
      refine q_enter (by kernel_rfl) (by kernel_rfl) ?_
      iterate 33 (refine q_step ?_; intro K hK; go_simp; first | (refine hK _ ?_; clear hK K) | (refine ⟨_, fun p => Calls.regrown_of (by with_reducible exact HP1.out p), hK _ ?_⟩; clear hK K) | (refine ⟨_, fun p => Calls.regrown_of (by with_reducible exact HP2.out p), hK _ ?_⟩; clear hK K))
      refine q_nil ?_
      intro wz hbz
      have HBz := Lib.hid (HBq.out.trans (hbz.mono hzq))
      have HUz := Lib.hid (HUq.out.on hbz)
      obtain ⟨a0, a1, a2, a3, a4⟩ := HQq.out.on hbz
      have hb4 : Below w4.heap.size w4 wz := hb.out.trans (hbz.mono hb.out.size)
      clear hbz R0 R1 B0 G0 G2 HP1 HP2 HUq HQq HBq hb
      obtain ⟨_, eR, hRo, h1⟩ := HUz.out q hlt
      obtain rfl := Option.some.inj eR
      obtain ⟨_, eB, hBo, b0⟩ := (HL.out _ HBz.out) q hll
      obtain rfl := Option.some.inj eB
      obtain ⟨r0, r1⟩ := h1.flat
      rw [HTq.out] at r0
      rw [HYq.out] at r1
      rw [HZq.out] at b0
      clear h1
      go_wp2_with fail
      refine (HOFq.out _ _ _ HUz.out).mono ?_
      rintro e w6 ⟨rfl, hb6⟩
      have HB6 := Lib.hid (HBz.out.trans (hb6.mono HBz.out.size))
      have hb46 := Lib.hid (hb4.trans (hb6.mono hb4.size))
      have c1 := (hb6.cell (p := ⟨(aR.add (q * 2)).block, (aR.add (q * 2)).off + 1, none⟩) (by have h9 := hRo; rw [← block_add aR (q * 2)] at h9; exact h9)).trans r1
      have y1 : (y == y) = true := by simp
      clear hb6 a0 a1 a2 a3 a4 r0 r1 b0 hb4 HBz HUz HOFq
      go_wp2_with fail
      go_roundw
      case rel => exact ⟨q + 1, by go_num, by omega, hb46⟩
      case measure => simp [intOf]; omega
    · obtain rfl : q = R.length := by omega
      have e0 : decide ((R.length : Int) < (R.length : Int)) = false := by simp
      obtain ⟨a0, a1, a2, a3, a4⟩ := HQq.out
      go_wp2_with fail
      refine (awake_any _).mono ?_
      rintro e w9 ⟨rfl, hb9⟩
      go_wp2_with fail
      go_ret
      exact ⟨rfl, HBq.out.trans (hb9.mono HBq.out.size)⟩

theorem parOk : ∀ t ∈ (#[26] : Array TypeId).toList, Tryd.prog.readableRec t = true ∧ t < Tryd.prog.types.size := by
  have hall : ([26].all fun t => Tryd.prog.readableRec t && decide (t < Tryd.prog.types.size)) = true := by kernel_rfl
  intro t ht
  simpa using List.all_eq_true.1 hall t ht

set_option maxRecDepth 100000 in
/-- What the walk gives, for every argument and every world that holds the table. -/
theorem contract (H : Type) (enc : TypeId × Value → H) (W : World) (base : Nat) (args : Array Value) (ds gs : List (DataW H)) (before : List MemPlace)
    (hval : ∀ (j : Nat) t v, Tryd.f4.params[j]? = some t → args[j]? = some v → Value.okWide Tryd.prog W .any base t v)
    (hW : DataW.Whole enc Tryd.prog Tryd.f4.params.toList Rows.loadBoundsSpec.vars false W args.toList ds gs before) (_ : laidMetH Tryd.prog Rows.loadBoundsRow.laid W) :
    Calls Tryd.prog 4 args W fun e W' => ∃ v, e = .returned v ∧ Rows.loadBoundsSpec.post enc Tryd.prog Tryd.f4 false true false false W args v W' := by
  have hW' := hW
  obtain ⟨p, q, hA0, hV, rfl, hfz, hnd⟩ := hW
  have hA : DataW.TrodAll enc Tryd.prog W 0 (fun _ => true) true Tryd.f4.params.toList args.toList ds p := hA0
  rw [Tryd.params4] at hA hval
  obtain ⟨v0, vs0, d0, ds0, p0, q0, hargs, rfl, rfl, h0, r0⟩ := trodAll_cons hA
  obtain ⟨rfl, rfl, rfl⟩ := trodAll_nil r0
  obtain rfl : args = #[v0] := by cases args; simp_all
  obtain ⟨rfl, rfl⟩ := trodVars_none hV
  obtain ⟨A, c, xs, s, B, d, l, C, e, u, t, rfl, hc, hm, hx, hd, hmd, hl, hsh, _, _, _, _, _, _⟩ := open_ask (hval 0 26 v0 rfl rfl) h0
  clear hA0
  refine (walk A B C c d e u.length xs s t l  W hc hm hx hd hmd hl hsh).mono fun e W' ⟨he, hb⟩ => ?_
  subst he
  exact ⟨_, rfl, law_post rfl (by rw [Tryd.params4]; exact parOk) rfl hW' rfl rfl rfl hb⟩

set_option maxRecDepth 100000 in
theorem laid_met (os : Os) : laidMet Tryd.prog Rows.loadBoundsRow.laid ((laidWorld os).forCall (fun _ _ => 0) ⟨#[], #[.agg #[.slice none 0 0, .int .i64 0, .slice none 0 0, .slice none 0 0, .int .i64 0]], []⟩).memory :=
  laidMet_of_run' 8 (by kernel_rfl) (by kernel_rfl)
set_option maxRecDepth 100000 in
theorem reads (os : Os) {H : Type} (enc : TypeId × Value → H) : ∃ places, DataW.whole enc Tryd.prog ((laidWorld os).forCall (fun _ _ => 0) ⟨#[], #[.agg #[.slice none 0 0, .int .i64 0, .slice none 0 0, .slice none 0 0, .int .i64 0]], []⟩).memory Tryd.f4.params.toList Rows.loadBoundsSpec.vars false (#[.agg #[.slice none 0 0, .int .i64 0, .slice none 0 0, .slice none 0 0, .int .i64 0]] : Array Value).toList 8 = some ([.agg [.nil, .lit (.int .i64 0), .nil, .nil, .lit (.int .i64 0)]], [], places) :=
  ⟨[], by kernel_rfl⟩

set_option maxRecDepth 100000 in
theorem lifted (os : Os) (started : os.Started) (H : Type) (enc : TypeId × Value → H) (F : Stop.Interp) :
    ReturnsInHanded {} Tryd.checked os 4 .any ((OpenSpec.ofChange Rows.loadBoundsSpec).preRow enc Tryd.prog Tryd.f4 Rows.loadBoundsRow.domain false Rows.loadBoundsRow.laid) (((OpenSpec.ofChange Rows.loadBoundsSpec).at F).post enc Tryd.prog Tryd.f4 false true false false) := by
  obtain ⟨places, hx⟩ := reads os enc
  refine returnsInHanded_of_row (C := Tryd.checked) (s := OpenSpec.ofChange Rows.loadBoundsSpec) own started (by kernel_rfl) Tryd.func4
    (witness_row_at (enc := enc) (C := Tryd.checked) false (laidWorld os) #[.agg #[.slice none 0 0, .int .i64 0, .slice none 0 0, .slice none 0 0, .int .i64 0]] rfl (by kernel_rfl) (by kernel_rfl) (by kernel_rfl)
      (OpenSpec.preRow_of_cond 8 hx (by kernel_rfl) (fun k hk => by cases hk) (by kernel_rfl) (laid_met os))) ?_
  intro W base args ds gs before hval hW _ _ _ hL _ _
  exact contract H enc W base args ds gs before hval hW hL

theorem said : Rows.LoadBoundsSaid :=
  OpenClaim.holds_of_cond 4 Tryd.f4 rfl rfl rfl rfl rfl rfl rfl ⟨rfl, rfl, rfl, rfl, rfl⟩ rfl rfl rfl rfl rfl (by kernel_rfl) Tryd.func4 (by kernel_rfl)
    (of_decide_eq_true (by kernel_rfl)) (by unfold Func.isWrapper; first | (rw [if_pos (by decide +kernel)]; kernel_rfl) | (rw [if_neg (by decide +kernel)]; exact ⟨rfl, rfl⟩))
    (fun os started H enc _ F => by rw [OpenClaim.pre_eq_preRow]; exact lifted os started H enc F)

set_option maxRecDepth 100000 in
/-- No parameter wants a stand-in; the program's own looks are off. -/
theorem plain (f : FuncId) (fn : Func) (hf : Tryd.pinned.checked.prog.funcNamed "tattle/tattlelaw14.LoadBounds" = some f) (hfn : Tryd.pinned.checked.prog.funcs[f]? = some fn) :
    false = Tryd.pinned.checked.prog.looks [] ∧ ∀ (j : Nat) t, fn.params[j]? = some t → Tryd.pinned.checked.prog.wantsStandIn t = false := by
  obtain rfl : f = 4 := Option.some.inj ((show Tryd.prog.funcNamed "tattle/tattlelaw14.LoadBounds" = some 4 by kernel_rfl).symm.trans hf) |>.symm
  obtain rfl : fn = Tryd.f4 := (Option.some.inj (Tryd.func4.symm.trans hfn)).symm
  refine ⟨by kernel_rfl, fun j t ht => ?_⟩
  rw [Tryd.params4] at ht
  have hm : t ∈ [26] := by simpa using Array.mem_of_getElem? ht
  have hall : ([26].all fun u => !Tryd.prog.wantsStandIn u) = true := by kernel_rfl
  exact (show Tryd.prog.wantsStandIn t = false by simpa using List.all_eq_true.1 hall t hm)

/-- THE CARD. -/
theorem card : Rows.LoadBoundsCardSaid :=
  Claim7.holds_tied_plain_at .later [] _ _ _ _ said (fun _ h => by cases h) (by kernel_rfl) (fun _ h => by cases h) loadBounds_row_tie rfl ⟨rfl, rfl⟩ (by kernel_rfl) rfl plain (by kernel_rfl)
end Go.Proofs.YthcjjogomknddaaDoor.lawBounds
