/-
  The walk of the document's Raise.
-/
import Derived.Test.YtknpbbplolncpaaAsk
import Derived.Test.YtknpbbplolncpaaRaiseMath
namespace Go.Proofs.Ytknpbbplolncpaa
open Go.Sort Go.RowKit Go.Proofs.Ytknpbbplolncpaa.Pure

section
variable {w w' : World} {B : Nat} {v : Value} {xs : List Db}
/-- One more, boxed, on a list of the call's own. -/
theorem OwnD.put (h : OwnD w B v xs) (x : Db) (hx : Rd w (fun k => v.ownBlock ≠ some k) x) (hB : B ≤ w.heap.size) (hl : xs.length ≤ 1000) (ty : TypeId) :
    ∃ v' w', (Builtin.append_ #[22, 22] ty #[v, .slice (some ⟨w.heap.size, 0, none⟩) 1 1]).run Try.prog (w.alloc (.cells #[.int .i64 x.w, .int .u64 x.i, .int .i64 x.t, .slice x.A x.b.length x.c] 55)) = .ok v' w' ∧ OwnD w' B v' (xs ++ [x]) ∧ Below B w w' := by
  have hba : Below w.heap.size w (w.alloc (.cells #[.int .i64 x.w, .int .u64 x.i, .int .i64 x.t, .slice x.A x.b.length x.c] 55)) := (Below.refl _ _).alloc (Nat.le_refl _) _
  have BS : Bt (w.alloc (.cells #[.int .i64 x.w, .int .u64 x.i, .int .i64 x.t, .slice x.A x.b.length x.c] 55)) w.heap.size x := Bt.new w x _
  have hz : w.heap.size < (w.alloc (.cells #[.int .i64 x.w, .int .u64 x.i, .int .i64 x.t, .slice x.A x.b.length x.c] 55)).heap.size := by simp
  obtain ⟨v', w', h1, h2, h3, _⟩ := appD_own (w.alloc (.cells #[.int .i64 x.w, .int .u64 x.i, .int .i64 x.t, .slice x.A x.b.length x.c] 55)) ty B v xs (h.on hba) (w.alloc (.cells #[.int .i64 x.w, .int .u64 x.i, .int .i64 x.t, .slice x.A x.b.length x.c] 55)).heap.size (some ⟨w.heap.size, 0, none⟩) 1 [x]
    (BS.ds _ hz (by have := hx.on hba; exact ⟨fun j hj => by obtain ⟨ad, e, k1, _, k3⟩ := this.1 j hj; exact ⟨ad, e, k1, k1, k3⟩, this.2⟩)) (fun y hy => by obtain rfl := List.mem_singleton.1 hy; exact hx.on hba) (by simp; omega) (by omega)
  exact ⟨v', w', h1, h2, ((Below.refl B w).alloc hB _).grown h3 (by omega) (fun k hk => (h.ge k hk).1)⟩
theorem Bt.grown {g : Nat} {x : Db} {row : Option Nat} (h : Bt w g x) (hg : w.grownBy w' row) (hne : row ≠ some g) : Bt w' g x := by
  have hb := hg.block g h.lt (fun e => hne e.symm)
  exact ⟨(World.cell?_of_block (a := ⟨g, 0, none⟩) hb).trans h.1, (World.cell?_of_block (a := ⟨g, 1, none⟩) hb).trans h.2.1, (World.cell?_of_block (a := ⟨g, 2, none⟩) hb).trans h.2.2.1, (World.cell?_of_block (a := ⟨g, 3, none⟩) hb).trans h.2.2.2⟩
theorem frozen_grown {g o : Nat} {row : Option Nat} (h : w.frozen? ⟨g, o, none⟩ = false) (hl : g < w.heap.size) (hg : w.grownBy w' row) (hne : row ≠ some g) : w'.frozen? ⟨g, o, none⟩ = false :=
  (World.frozen?_of_block (a := ⟨g, o, none⟩) (hg.block g hl (fun e => hne e.symm))).trans h
end
def preB (xs : List Int) (b : Int) (m : Nat) : List Int := ((List.range m).map Int.ofNat).filter fun n => decide (n = b) || decide (n ∈ xs)
theorem preB_succ (xs : List Int) (b : Int) (m : Nat) : preB xs b (m + 1) = if ((m : Int) = b ∨ (m : Int) ∈ xs) then preB xs b m ++ [(m : Int)] else preB xs b m := by
  unfold preB
  rw [List.range_succ, List.map_append, List.filter_append]
  have e : ([m] : List Nat).map Int.ofNat = [(m : Int)] := rfl
  rw [e]
  by_cases h : ((m : Int) = b ∨ (m : Int) ∈ xs)
  · rw [if_pos h, List.filter_cons_of_pos (by simpa using h)]; rfl
  · rw [if_neg h, List.filter_cons_of_neg (by simpa using h)]; simp
theorem preB_len (xs : List Int) (b : Int) (m : Nat) : (preB xs b m).length ≤ m := by
  have := List.length_filter_le (fun n => decide (n = b) || decide (n ∈ xs)) ((List.range m).map Int.ofNat)
  simpa [preB] using this
def foldR (l : List Dt) (who inc b now : Int) (k : Nat) : List Dt × Bool := (l.take k).foldl (stepR who inc b now) ([], false)
theorem foldR_succ (l : List Dt) (who inc b now : Int) (k : Nat) (hk : k < l.length) : foldR l who inc b now (k + 1) = stepR who inc b now (foldR l who inc b now k) (dt l k) := by
  unfold foldR
  rw [List.take_succ_eq_append_getElem hk, List.foldl_append, dt_lt l hk]
  rfl
theorem foldR_len (l : List Dt) (who inc b now : Int) (k : Nat) : (foldR l who inc b now k).1.length ≤ 2 * k := by
  have := steps_len who inc b now (l.take k) ([], false)
  have h2 : (l.take k).length ≤ k := by rw [List.length_take]; omega
  simp only [List.length_nil] at this
  unfold foldR
  omega

set_option maxRecDepth 100000 in
set_option maxHeartbeats 8000000 in
theorem rraise_any (A : Option Addr) (c hi : Nat) (l : List Db) (who inc b now : Int) (w : World) (hl : l.length ≤ 400) (hs : Sm l) (h : Ds w hi A l) (hh : hi ≤ w.heap.size) :
    Calls Try.prog 24 #[.slice A l.length c, .int .i64 who, .int .u64 inc, .int .i64 b, .int .i64 now] w fun e w' => ∃ v ys, e = .returned v ∧ OwnD w' w.heap.size v ys ∧ ys.map Db.ct = refR (l.map Db.ct) who inc b now ∧ Below w.heap.size w w' := by
  obtain ⟨y, hy⟩ : ∃ y : Db, y = ⟨who, inc, now, some ⟨w.heap.size, 0, none⟩, 1, [b]⟩ := ⟨_, rfl⟩
  have HB0 : Hid (Below w.heap.size w ((w.alloc (.cells #[.int .i64 b] 3)).alloc (.cells #[.int .i64 who, .int .u64 inc, .int .i64 now, .slice (some ⟨w.heap.size, 0, none⟩) 1 1] 55))) := Lib.hid (((Below.refl _ w).alloc (Nat.le_refl _) _).alloc (by simp) _)
  have BX : Hid (Bt ((w.alloc (.cells #[.int .i64 b] 3)).alloc (.cells #[.int .i64 who, .int .u64 inc, .int .i64 now, .slice (some ⟨w.heap.size, 0, none⟩) 1 1] 55)) (w.heap.size + 1) y) := Lib.hid (by
    have := Bt.new (w.alloc (.cells #[.int .i64 b] 3)) y 55
    rw [hy] at this ⊢
    simpa using this)
  have RX : Hid (Rd ((w.alloc (.cells #[.int .i64 b] 3)).alloc (.cells #[.int .i64 who, .int .u64 inc, .int .i64 now, .slice (some ⟨w.heap.size, 0, none⟩) 1 1] 55)) (fun k => k = w.heap.size) y) := Lib.hid (by
    rw [hy]
    refine ⟨((Ns.one w b 3).imp fun k hk hk2 => ?_).on ((Below.refl _ _).alloc (Nat.le_refl _) _), Nat.le_refl _, by show (1 : Nat) ≤ maxLen; unfold maxLen; omega⟩
    show k = w.heap.size
    simp at hk
    omega)
  have HYC : Hid (y.ct = ⟨who, inc, now, [b]⟩) := Lib.hid (by rw [hy]; rfl)
  have HYV : Hid (y.w = who ∧ y.i = inc ∧ y.t = now ∧ y.A = some ⟨w.heap.size, 0, none⟩ ∧ y.b.length = 1 ∧ y.c = 1) := Lib.hid (by rw [hy]; exact ⟨rfl, rfl, rfl, rfl, rfl, rfl⟩)
  have HZ : Hid (((w.alloc (.cells #[.int .i64 b] 3)).alloc (.cells #[.int .i64 who, .int .u64 inc, .int .i64 now, .slice (some ⟨w.heap.size, 0, none⟩) 1 1] 55)).heap.size = w.heap.size + 2) := Lib.hid (by simp)
  have HD := Lib.hid (h.on HB0.out hh)
  have HH := Lib.hid hh
  have HS := Lib.hid hs
  have HFS : Hid (∀ k, k < l.length → foldR (l.map Db.ct) who inc b now (k + 1) = stepR who inc b now (foldR (l.map Db.ct) who inc b now k) (db l k).ct) := Lib.hid (fun k hk => by rw [foldR_succ _ _ _ _ _ k (by simpa using hk), ct_at])
  have HFL : Hid (∀ k, k ≤ l.length → (foldR (l.map Db.ct) who inc b now k).1.length + 2 ≤ 1000) := Lib.hid (fun k hk => by have := foldR_len (l.map Db.ct) who inc b now k; omega)
  have HF0 : Hid (foldR (l.map Db.ct) who inc b now 0 = ([], false)) := Lib.hid rfl
  have HFE : Hid (refR (l.map Db.ct) who inc b now = if (foldR (l.map Db.ct) who inc b now l.length).2 = true then (foldR (l.map Db.ct) who inc b now l.length).1 else (foldR (l.map Db.ct) who inc b now l.length).1 ++ [⟨who, inc, now, [b]⟩]) := Lib.hid (by
    unfold refR foldR
    rw [List.take_of_length_le (by simp)])
  have HST : Hid (∀ (s : List Dt × Bool) (x : Dt), stepR who inc b now s x = if x.w < who then (s.1 ++ [x], s.2) else if x.w = who then (s.1 ++ [mergeR who inc b now x], true) else ((if s.2 = true then s.1 else s.1 ++ [⟨who, inc, now, [b]⟩]) ++ [x], true)) := Lib.hid (fun s x => rfl)
  have HMR : Hid (∀ x : Dt, mergeR who inc b now x = if x.i < inc then ⟨who, inc, now, [b]⟩ else if inc < x.i ∨ b ∈ x.b then x else ⟨who, inc, x.t, preB x.b b 64⟩) := Lib.hid (fun x => rfl)
  generalize foldR (l.map Db.ct) who inc b now = st at *
  generalize refR (l.map Db.ct) who inc b now = RR at *
  clear h hs hh hy
  go_enter Try.func24, Try.ntmps24
  go_upto_region 3 with (fail)
  generalize ((w.alloc (.cells #[.int .i64 b] 3)).alloc (.cells #[.int .i64 who, .int .u64 inc, .int .i64 now, .slice (some ⟨w.heap.size, 0, none⟩) 1 1] 55)) = w1 at *
  go_wp2_with fail
  go_loopw [11, 13, 14] (fun v d i wr => ∃ (k : Nat) (ys : List Db) (dn : Bool), i = .int .i64 k ∧ d = .bool dn ∧ k ≤ l.length ∧ Hid (OwnD wr w1.heap.size v ys) ∧ Hid (ys.map Db.ct = (st k).1) ∧ Hid ((st k).2 = dn) ∧ Hid (Below w1.heap.size w1 wr)) (fun _ _ i _ => l.length - (intOf i).toNat)
  case atStart => exact ⟨0, [], false, rfl, rfl, Nat.zero_le _, Lib.hid (OwnD.nil _ _), Lib.hid (by rw [HF0.out]; rfl), Lib.hid (by rw [HF0.out]), Lib.hid (Below.refl _ _)⟩
  case round =>
    obtain ⟨wq, ewq⟩ : ∃ wq, wq = wr := ⟨_, rfl⟩
    subst ewq
    obtain ⟨k, ys, dn, rfl, rfl, hk, HO, HC, HDN, HBq⟩ := hrel
    have HYL : Hid (ys.length + 2 ≤ 1000) := Lib.hid (by
      have e : ys.length = (st k).1.length := by rw [← HC.out, List.length_map]
      have := HFL.out k hk
      omega)
    obtain ⟨o0, o1, o2, o3⟩ := BX.out
    have o0 := cell_on o0 HBq.out
    have o1 := cell_on o1 HBq.out
    have o2 := cell_on o2 HBq.out
    have o3 := cell_on o3 HBq.out
    by_cases hlt : k < l.length
    · obtain ⟨ad, rfl, hlo, h1, hrd⟩ := (HD.out.on HBq.out (by have := HZ.out; have := HH.out; omega)) k hlt
      obtain ⟨a0, a1, a2, a3⟩ := h1.flat
      have k0 : (0 : Int) ≤ (k : Int) := by omega
      have k1 : (k : Int) < (l.length : Int) := by omega
      have HFk := Lib.hid (HFS.out k hlt)
      rw [HST.out] at HFk
      have HBL := Lib.hid (HS.out.2 _ (db_mem l hlt))
      have HXR : Hid (Rd w1 (fun k => k < w1.heap.size) (db l k)) := Lib.hid (by
        obtain ⟨_, _, _, _, hr⟩ := HD.out k hlt
        exact hr.imp fun j _ hj => by have := HZ.out; have := HH.out; omega)
      clear h1 hrd
      have HAD : Hid (ad.block < w1.heap.size) := Lib.hid (by have := HZ.out; have := HH.out; omega)
      have HXA : Hid (DAt w1 (ad.add (k * 4)) (db l k)) := Lib.hid (by
        obtain ⟨_, e, _, h2, _⟩ := HD.out k hlt
        obtain rfl := Option.some.inj e
        exact h2)
      generalize db l k = x at *
      by_cases hgt : who < x.w
      · have d0 : decide (who < x.w) = true := by simpa using hgt
        have d1 : (x.w != who) = true := by simp; omega
        rw [if_neg (by show ¬x.w < who; omega), if_neg (by show ¬x.w = who; omega)] at HFk
        have d2 : ¬x.w = who := by omega
        rcases dn with _ | _
        · rw [if_neg (by rw [HDN.out]; decide)] at HFk
          obtain ⟨g1, g2, g3, g4, g5, g6⟩ := HYV.out
          rw [g1] at o0
          rw [g2] at o1
          rw [g3] at o2
          rw [g4, g5, g6] at o3
          clear g1 g2 g3 g4 g5 g6
          go_upto_region 8 with (fail)
          obtain ⟨v5, w5, h1, h2, h3⟩ := HO.out.put y ((RX.out.on HBq.out).off _ fun j hj hj2 => by have := (HO.out.ge j hj).1; have := HZ.out; omega) (HBq.out.size) (by have := HYL.out; omega) 22
          obtain ⟨g1, g2, g3, g4, g5, g6⟩ := HYV.out
          rw [g1, g2, g3, g4, g5, g6] at h1
          clear g1 g2 g3 g4 g5 g6
          have HO5 := Lib.hid h2
          have HB5 : Hid (Below w1.heap.size w1 w5) := Lib.hid (HBq.out.trans h3)
          clear h2 h3 HO HBq
          go_upto_region 9 with (at_builtin; refine wpList_app rfl 22 _ _ rfl _ _ rfl rfl h1 ?_)
          clear h1
          clear o0 o1 o2 o3 a0 a1 a2 a3
          have a0 := cell_on HXA.out.flat.1 HB5.out
          have a1 := cell_on HXA.out.flat.2.1 HB5.out
          have a2 := cell_on HXA.out.flat.2.2.1 HB5.out
          have a3 := cell_on HXA.out.flat.2.2.2 HB5.out
          go_upto_region 11 with (fail)
          obtain ⟨v6, w6, h1, h2, h3⟩ := HO5.out.put x ((HXR.out.on HB5.out).off _ fun j hj hj2 => by have := (HO5.out.ge j hj).1; omega) (HB5.out.size) (by have := HYL.out; rw [List.length_append, List.length_singleton]; omega) 22
          have HO6 := Lib.hid h2
          have HB6 : Hid (Below w1.heap.size w1 w6) := Lib.hid (HB5.out.trans h3)
          clear h2 h3 HO5 HB5
          go_wp2_with (at_builtin; refine wpList_app rfl 22 _ _ rfl _ _ rfl rfl h1 ?_)
          clear h1
          clear a0 a1 a2 a3
          go_roundw
          case rel => exact ⟨k + 1, _, true, by go_num, rfl, by omega, HO6, Lib.hid (by rw [HFk.out, ← HC.out, List.map_append, List.map_append, List.map_singleton, List.map_singleton, HYC.out]), Lib.hid (by rw [HFk.out]), HB6⟩
          case measure => simp [intOf]; omega
        · rw [if_pos HDN.out] at HFk
          go_upto_region 11 with (fail)
          obtain ⟨v5, w5, h1, h2, h3⟩ := HO.out.put x ((HXR.out.on HBq.out).off _ fun j hj hj2 => by have := (HO.out.ge j hj).1; omega) (HBq.out.size) (by have := HYL.out; omega) 22
          have HO5 := Lib.hid h2
          have HB5 : Hid (Below w1.heap.size w1 w5) := Lib.hid (HBq.out.trans h3)
          clear h2 h3 HO HBq
          go_wp2_with (at_builtin; refine wpList_app rfl 22 _ _ rfl _ _ rfl rfl h1 ?_)
          clear h1
          clear o0 o1 o2 o3 a0 a1 a2 a3
          go_roundw
          case rel => exact ⟨k + 1, _, true, by go_num, rfl, by omega, HO5, Lib.hid (by rw [HFk.out, ← HC.out, List.map_append, List.map_singleton]), Lib.hid (by rw [HFk.out]), HB5⟩
          case measure => simp [intOf]; omega
      have d0 : decide (who < x.w) = false := by simp; omega
      by_cases hwlt : x.w < who
      · have d1 : (x.w != who) = true := by simp; omega
        have d2 : ¬x.w = who := by omega
        rw [if_pos (by show x.w < who; omega)] at HFk
        go_upto_region 11 with (fail)
        obtain ⟨v5, w5, h1, h2, h3⟩ := HO.out.put x ((HXR.out.on HBq.out).off _ fun j hj hj2 => by have := (HO.out.ge j hj).1; omega) (HBq.out.size) (by have := HYL.out; omega) 22
        have HO5 := Lib.hid h2
        have HB5 : Hid (Below w1.heap.size w1 w5) := Lib.hid (HBq.out.trans h3)
        clear h2 h3 HO HBq
        go_wp2_with (at_builtin; refine wpList_app rfl 22 _ _ rfl _ _ rfl rfl h1 ?_)
        clear h1
        clear o0 o1 o2 o3 a0 a1 a2 a3
        go_roundw
        case rel => exact ⟨k + 1, _, dn, by go_num, rfl, by omega, HO5, Lib.hid (by rw [HFk.out, ← HC.out, List.map_append, List.map_singleton]), Lib.hid (by rw [HFk.out]; exact HDN.out), HB5⟩
        case measure => simp [intOf]; omega
      have hweq : x.w = who := by omega
      have d1 : (x.w != who) = false := by simpa using hweq
      rw [if_neg (by show ¬x.w < who; omega), if_pos (show x.ct.w = who from hweq), HMR.out] at HFk
      by_cases hi1 : x.i < inc
      · have d2 : decide (x.i < inc) = true := by simpa using hi1
        rw [if_pos (show x.ct.i < inc from hi1)] at HFk
        have HWE := Lib.hid hweq
        clear hweq hwlt hgt
        obtain ⟨g1, g2, g3, g4, g5, g6⟩ := HYV.out
        rw [g1] at o0
        rw [g2] at o1
        rw [g3] at o2
        rw [g4, g5, g6] at o3
        clear g1 g2 g3 g4 g5 g6
        go_upto_region 21 with (fail)
        obtain ⟨v5, w5, h1, h2, h3⟩ := HO.out.put y ((RX.out.on HBq.out).off _ fun j hj hj2 => by have := (HO.out.ge j hj).1; have := HZ.out; omega) (HBq.out.size) (by have := HYL.out; omega) 22
        obtain ⟨g1, g2, g3, g4, g5, g6⟩ := HYV.out
        rw [g1, g2, g3, g4, g5, g6] at h1
        clear g1 g2 g3 g4 g5 g6
        have HO5 := Lib.hid h2
        have HB5 : Hid (Below w1.heap.size w1 w5) := Lib.hid (HBq.out.trans h3)
        clear h2 h3 HO HBq
        go_wp2_with (at_builtin; refine wpList_app rfl 22 _ _ rfl _ _ rfl rfl h1 ?_)
        clear h1
        clear o0 o1 o2 o3 a0 a1 a2 a3
        go_roundw
        case rel => exact ⟨k + 1, _, true, by go_num, rfl, by omega, HO5, Lib.hid (by rw [HFk.out, ← HC.out, List.map_append, List.map_singleton, HYC.out]), Lib.hid (by rw [HFk.out]), HB5⟩
        case measure => simp [intOf]; omega
      have d2 : decide (x.i < inc) = false := by simpa using hi1
      rw [if_neg (show ¬x.ct.i < inc from hi1)] at HFk
      by_cases hi2 : inc < x.i
      · have d3 : decide (inc < x.i) = true := by simpa using hi2
        rw [if_pos (.inl (show inc < x.ct.i from hi2))] at HFk
        have HWE := Lib.hid hweq
        clear hweq hwlt hgt
        go_upto_region 23 with (fail)
        obtain ⟨v5, w5, h1, h2, h3⟩ := HO.out.put x ((HXR.out.on HBq.out).off _ fun j hj hj2 => by have := (HO.out.ge j hj).1; omega) (HBq.out.size) (by have := HYL.out; omega) 22
        have HO5 := Lib.hid h2
        have HB5 : Hid (Below w1.heap.size w1 w5) := Lib.hid (HBq.out.trans h3)
        clear h2 h3 HO HBq
        go_wp2_with (at_builtin; refine wpList_app rfl 22 _ _ rfl _ _ rfl rfl h1 ?_)
        clear h1
        clear o0 o1 o2 o3 a0 a1 a2 a3
        go_roundw
        case rel => exact ⟨k + 1, _, true, by go_num, rfl, by omega, HO5, Lib.hid (by rw [HFk.out, ← HC.out, List.map_append, List.map_singleton]), Lib.hid (by rw [HFk.out]), HB5⟩
        case measure => simp [intOf]; omega
      have d3 : decide (inc < x.i) = false := by simpa using hi2
      have HMY := Lib.hid (fun (y : Int) (W : World) (h : Has W 0 W.heap.size x.A x.b) => many_any x.A x.c 0 W.heap.size x.b y W (by have := HBL.out; omega) h)
      have HMP : Hid (∀ y : Int, 0 < many x.b y ↔ y ∈ x.b) := Lib.hid (fun y => by rw [many_count, List.count_pos_iff])
      have HMb := Lib.hid (HMY.out b wq (HXR.out.on HBq.out).1.has)
      have HMPb := Lib.hid (HMP.out b)
      by_cases hmb : b ∈ x.b
      · rw [if_pos (.inr (show b ∈ x.ct.b from hmb))] at HFk
        have d4 : decide (0 < ((many x.b b : Nat) : Int)) = true := by have := HMPb.out.2 hmb; simp; omega
        have d5 : decide (0 < many x.b b) = true := by have := HMPb.out.2 hmb; simp; omega
        generalize many x.b b = q at *
        have HWE := Lib.hid hweq
        clear hweq hwlt hgt HMPb hmb HMY HMP
        go_upto_region 23 with (go_at_call 43; refine HMb.out.mono ?_; rintro e w' ⟨rfl, rfl⟩)
        clear HMb
        obtain ⟨v5, w5, h1, h2, h3⟩ := HO.out.put x ((HXR.out.on HBq.out).off _ fun j hj hj2 => by have := (HO.out.ge j hj).1; omega) (HBq.out.size) (by have := HYL.out; omega) 22
        have HO5 := Lib.hid h2
        have HB5 : Hid (Below w1.heap.size w1 w5) := Lib.hid (HBq.out.trans h3)
        clear h2 h3 HO HBq
        go_wp2_with (at_builtin; refine wpList_app rfl 22 _ _ rfl _ _ rfl rfl h1 ?_)
        clear h1
        clear o0 o1 o2 o3 a0 a1 a2 a3
        go_roundw
        case rel => exact ⟨k + 1, _, true, by go_num, rfl, by omega, HO5, Lib.hid (by rw [HFk.out, ← HC.out, List.map_append, List.map_singleton]), Lib.hid (by rw [HFk.out]), HB5⟩
        case measure => simp [intOf]; omega
      rw [if_neg (by rintro (h | h) <;> contradiction)] at HFk
      have d4 : decide (0 < ((many x.b b : Nat) : Int)) = false := by have := mt HMPb.out.1 hmb; simp; omega
      have d5 : decide (0 < many x.b b) = false := by have := mt HMPb.out.1 hmb; simp; omega
      generalize many x.b b = q at *
      have HWE := Lib.hid hweq
      clear hweq hwlt hgt HMPb hmb
      go_upto_region 13 with (go_at_call 43; refine HMb.out.mono ?_; rintro e w' ⟨rfl, rfl⟩)
      clear HMb d4 d5
      have HPS := Lib.hid (fun m => preB_succ x.b b m)
      have HPL := Lib.hid (fun m => preB_len x.b b m)
      have HP0 : Hid (preB x.b b 0 = []) := Lib.hid rfl
      have hxct : x.ct.b = x.b := rfl
      have hxct2 : x.ct.t = x.t := rfl
      rw [hxct, hxct2] at HFk
      clear hxct hxct2
      have BN : Hid (Bt (wq.alloc (.cells #[.int .i64 who, .int .u64 inc, .int .i64 x.t, .slice none 0 0] 55)) wq.heap.size ⟨who, inc, x.t, none, 0, []⟩) := Lib.hid (Bt.new wq ⟨who, inc, x.t, none, 0, []⟩ _)
      have FN_ : Hid ((wq.alloc (.cells #[.int .i64 who, .int .u64 inc, .int .i64 x.t, .slice none 0 0] 55)).frozen? ⟨wq.heap.size, 3, none⟩ = false) := Lib.hid (by go_simp)
      have HW1 : Hid (Below wq.heap.size wq (wq.alloc (.cells #[.int .i64 who, .int .u64 inc, .int .i64 x.t, .slice none 0 0] 55))) := Lib.hid ((Below.refl _ _).alloc (Nat.le_refl _) _)
      have HSZ : Hid (wq.heap.size + 1 ≤ (wq.alloc (.cells #[.int .i64 who, .int .u64 inc, .int .i64 x.t, .slice none 0 0] 55)).heap.size) := Lib.hid (by simp)
      go_upto_region 14 with (fail)
      clear o0 o1 o2 o3 a0 a1 a2 a3
      generalize (wq.alloc (.cells #[.int .i64 who, .int .u64 inc, .int .i64 x.t, .slice none 0 0] 55)) = wb at *
      obtain ⟨nb, hnb⟩ : ∃ nb, nb = wq.heap.size := ⟨_, rfl⟩
      rw [← hnb] at BN FN_ HW1 HSZ ⊢
      have HNB := Lib.hid hnb
      clear hnb
      go_wp2_with fail
      go_loopw [16] (fun i wr => ∃ (m : Nat) (A' : Option Addr) (c' : Nat) (bs : List Int), i = .int .i64 m ∧ m ≤ 64 ∧ Hid (bs = preB x.b b m) ∧ Hid (OwnN wr (nb + 1) (.slice A' bs.length c') bs) ∧ Hid (Bt wr nb ⟨who, inc, x.t, A', c', bs⟩) ∧ Hid (wr.frozen? ⟨nb, 3, none⟩ = false) ∧ Hid (Below nb wq wr)) (fun i _ => 64 - (intOf i).toNat)
      case atStart => exact ⟨0, none, 0, [], rfl, Nat.zero_le _, Lib.hid (by rw [HP0.out]), Lib.hid (OwnN.nil _ _), BN, FN_, HW1⟩
      case round =>
        obtain ⟨ws, ews⟩ : ∃ ws, ws = wr := ⟨_, rfl⟩
        subst ews
        obtain ⟨m, A', c', bs, rfl, hm, HBS, HN, HBT, HFZ, HBs⟩ := hrel
        obtain ⟨b0, b1, b2, b3⟩ := HBT.out
        have hfz := HFZ.out
        have HB1s : Hid (Below w1.heap.size w1 ws) := Lib.hid (HBq.out.trans (HBs.out.mono (by have := HBq.out.size; have := HNB.out; omega)))
        have HPm := Lib.hid (HPS.out m)
        rw [← HBS.out] at HPm
        have HPl := Lib.hid (HPL.out m)
        rw [← HBS.out] at HPl
        by_cases hm64 : m < 64
        · have e0 : decide ((m : Int) < 64) = true := by simp; omega
          have e0' : (m : Int) < 64 := by omega
          have a3 := cell_on HXA.out.flat.2.2.2 HB1s.out
          have HMm := Lib.hid (HMY.out (m : Int) ws (HXR.out.on HB1s.out).1.has)
          have HMPm := Lib.hid (HMP.out (m : Int))
          obtain ⟨q2, hq2⟩ : ∃ q2, q2 = many x.b (m : Int) := ⟨_, rfl⟩
          rw [← hq2] at HMm HMPm
          clear hq2
          by_cases hp : ((m : Int) = b ∨ (m : Int) ∈ x.b)
          · rw [if_pos hp] at HPm
            have HAP := Lib.hid (fun ty => appN_own (ws.alloc (.cells #[.int .i64 (m : Int)] 3)) ty (nb + 1) _ bs (HN.out.alloc _) _ (some ⟨ws.heap.size, 0, none⟩) 1 [(m : Int)] (Ns.one ws (m : Int) _) (by simp; have := HPl.out; omega) (by have := HBs.out.size; have := HBT.out.lt; simp; omega))
            by_cases hmb2 : (m : Int) = b
            · subst hmb2
              have e1 : ((m : Int) == (m : Int)) = true := by simp
              clear hp HMPm
              go_upto_region 18 with (fail)
              obtain ⟨v4, w4, h1, h2, h3, _⟩ := HAP.out 53
              rw [← HPm.out] at h2
              obtain ⟨A4, c4, rfl, _, _, _⟩ := h2.ns
              have hba' : Below ws.heap.size ws (ws.alloc (.cells #[.int .i64 (m : Int)] 3)) := (Below.refl _ _).alloc (Nat.le_refl _) _
              have hba : Below nb ws (ws.alloc (.cells #[.int .i64 (m : Int)] 3)) := hba'.mono (by have := HBT.out.lt; omega)
              have hge : ∀ k, (Value.slice A' bs.length c').ownBlock = some k → nb + 1 ≤ k := fun k hk => (HN.out.ge k hk).1
              have hrow : (Value.slice A' bs.length c').ownBlock ≠ some nb := fun e => by have := hge nb e; omega
              have HBT4 := Lib.hid ((HBT.out.alloc (.cells #[.int .i64 (m : Int)] 3)).grown h3 hrow)
              have hf4 : w4.frozen? ⟨nb, 3, none⟩ = false := frozen_grown ((World.frozen?_of_block (a := ⟨nb, 3, none⟩) (hba'.block nb HBT.out.lt)).trans hfz) (by have := HBT.out.lt; simp; omega) h3 hrow
              have HB4 : Hid (Below nb wq w4) := Lib.hid ((HBs.out.trans hba).grown h3 (by have := HBs.out.size; have := HBT.out.lt; have := HNB.out; simp; omega) (fun k hk => by have := hge k hk; omega))
              have HBT5 := Lib.hid (HBT4.out.set3 A4 c4 (preB x.b (m : Int) (m + 1)))
              have HN5 : Hid (OwnN (w4.setCell ⟨nb, 3, none⟩ (.slice A4 (preB x.b (m : Int) (m + 1)).length c4)) (nb + 1) (.slice A4 (preB x.b (m : Int) (m + 1)).length c4) (preB x.b (m : Int) (m + 1))) := Lib.hid (h2.keep (fun k hk => by have := (h2.ge k hk).1; exact heap_setCell_other _ _ _ _ (by show k ≠ nb; omega)))
              have HF5 : Hid ((w4.setCell ⟨nb, 3, none⟩ (.slice A4 (preB x.b (m : Int) (m + 1)).length c4)).frozen? ⟨nb, 3, none⟩ = false) := Lib.hid (by simpa [World.frozen?_setCell] using hf4)
              have HB5 := Lib.hid (HB4.out.setCell (p := ⟨nb, 3, none⟩) (Nat.le_refl _) (.slice A4 (preB x.b (m : Int) (m + 1)).length c4))
              obtain ⟨c0, c1, c2, c3⟩ := HBT4.out
              clear h2 h3 hba hba' hge hrow HAP HBT4 HB4
              go_wp2_with (at_builtin; refine wpList_app rfl 53 _ _ rfl _ _ rfl rfl h1 ?_)
              clear h1 b0 b1 b2 b3 a3 hfz HN HBT HFZ HBs HMm
              generalize w4.setCell ⟨nb, 3, none⟩ (.slice A4 (preB x.b (m : Int) (m + 1)).length c4) = w5 at *
              clear c0 c1 c2 c3 hf4
              go_roundw
              case rel => exact ⟨m + 1, A4, c4, _, by go_num, by omega, Lib.hid rfl, HN5, HBT5, HF5, HB5⟩
              case measure => simp [intOf]; omega
            · have e1 : ((m : Int) == b) = false := by simpa using hmb2
              have e2 : decide (0 < (q2 : Int)) = true := by have := HMPm.out.2 (hp.resolve_left hmb2); simp; omega
              have e3 : decide (0 < q2) = true := by have := HMPm.out.2 (hp.resolve_left hmb2); simp; omega
              clear hp HMPm
              go_upto_region 18 with (go_at_call 43; refine HMm.out.mono ?_; rintro e w' ⟨rfl, rfl⟩)
              obtain ⟨v4, w4, h1, h2, h3, _⟩ := HAP.out 53
              rw [← HPm.out] at h2
              obtain ⟨A4, c4, rfl, _, _, _⟩ := h2.ns
              have hba' : Below ws.heap.size ws (ws.alloc (.cells #[.int .i64 (m : Int)] 3)) := (Below.refl _ _).alloc (Nat.le_refl _) _
              have hba : Below nb ws (ws.alloc (.cells #[.int .i64 (m : Int)] 3)) := hba'.mono (by have := HBT.out.lt; omega)
              have hge : ∀ k, (Value.slice A' bs.length c').ownBlock = some k → nb + 1 ≤ k := fun k hk => (HN.out.ge k hk).1
              have hrow : (Value.slice A' bs.length c').ownBlock ≠ some nb := fun e => by have := hge nb e; omega
              have HBT4 := Lib.hid ((HBT.out.alloc (.cells #[.int .i64 (m : Int)] 3)).grown h3 hrow)
              have hf4 : w4.frozen? ⟨nb, 3, none⟩ = false := frozen_grown ((World.frozen?_of_block (a := ⟨nb, 3, none⟩) (hba'.block nb HBT.out.lt)).trans hfz) (by have := HBT.out.lt; simp; omega) h3 hrow
              have HB4 : Hid (Below nb wq w4) := Lib.hid ((HBs.out.trans hba).grown h3 (by have := HBs.out.size; have := HBT.out.lt; have := HNB.out; simp; omega) (fun k hk => by have := hge k hk; omega))
              have HBT5 := Lib.hid (HBT4.out.set3 A4 c4 (preB x.b b (m + 1)))
              have HN5 : Hid (OwnN (w4.setCell ⟨nb, 3, none⟩ (.slice A4 (preB x.b b (m + 1)).length c4)) (nb + 1) (.slice A4 (preB x.b b (m + 1)).length c4) (preB x.b b (m + 1))) := Lib.hid (h2.keep (fun k hk => by have := (h2.ge k hk).1; exact heap_setCell_other _ _ _ _ (by show k ≠ nb; omega)))
              have HF5 : Hid ((w4.setCell ⟨nb, 3, none⟩ (.slice A4 (preB x.b b (m + 1)).length c4)).frozen? ⟨nb, 3, none⟩ = false) := Lib.hid (by simpa [World.frozen?_setCell] using hf4)
              have HB5 := Lib.hid (HB4.out.setCell (p := ⟨nb, 3, none⟩) (Nat.le_refl _) (.slice A4 (preB x.b b (m + 1)).length c4))
              obtain ⟨c0, c1, c2, c3⟩ := HBT4.out
              clear h2 h3 hba hba' hge hrow HAP HBT4 HB4
              go_wp2_with (at_builtin; refine wpList_app rfl 53 _ _ rfl _ _ rfl rfl h1 ?_)
              clear h1 b0 b1 b2 b3 a3 hfz HN HBT HFZ HBs HMm
              generalize w4.setCell ⟨nb, 3, none⟩ (.slice A4 (preB x.b b (m + 1)).length c4) = w5 at *
              clear c0 c1 c2 c3 hf4
              go_roundw
              case rel => exact ⟨m + 1, A4, c4, _, by go_num, by omega, Lib.hid rfl, HN5, HBT5, HF5, HB5⟩
              case measure => simp [intOf]; omega
          · rw [if_neg hp] at HPm
            have hn1 : ¬(m : Int) = b := fun h => hp (.inl h)
            have e1 : ((m : Int) == b) = false := by simpa using hn1
            have hn2 : ¬0 < q2 := fun h => hp (.inr (HMPm.out.1 h))
            have e2 : decide (0 < (q2 : Int)) = false := by simp; omega
            have e3 : decide (0 < q2) = false := by simp; omega
            clear hp HMPm hn2
            go_wp2_with (go_at_call 43; refine HMm.out.mono ?_; rintro e w' ⟨rfl, rfl⟩)
            clear HMm a3 b0 b1 b2 b3
            go_roundw
            case rel => exact ⟨m + 1, A', c', bs, by go_num, by omega, Lib.hid HPm.out.symm, HN, HBT, HFZ, HBs⟩
            case measure => simp [intOf]; omega
        · obtain rfl : m = 64 := by omega
          have e0 : decide (((64 : Nat) : Int) < 64) = false := by decide
          have e0' : ¬((64 : Nat) : Int) < 64 := by omega
          rw [← HBS.out] at HFk
          obtain ⟨An, cn, en, hbc, hcm, hns⟩ := HN.out.ns
          have eA : An = A' ∧ cn = c' := by injection en with e1 _ e2; exact ⟨e1.symm, e2.symm⟩
          obtain ⟨rfl, rfl⟩ := eA
          have HOs := Lib.hid (HO.out.on (by have := HBs.out; rwa [HNB.out] at this))
          have HGEv : Hid (∀ k, u11.ownBlock = some k → k < nb) := Lib.hid (fun k hk => by have := (HO.out.ge k hk).2; have := HNB.out; omega)
          have HRz : Hid (Rd ws (fun k => u11.ownBlock ≠ some k) ⟨who, inc, x.t, An, cn, bs⟩) := Lib.hid ⟨hns.imp (fun k _ hk e => by have := HGEv.out k e; omega), hbc, hcm⟩
          clear en hbc hcm hns HGEv
          go_upto_region 19 with (fail)
          obtain ⟨v5, w5, h1, h2, h3⟩ := HOs.out.put _ HRz.out HB1s.out.size (by have := HYL.out; omega) 22
          have HO5 := Lib.hid h2
          have HB5 : Hid (Below w1.heap.size w1 w5) := Lib.hid (HB1s.out.trans h3)
          clear h2 h3 HOs HRz HBT HFZ hfz HN HBs
          go_wp2_with (at_builtin; refine wpList_app rfl 22 _ _ rfl _ _ rfl rfl h1 ?_)
          clear h1 b0 b1 b2 b3
          go_roundw
          case rel => exact ⟨k + 1, _, true, by go_num, rfl, by omega, HO5, Lib.hid (by rw [HFk.out, ← HC.out, List.map_append, List.map_singleton]; rfl), Lib.hid (by rw [HFk.out]), HB5⟩
          case measure => simp [intOf]; omega
    · obtain rfl : k = l.length := by omega
      have e0 : decide ((l.length : Int) < (l.length : Int)) = false := by simp
      have HBE : Hid (Below w.heap.size w wq) := Lib.hid (HB0.out.trans (HBq.out.mono HB0.out.size))
      rcases dn with _ | _
      · rw [if_neg (by rw [HDN.out]; decide)] at HFE
        obtain ⟨g1, g2, g3, g4, g5, g6⟩ := HYV.out
        rw [g1] at o0
        rw [g2] at o1
        rw [g3] at o2
        rw [g4, g5, g6] at o3
        clear g1 g2 g3 g4 g5 g6
        go_upto_region 25 with (fail)
        obtain ⟨v5, w5, h1, h2, h3⟩ := HO.out.put y ((RX.out.on HBq.out).off _ fun j hj hj2 => by have := (HO.out.ge j hj).1; have := HZ.out; omega) (HBq.out.size) (by have := HYL.out; omega) 22
        obtain ⟨g1, g2, g3, g4, g5, g6⟩ := HYV.out
        rw [g1, g2, g3, g4, g5, g6] at h1
        clear g1 g2 g3 g4 g5 g6
        have HO5 := Lib.hid h2
        have HB5 : Hid (Below w1.heap.size w1 w5) := Lib.hid (HBq.out.trans h3)
        clear h2 h3 HO HBq
        go_wp2_with (at_builtin; refine wpList_app rfl 22 _ _ rfl _ _ rfl rfl h1 ?_)
        clear h1
        have HBE5 : Hid (Below w.heap.size w w5) := Lib.hid (HB0.out.trans (HB5.out.mono HB0.out.size))
        clear o0 o1 o2 o3
        go_ret
        exact ⟨_, _, rfl, HO5.out.mono (by have := HZ.out; omega), by rw [HFE.out, ← HC.out, List.map_append, List.map_singleton, HYC.out], HBE5.out⟩
      · rw [if_pos HDN.out] at HFE
        clear o0 o1 o2 o3
        go_wp2_with fail
        go_ret
        exact ⟨_, _, rfl, HO.out.mono (by have := HZ.out; omega), by rw [HFE.out, ← HC.out], HBE.out⟩
end Go.Proofs.Ytknpbbplolncpaa
