/-
  The walks of the document's Merge, Up, Others and Behind.
-/
import Derived.Test.YtmfpipcedblklaaRef
namespace Go.Proofs.Ytmfpipcedblklaa
open Go.Sort Go.RowKit Go.Proofs.Ytmfpipcedblklaa.Pure

set_option maxRecDepth 100000 in
set_option maxHeartbeats 2000000 in
theorem rmer_any (A A' : Option Addr) (c c' : Nat) (t o : List Kn) (w : World) (hn : t.length ≤ 1000) (hl : t.length = o.length) (h : Lst w A t) (h' : Lst w A' o) :
    Calls Try.prog 27 #[.slice A t.length c, .slice A' o.length c'] w (Lists w (merL t o)) := by
  have H := Lib.hid h
  have H' := Lib.hid h'
  have HP : Hid (∀ (v : Value) (W : World), Own W w.heap.size v (merK t.length t o) → Below w.heap.size w W → Lists w (merL t o) (.returned v) W) := Lib.hid fun v W ho hb => ⟨v, rfl, ho, hb⟩
  have HZ : Hid (merK 0 t o = t) := Lib.hid (merK_zero t o)
  have HS : Hid (∀ k, k < t.length → appL (merK k t o) k (kn o k) = merK (k + 1) t o) := Lib.hid fun k hk => merK_succ t o k hk
  have HL : Hid (∀ k, (merK k t o).length = t.length) := Lib.hid fun k => len_merK k t o
  rw [← hl]
  have hol : o.length = t.length := hl.symm
  clear h h' hl
  go_enter Try.func27, Try.ntmps27
  go_wp2_with (at_builtin; refine wpList_append_lst rfl _ _ rfl w.heap.size _ [] rfl ?c1 A c t rfl ?c2 ?c3 ?c4 ?_)
  case c1 => exact World.ownsRow_made w #[] 0 (Nat.le_refl _) (Nat.zero_le _) rfl
  case c2 => exact H.out.alloc _
  case c3 => simp; omega
  case c4 => simp
  intro v3 w3 hown3 hgrow3
  have HO3 : Hid (Own w3 w.heap.size v3 (merK 0 t o)) := Lib.hid (by rw [HZ.out]; exact hown3)
  have HB3 : Hid (Below w.heap.size w w3) := Lib.hid (((Below.refl _ w).alloc (Nat.le_refl _) _).grown hgrow3 (by simp) (by intro k hk; simp [Value.ownBlock] at hk; omega))
  clear hown3 hgrow3 HZ
  go_wp2_with fail
  go_loopw [5, 6] (fun v i wr => ∃ k : Nat, i = .int .i64 k ∧ k ≤ t.length ∧ Hid (Own wr w.heap.size v (merK k t o)) ∧ Hid (Below w.heap.size w wr)) (fun _ i _ => t.length - (intOf i).toNat)
  case atStart => exact ⟨0, rfl, Nat.zero_le _, HO3, HB3⟩
  case round =>
    clear HO3 HB3
    obtain ⟨k, rfl, hk, ho, hb⟩ := hrel
    by_cases hlt : k < t.length
    · obtain ⟨ad, rfl, hlo, h1⟩ := (H'.out.on hb.out) k (by omega)
      obtain ⟨a0, a1⟩ := h1.flat
      obtain ⟨A2, c2, rfl, hc2, hl2⟩ := ho.out.lst
      have k0 : (0 : Int) ≤ (k : Int) := by omega
      have k1 : (k : Int) < (t.length : Int) := by omega
      have HA := Lib.hid (rapp_any A2 c2 (merK k t o) k (kn o k) wr (by rw [HL.out]; omega) hl2 (by rw [HL.out]; omega))
      rw [HS.out k hlt] at HA
      have hsz := Lib.hid hb.out.size
      generalize kn o k = x at *
      clear h1 ho hl2
      rw [HL.out] at HA hc2 ⊢
      go_wp2_with fail
      refine HA.out.mono ?_
      rintro e w4 ⟨v4, rfl, ho4, hb4⟩
      have HO4 : Hid (Own w4 w.heap.size v4 (merK (k + 1) t o)) := Lib.hid (ho4.mono hsz.out)
      have HB4 : Hid (Below w.heap.size w w4) := Lib.hid (hb.out.trans (hb4.mono hsz.out))
      clear ho4 hb4 a0 a1
      go_wp2_with fail
      go_roundw
      case rel => exact ⟨k + 1, by go_num, by omega, HO4, HB4⟩
      case measure => simp [intOf]; omega
    · obtain rfl : k = t.length := by omega
      have HE := Lib.hid (HP.out _ _ ho.out hb.out)
      clear ho hb HP H H' HS
      go_wp2_with fail
      go_ret
      exact HE.out

set_option maxRecDepth 100000 in
set_option maxHeartbeats 2000000 in
theorem rup_any (A : Option Addr) (c : Nat) (l : List Kn) (w : World) (hn : l.length ≤ 1000) (h : Lst w A l) :
    Calls Try.prog 22 #[.slice A l.length c] w (Nodes w (upL l)) := by
  have H := Lib.hid h
  clear h
  have HM : Hid (∀ (v : Value) (W : World), OwnN W w.heap.size v (pick (upP l) l.length) → Below w.heap.size w W → Nodes w (upL l) (.returned v) W) := Lib.hid fun v W ho hb => ho.nodes hb
  go_enter Try.func22, Try.ntmps22
  go_wp2_with fail
  go_loopw [3, 4] (fun v i wr => ∃ k : Nat, i = .int .i64 k ∧ k ≤ l.length ∧ Hid (OwnN wr w.heap.size v (pick (upP l) k)) ∧ Hid (Below w.heap.size w wr)) (fun _ i _ => l.length - (intOf i).toNat)
  case atStart => exact ⟨0, by go_num, Nat.zero_le _, Lib.hid (OwnN.nil _ _), Lib.hid (Below.refl _ _)⟩
  case round =>
    obtain ⟨k, rfl, hk, ho, hb⟩ := hrel
    by_cases hlt : k < l.length
    · obtain ⟨ad, rfl, hlo, h1⟩ := (H.out.on hb.out) k hlt
      obtain ⟨a0, a1⟩ := h1.flat
      have k0 : (0 : Int) ≤ (k : Int) := by omega
      have k1 : (k : Int) < (l.length : Int) := by omega
      have hsz := hb.out.size
      have HF := Lib.hid (pick_succ (upP l) k)
      have hfl := pick_length (upP l) k
      clear h1
      have HPk : Hid (upP l k = ((kn l k).s == 0 || (kn l k).s == 1)) := Lib.hid rfl
      generalize kn l k = x at *
      obtain ⟨xi, xs⟩ := x
      simp only at a0 a1 HPk
      by_cases e0 : xs = 0
      · have hP : upP l k = true := by rw [HPk.out]; simp [e0]
        subst e0
        have HFt : Hid (pick (upP l) (k + 1) = pick (upP l) k ++ [k]) := Lib.hid (by rw [HF.out, if_pos hP])
        generalize pick (upP l) k = F at *
        clear HF hP
        go_wp2_with (at_builtin; refine wpList_append_node rfl _ _ rfl w.heap.size _ F rfl ?c1 ⟨wr.heap.size, 0, none⟩ 1 k rfl ?c2 ?c3 ?c4 ?_)
        case c1 => exact ho.out.alloc _
        case c2 => go_simp
        case c3 => omega
        case c4 => simp; omega
        intro v' w4 hown4 hgrow4
        have HO4 : Hid (OwnN w4 w.heap.size v' (pick (upP l) (k + 1))) := Lib.hid (by rw [HFt.out]; exact hown4)
        have HB4 : Hid (Below w.heap.size w w4) := Lib.hid ((hb.out.alloc hsz _).grown hgrow4 (by simp; omega) (fun k hk => (ho.out.ge k hk).1))
        clear hown4 hgrow4 ho hb
        go_wp2_with fail
        go_roundw
        case rel => exact ⟨k + 1, by go_num, by omega, HO4, HB4⟩
        case measure => simp [intOf]; omega
      · by_cases e1 : xs = 1
        · have hP : upP l k = true := by rw [HPk.out]; simp [e1]
          subst e1
          have HFt : Hid (pick (upP l) (k + 1) = pick (upP l) k ++ [k]) := Lib.hid (by rw [HF.out, if_pos hP])
          generalize pick (upP l) k = F at *
          clear HF hP
          go_wp2_with (at_builtin; refine wpList_append_node rfl _ _ rfl w.heap.size _ F rfl ?c1 ⟨wr.heap.size, 0, none⟩ 1 k rfl ?c2 ?c3 ?c4 ?_)
          case c1 => exact ho.out.alloc _
          case c2 => go_simp
          case c3 => omega
          case c4 => simp; omega
          intro v' w4 hown4 hgrow4
          have HO4 : Hid (OwnN w4 w.heap.size v' (pick (upP l) (k + 1))) := Lib.hid (by rw [HFt.out]; exact hown4)
          have HB4 : Hid (Below w.heap.size w w4) := Lib.hid ((hb.out.alloc hsz _).grown hgrow4 (by simp; omega) (fun k hk => (ho.out.ge k hk).1))
          clear hown4 hgrow4 ho hb
          go_wp2_with fail
          go_roundw
          case rel => exact ⟨k + 1, by go_num, by omega, HO4, HB4⟩
          case measure => simp [intOf]; omega
        · have hP : ¬upP l k = true := by rw [HPk.out]; simp [e0, e1]
          have d0 : (xs == 0) = false := by simpa using e0
          have d1 : (xs == 1) = false := by simpa using e1
          have HO4 : Hid (OwnN wr w.heap.size _ (pick (upP l) (k + 1))) := Lib.hid (by rw [HF.out, if_neg hP]; simpa using ho.out)
          clear HF ho hP
          go_wp2_with fail
          go_roundw
          case rel => exact ⟨k + 1, by go_num, by omega, HO4, hb⟩
          case measure => simp [intOf]; omega

    · obtain rfl : k = l.length := by omega
      have HE := Lib.hid (HM.out _ _ ho.out hb.out)
      clear ho hb HM H
      go_wp2_with fail
      go_ret
      exact HE.out

set_option maxRecDepth 100000 in
set_option maxHeartbeats 2000000 in
theorem roth_any (A : Option Addr) (c : Nat) (l : List Kn) (me : Int) (w : World) (hn : l.length ≤ 1000) (h : Lst w A l) :
    Calls Try.prog 24 #[.slice A l.length c, .int .i64 me] w (Nodes w (othL me l)) := by
  have H := Lib.hid h
  clear h
  have HM : Hid (∀ (v : Value) (W : World), OwnN W w.heap.size v (pick (othP me l) l.length) → Below w.heap.size w W → Nodes w (othL me l) (.returned v) W) := Lib.hid fun v W ho hb => ho.nodes hb
  go_enter Try.func24, Try.ntmps24
  go_wp2_with fail
  go_loopw [5, 6] (fun v i wr => ∃ k : Nat, i = .int .i64 k ∧ k ≤ l.length ∧ Hid (OwnN wr w.heap.size v (pick (othP me l) k)) ∧ Hid (Below w.heap.size w wr)) (fun _ i _ => l.length - (intOf i).toNat)
  case atStart => exact ⟨0, by go_num, Nat.zero_le _, Lib.hid (OwnN.nil _ _), Lib.hid (Below.refl _ _)⟩
  case round =>
    obtain ⟨k, rfl, hk, ho, hb⟩ := hrel
    by_cases hlt : k < l.length
    · obtain ⟨ad, rfl, hlo, h1⟩ := (H.out.on hb.out) k hlt
      obtain ⟨a0, a1⟩ := h1.flat
      have k0 : (0 : Int) ≤ (k : Int) := by omega
      have k1 : (k : Int) < (l.length : Int) := by omega
      have hsz := hb.out.size
      have HF := Lib.hid (pick_succ (othP me l) k)
      have hfl := pick_length (othP me l) k
      clear h1
      have HPk : Hid (othP me l k = (!((k : Int) == me) && !((kn l k).s == 3))) := Lib.hid rfl
      generalize kn l k = x at *
      obtain ⟨xi, xs⟩ := x
      simp only at a0 a1 HPk
      by_cases e0 : xs = 3
      · have hP : ¬othP me l k = true := by rw [HPk.out]; simp [e0]
        subst e0
        have HO4 : Hid (OwnN wr w.heap.size _ (pick (othP me l) (k + 1))) := Lib.hid (by rw [HF.out, if_neg hP]; simpa using ho.out)
        clear HF ho hP
        go_wp2_with fail
        go_roundw
        case rel => exact ⟨k + 1, by go_num, by omega, HO4, hb⟩
        case measure => simp [intOf]; omega
      · by_cases e1 : (k : Int) = me
        · have hP : ¬othP me l k = true := by rw [HPk.out]; simp [e1]
          have d0 : (xs != 3) = true := by simpa using e0
          have d1 : ((k : Int) != me) = false := by simpa using e1
          clear e0 e1
          have HO4 : Hid (OwnN wr w.heap.size _ (pick (othP me l) (k + 1))) := Lib.hid (by rw [HF.out, if_neg hP]; simpa using ho.out)
          clear HF ho hP
          go_wp2_with fail
          go_roundw
          case rel => exact ⟨k + 1, by go_num, by omega, HO4, hb⟩
          case measure => simp [intOf]; omega
        · have hP : othP me l k = true := by rw [HPk.out]; simp [e0, e1]
          have d0 : (xs != 3) = true := by simpa using e0
          have d1 : ((k : Int) != me) = true := by simpa using e1
          clear e0 e1
          have HFt : Hid (pick (othP me l) (k + 1) = pick (othP me l) k ++ [k]) := Lib.hid (by rw [HF.out, if_pos hP])
          generalize pick (othP me l) k = F at *
          clear HF hP
          go_wp2_with (at_builtin; refine wpList_append_node rfl _ _ rfl w.heap.size _ F rfl ?c1 ⟨wr.heap.size, 0, none⟩ 1 k rfl ?c2 ?c3 ?c4 ?_)
          case c1 => exact ho.out.alloc _
          case c2 => go_simp
          case c3 => omega
          case c4 => simp; omega
          intro v' w4 hown4 hgrow4
          have HO4 : Hid (OwnN w4 w.heap.size v' (pick (othP me l) (k + 1))) := Lib.hid (by rw [HFt.out]; exact hown4)
          have HB4 : Hid (Below w.heap.size w w4) := Lib.hid ((hb.out.alloc hsz _).grown hgrow4 (by simp; omega) (fun k hk => (ho.out.ge k hk).1))
          clear hown4 hgrow4 ho hb
          go_wp2_with fail
          go_roundw
          case rel => exact ⟨k + 1, by go_num, by omega, HO4, HB4⟩
          case measure => simp [intOf]; omega

    · obtain rfl : k = l.length := by omega
      have HE := Lib.hid (HM.out _ _ ho.out hb.out)
      clear ho hb HM H
      go_wp2_with fail
      go_ret
      exact HE.out

set_option maxRecDepth 100000 in
set_option maxHeartbeats 2000000 in
theorem rbeh_any (A A2 : Option Addr) (c c2 : Nat) (l o : List Kn) (w : World) (hn : l.length ≤ 1000) (hl : l.length = o.length) (h : Lst w A l) (h' : Lst w A2 o) :
    Calls Try.prog 28 #[.slice A l.length c, .slice A2 o.length c2] w (Nodes w (behL l o)) := by
  have H := Lib.hid h
  have H' := Lib.hid h'
  have HL : Hid (o.length = l.length) := Lib.hid hl.symm
  clear h h'
  have HM : Hid (∀ (v : Value) (W : World), OwnN W w.heap.size v (pick (behP l o) l.length) → Below w.heap.size w W → Nodes w (behL l o) (.returned v) W) := Lib.hid fun v W ho hb => by have := ho.nodes hb; unfold behL; rwa [← hl]
  clear hl
  go_enter Try.func28, Try.ntmps28
  go_wp2_with fail
  go_loopw [5, 6] (fun v i wr => ∃ k : Nat, i = .int .i64 k ∧ k ≤ l.length ∧ Hid (OwnN wr w.heap.size v (pick (behP l o) k)) ∧ Hid (Below w.heap.size w wr)) (fun _ i _ => l.length - (intOf i).toNat)
  case atStart => exact ⟨0, by go_num, Nat.zero_le _, Lib.hid (OwnN.nil _ _), Lib.hid (Below.refl _ _)⟩
  case round =>
    obtain ⟨k, rfl, hk, ho, hb⟩ := hrel
    by_cases hlt : k < l.length
    · obtain ⟨ad, rfl, hlo, h1⟩ := (H.out.on hb.out) k hlt
      obtain ⟨a0, a1⟩ := h1.flat
      have k0 : (0 : Int) ≤ (k : Int) := by omega
      have k1 : (k : Int) < (l.length : Int) := by omega
      have hsz := hb.out.size
      have HF := Lib.hid (pick_succ (behP l o) k)
      have hfl := pick_length (behP l o) k
      clear h1
      obtain ⟨ad', rfl, hlo', h2⟩ := (H'.out.on hb.out) k (by rw [HL.out]; exact hlt)
      obtain ⟨b0, b1⟩ := h2.flat
      have HJ : Hid (∀ (W : World) (p : Regrown), Calls Try.prog 29 #[.agg #[.int .u64 (kn o k).i, .int .i64 (kn o k).s], .agg #[.int .u64 (kn l k).i, .int .i64 (kn l k).s]] (grow (redrawn W p.d) p.os) fun e w' => e = .returned (.bool (behP l o k)) ∧ Below (grow (redrawn W p.d) p.os).heap.size (grow (redrawn W p.d) p.os) w') := Lib.hid fun W p => rbeats_any (kn o k) (kn l k) _
      clear h2
      generalize kn l k = x at *
      generalize kn o k = y at *
      have A0 := fun d os => cell_regrown a0 d os
      have A1 := fun d os => cell_regrown a1 d os
      have B0 := fun d os => cell_regrown b0 d os
      have B1 := fun d os => cell_regrown b1 d os
      have hol : o.length = l.length := HL.out
      rw [hol]
      clear a0 a1 b0 b1 hol
      have hPe : Hid (∃ V, V = behP l o k) := Lib.hid ⟨_, rfl⟩
      obtain ⟨V, hV⟩ := hPe.out
      rw [← hV] at HJ
      have HV := Lib.hid hV
      clear hV hPe
      go_upto_region 5 with (fail)
      refine q_enter (by kernel_rfl) (by kernel_rfl) ?_
      iterate 9 (refine q_step ?_; intro K hK; go_simp; first | (refine hK _ ?_; clear hK K) | (refine ⟨_, fun p => Calls.regrown_of (by with_reducible exact HJ.out _ p), hK _ ?_⟩; clear hK K))
      refine q_nil ?_
      intro wz hbz
      have HOz := Lib.hid (ho.out.on hbz)
      have HBz : Hid (Below w.heap.size w wz) := Lib.hid (hb.out.trans (hbz.mono hsz))
      have hzz := HBz.out.size
      clear hbz A0 A1 B0 B1 ho hb HJ
      rcases V with _ | _
      · have hP : ¬behP l o k = true := by rw [← HV.out]; simp
        clear HV
        have HO4 : Hid (OwnN wz w.heap.size _ (pick (behP l o) (k + 1))) := Lib.hid (by rw [HF.out, if_neg hP]; simpa using HOz.out)
        clear HF HOz hP
        go_wp2_with fail
        go_roundw
        case rel => exact ⟨k + 1, by go_num, by omega, HO4, HBz⟩
        case measure => simp [intOf]; omega
      · have hP : behP l o k = true := by rw [← HV.out]
        clear HV
        have HFt : Hid (pick (behP l o) (k + 1) = pick (behP l o) k ++ [k]) := Lib.hid (by rw [HF.out, if_pos hP])
        generalize pick (behP l o) k = F at *
        clear HF hP
        go_wp2_with (at_builtin; refine wpList_append_node rfl _ _ rfl w.heap.size _ F rfl ?c1 ⟨wz.heap.size, 0, none⟩ 1 k rfl ?c2 ?c3 ?c4 ?_)
        case c1 => exact HOz.out.alloc _
        case c2 => go_simp
        case c3 => omega
        case c4 => simp; omega
        intro v' w4 hown4 hgrow4
        have HO4 : Hid (OwnN w4 w.heap.size v' (pick (behP l o) (k + 1))) := Lib.hid (by rw [HFt.out]; exact hown4)
        have HB4 : Hid (Below w.heap.size w w4) := Lib.hid ((HBz.out.alloc hzz _).grown hgrow4 (by simp; omega) (fun k hk => (HOz.out.ge k hk).1))
        clear hown4 hgrow4 HOz HBz
        go_wp2_with fail
        go_roundw
        case rel => exact ⟨k + 1, by go_num, by omega, HO4, HB4⟩
        case measure => simp [intOf]; omega

    · obtain rfl : k = l.length := by omega
      have HE := Lib.hid (HM.out _ _ ho.out hb.out)
      clear ho hb HM H
      go_wp2_with fail
      go_ret
      exact HE.out

end Go.Proofs.Ytmfpipcedblklaa
