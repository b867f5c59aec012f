/-
  Back; what the iterators' makers hand back.
-/
import Derived.Test.YtdbndkccgpmkbaaCm
namespace Go.Proofs.Ytdbndkccgpmkbaa
open Go.Sort Go.RowKit Go.Proofs.Ytdbndkccgpmkbaa.Pure

theorem back_next (l : List Mv) (k : Nat) (h : k < l.length) : (l.take (k + 1)).map backM = (l.take k).map backM ++ [backM (mv l k)] := by
  rw [List.take_succ_eq_append_getElem h, List.map_append, mv_lt l h]
  rfl
set_option maxRecDepth 100000 in
set_option maxHeartbeats 4000000 in
theorem back_no (A : Option Addr) (c : Nat) (l : List Mv) (w : World) (hn : l.length ≤ 100000) (h : Vs w A l) (hs : Shrt (l.map Mv.t)) (hL : movB l = false) :
    Calls Try.prog 13 #[.slice A l.length c] w fun e w' => e = .returned (.tuple #[.slice none 0 0, .int .i64 1]) ∧ Below w.heap.size w w' := by
  have HC : Hid (∀ W, Vs W A l → Calls Try.prog 14 #[.slice A l.length c] W fun e w' => e = .returned (.int .i64 1) ∧ Below W.heap.size W w') := Lib.hid (fun W h => chkV_any A c l W hn h hs false hL)
  have H := Lib.hid h
  clear h hs hL
  generalize l.length = n at *
  go_enter Try.func13, Try.ntmps13
  go_wp2_with fail
  refine (HC.out _ H.out).mono ?_
  rintro e w1 ⟨rfl, hb1⟩
  go_wp2_with fail
  exact bodyPost_ret (v := .tuple #[.slice none 0 0, .int .i64 1]) (by simp [results, Try.results13, go_sem]) rfl ⟨rfl, hb1⟩
set_option maxRecDepth 100000 in
set_option maxHeartbeats 4000000 in
theorem back_yes (A : Option Addr) (c : Nat) (l : List Mv) (w : World) (hn : l.length ≤ 1000) (h : Vs w A l) (hs : Shrt (l.map Mv.t)) (hL : movB l = true) :
    Calls Try.prog 13 #[.slice A l.length c] w fun e w' => ∃ v, e = .returned (.tuple #[v, .int .i64 0]) ∧ OwnV w' w.heap.size v (backP l) ∧ Below w.heap.size w w' := by
  have HC : Hid (∀ W, Vs W A l → Calls Try.prog 14 #[.slice A l.length c] W fun e w' => e = .returned (.int .i64 0) ∧ Below W.heap.size W w') := Lib.hid (fun W h => chkV_any A c l W (by omega) h hs true hL)
  have H := Lib.hid h
  have HE : Hid ((l.take l.length).map backM = backP l) := Lib.hid (by rw [List.take_length]; rfl)
  have HNX := Lib.hid (back_next l)
  have HLN : Hid (∀ k, ((l.take k).map backM).length ≤ k) := Lib.hid (fun k => by simp; omega)
  clear h hs hL
  generalize backP l = R at *
  go_enter Try.func13, Try.ntmps13
  go_wp2_with fail
  refine (HC.out _ H.out).mono ?_
  rintro e w1 ⟨rfl, hb1⟩
  have HB1 := Lib.hid hb1
  have HV1 := Lib.hid (H.out.on hb1)
  clear hb1 HC
  go_wp2_with fail
  go_loopw [5, 15] (fun v i wr => ∃ k : Nat, i = .int .i64 k ∧ k ≤ l.length ∧ Hid (OwnV wr w1.heap.size v ((l.take k).map backM)) ∧ Hid (Below w1.heap.size w1 wr)) (fun _ i _ => l.length - (intOf i).toNat)
  case atStart => exact ⟨0, rfl, Nat.zero_le _, Lib.hid (OwnV.nil _ _), Lib.hid (Below.refl _ _)⟩
  case round =>
    obtain ⟨k, rfl, hk, HO, hb⟩ := hrel
    by_cases hlt : k < l.length
    · have k0 : (0 : Int) ≤ (k : Int) := by omega
      have k1 : (k : Int) < (l.length : Int) := by omega
      obtain ⟨ad, rfl, hlo, h1⟩ := (HV1.out.on hb.out) k hlt
      obtain ⟨a0, a1, a2⟩ := h1.flat
      have HNX1 := Lib.hid (HNX.out k hlt)
      have HLN1 := Lib.hid (HLN.out k)
      generalize (l.take k).map backM = X at *
      generalize mv l k = x at *
      obtain ⟨xt, xf, xg⟩ := x
      simp only at a0 a1 a2
      clear h1 HE
      go_upto_region 8 with (fail)
      obtain ⟨w2, hw2⟩ : ∃ w2, wr.alloc (.cells #[.string xt, .int .i64 xf, .int .i64 xg] 39) = w2 := ⟨_, rfl⟩
      have hb2 : Below wr.heap.size wr w2 := by rw [← hw2]; exact (Below.refl _ _).alloc (Nat.le_refl _) _
      have hv2 : BV w2 wr.heap.size ⟨xt, xf, xg⟩ := by rw [← hw2]; exact BV.new wr ⟨xt, xf, xg⟩ _
      rw [hw2]
      have HO2 := Lib.hid (HO.out.on hb2)
      have HB2 := Lib.hid (hb.out.trans (hb2.mono hb.out.size))
      obtain ⟨b0, b1, b2⟩ := hv2
      simp only at b0 b1 b2
      clear hw2 hb2 a0 a1 a2 HO hb hlo
      go_wp2_with (at_builtin; refine wpList_appendV rfl _ _ rfl w1.heap.size u5 X rfl (HO2.out.alloc _) (some ⟨w2.heap.size, 0, none⟩) 1 [⟨xt, xg, xf⟩] rfl (Vs.one w2 ⟨xt, xg, xf⟩ _) (by have := HLN1.out; simp; omega) (by have := HB2.out.size; simp; omega) ?_; intro v' w5 ho5 hg5 _)
      go_roundw
      case rel => exact ⟨k + 1, by go_num, by omega, Lib.hid (by rw [HNX1.out]; exact ho5), Lib.hid (below_grownV (HB2.out.alloc HB2.out.size _) (HO2.out.alloc _) hg5 (by have := HB2.out.size; simp; omega) (Nat.le_refl _))⟩
      case measure => simp [intOf]; omega
    · obtain rfl : k = l.length := by omega
      rw [HE.out] at HO
      clear HE
      go_wp2_with fail
      exact bodyPost_ret (v := .tuple #[u5, .int .i64 0]) (by simp [results, Try.results13, go_sem]) rfl ⟨_, rfl, HO.out.mono HB1.out.size, HB1.out.trans (hb.out.mono HB1.out.size)⟩
end Go.Proofs.Ytdbndkccgpmkbaa
