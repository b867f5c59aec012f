/-
  MsgReads: whatever octets there are are the document's message, or refused with its error; what is read, written, is the same text: the law returns true for every input.
-/
import Derived.Test.YtjeepmdklbfgeaaDoorRowLd
import Derived.Test.YtjeepmdklbfgeaaDoorMLaw
import Derived.Test.YtjeepmdklbfgeaaDoorRsameM
import Derived.Test.YtjeepmdklbfgeaaDoorRreadM
import Derived.Test.YtjeepmdklbfgeaaDoorReadsP
import Derived.Test.YtjeepmdklbfgeaaDoorAwake
import Derived.Deep.CutBlock
import Derived.Test.YtjeepmdklbfgeaaDoorCards
import Derived.Test.YtjeepmdklbfgeaaDoorTie
namespace Go.Proofs.YtjeepmdklbfgeaaDoor.lawReads
open Go.ChangeMaps (open_string)
open Go.Sort Go.ChangeShapes Go.WideShapes Go.ChangeAt Go.RowKit Go.Proofs.YtjeepmdklbfgeaaDoor.Pure Go.Proofs.YtjeepmdklbfgeaaDoor.W Go.Proofs.YtjeepmdklbfgeaaDoor.W.Pure

theorem slice_k {P : Program} (t : TypeId) (h : P.underlying t = some .string) (s : ByteArray) (hs : 1000 ≤ s.size) (W : World) :
    (Instr.slice t (.string s) none (some (.int .i64 1000)) none).run P W = .ok (.string (s.extract 0 1000)) W := by
  rw [run_slice_string_to_if (w := W) t s .i64 _ h]
  rw [if_pos ⟨by omega, by omega⟩]
  rfl
set_option maxRecDepth 100000 in
set_option maxHeartbeats 4000000 in
theorem walk (s0 : ByteArray) (w : World) (hs : s0.size ≤ maxLen) (ht : Tab w) :
    Calls Tryd.prog 4 #[.string s0] w fun e w' => e = .returned (.bool true) ∧ Below w.heap.size w w' := by
  obtain ⟨s, hs1, hs2⟩ : ∃ s : ByteArray, s.size ≤ 1000 ∧ ((1000 < s0.size ∧ ∀ W, (Instr.slice 9 (.string s0) none (some (.int .i64 1000)) none).run Tryd.prog W = .ok (.string s) W) ∨ (¬ 1000 < s0.size ∧ s = s0)) := by
    by_cases h : 1000 < s0.size
    · exact ⟨s0.extract 0 1000, by rw [ByteArray.size_extract]; omega, .inl ⟨h, fun W => slice_k _ Tryd.underlying9 s0 (by omega) W⟩⟩
    · exact ⟨s0, by omega, .inr ⟨h, rfl⟩⟩
  obtain ⟨tb, htb⟩ : ∃ tb, decide ((1000 : Int) < (s0.size : Int)) = tb := ⟨_, rfl⟩
  have HS2 : Hid ((tb = true ∧ ∀ W, (Instr.slice 9 (.string s0) none (some (.int .i64 1000)) none).run Tryd.prog W = .ok (.string s) W) ∨ (tb = false ∧ s = s0)) := Lib.hid (by
    rcases hs2 with ⟨h, h'⟩ | ⟨h, h'⟩
    · exact .inl ⟨by rw [← htb]; simp; omega, h'⟩
    · exact .inr ⟨by rw [← htb]; simp; omega, h'⟩)
  clear hs2
  have HTb : Hid (∀ W : World, Below w.heap.size w W → Tab W) := Lib.hid (fun W hb => ht.on hb)
  have HAw : Hid (∀ W : World, Below w.heap.size w W → Calls Tryd.prog 17 #[] W fun e w' => e = .returned (.bool true) ∧ Below W.heap.size W w') := Lib.hid (fun W hb => awake_any W (HTb.out W hb))
  have HRD := Lib.hid (fun (W : World) (h : Tab W) => read_any s W (by omega) h)
  have HRR := Lib.hid (fun (W : World) => rread_any s W (by omega))
  have hok := readM_ok (s := s)
  have hwf := readM_wf s
  obtain ⟨⟨M, k⟩, hMk⟩ : ∃ R, readM s = R := ⟨_, rfl⟩
  rw [hMk] at HRD HRR hok hwf
  simp only [] at hok hwf
  have HSame : Hid (∀ (W : World) (u v : Value), MsgV W u M → MsgV W v M → Calls Tryd.prog 14 #[u, v] W fun e w' => e = .returned (.bool true) ∧ Below W.heap.size W w') := Lib.hid (fun W u v h h' => by
    have h2 := rsame_msg M M u v W h h'
    rw [show decide (M = M) = true from decide_eq_true rfl] at h2
    exact h2)
  have HWr : Hid (k = 0 → ∀ (W : World) (u : Value), MsgV W u M → Tab W → Calls Tryd.prog 10 #[u] W fun e w' => e = .returned (.tuple #[.string s, .int .i64 0]) ∧ Below W.heap.size W w') := Lib.hid (fun hk W u hu htb => by
    obtain ⟨h1, h2⟩ := hok hk
    have h3 := write_yes M u W hu hwf h1 htb
    rw [show sealB (tx (enc M)) = s from h2] at h3
    exact h3)
  clear hMk hok hwf
  have hs0 : s0.size ≤ 9223372036854775807 := by unfold maxLen at hs; omega
  clear hs
  unfold ReadV at HRD HRR
  simp only [] at HRD HRR
  go_enter Tryd.func4, Tryd.ntmps4
  go_upto_if 11 with (fail)
  go_cut [0] from 12 to 13 (fun x wx => x = .string s ∧ w = wx)
  case first =>
    clear htb
    rcases HS2.out with ⟨rfl, hsl⟩ | ⟨rfl, rfl⟩
    · go_wp2_with fail
      go_meet
      exact ⟨rfl, rfl⟩
    · go_wp2_with fail
      go_meet
      exact ⟨rfl, rfl⟩
  obtain ⟨rfl, rfl⟩ := hcut
  clear HS2 hs0 htb
  by_cases hk : k = 0
  · subst hk
    replace HWr := Lib.hid (HWr.out rfl)
    go_upto_region 4 with (go_at_call 18; refine (HRD.out _ ht).mono ?_; rintro e w2 ⟨v, rfl, hv2, hb2⟩; obtain ⟨A2, cA2, T2, cT2, rfl, g1, g2, g3, g4, g5⟩ := hv2; have HV2 : Hid (MsgV w2 (mvv M (.slice A2 M.ns.length cA2) (.slice T2 M.tb.length cT2)) M) := Lib.hid ⟨A2, cA2, T2, cT2, rfl, g1, g2, g3, g4, g5⟩; have HB2 := Lib.hid hb2; clear hb2 g1 g2 g3 g4 g5; unfold mvv)
    have hal : Below w2.heap.size w2 (w2.alloc (.cells #[.int .i64 M.kd, .int .i64 M.fr, .int .i64 M.to, .int .u64 (M.sq : Int), .int .i64 M.wh, .int .u64 M.k.i, .int .i64 M.k.s, (.slice A2 M.ns.length cA2), (.slice T2 M.tb.length cT2), .int .u64 (M.ep : Int), .int .u64 (M.bo : Int), .int .i64 M.ak, .string M.ts, .int .u64 (M.tn : Int), .bool M.gd] 28)) := (Below.refl _ _).alloc (Nat.le_refl _) _
    have HB3 : Hid (Below w.heap.size w (w2.alloc (.cells #[.int .i64 M.kd, .int .i64 M.fr, .int .i64 M.to, .int .u64 (M.sq : Int), .int .i64 M.wh, .int .u64 M.k.i, .int .i64 M.k.s, (.slice A2 M.ns.length cA2), (.slice T2 M.tb.length cT2), .int .u64 (M.ep : Int), .int .u64 (M.bo : Int), .int .i64 M.ak, .string M.ts, .int .u64 (M.tn : Int), .bool M.gd] 28))) := Lib.hid (HB2.out.trans (hal.mono HB2.out.size))
    have HQ2 : Hid (Row (w2.alloc (.cells #[.int .i64 M.kd, .int .i64 M.fr, .int .i64 M.to, .int .u64 (M.sq : Int), .int .i64 M.wh, .int .u64 M.k.i, .int .i64 M.k.s, (.slice A2 M.ns.length cA2), (.slice T2 M.tb.length cT2), .int .u64 (M.ep : Int), .int .u64 (M.bo : Int), .int .i64 M.ak, .string M.ts, .int .u64 (M.tn : Int), .bool M.gd] 28)) w2.heap.size [.int .i64 M.kd, .int .i64 M.fr, .int .i64 M.to, .int .u64 (M.sq : Int), .int .i64 M.wh, .int .u64 M.k.i, .int .i64 M.k.s, (.slice A2 M.ns.length cA2), (.slice T2 M.tb.length cT2), .int .u64 (M.ep : Int), .int .u64 (M.bo : Int), .int .i64 M.ak, .string M.ts, .int .u64 (M.tn : Int), .bool M.gd]) := Lib.hid (Row.new w2 _ _)
    have HV3 := Lib.hid (HV2.out.on hal)
    clear hal HV2
    generalize w2.alloc (.cells #[.int .i64 M.kd, .int .i64 M.fr, .int .i64 M.to, .int .u64 (M.sq : Int), .int .i64 M.wh, .int .u64 M.k.i, .int .i64 M.k.s, (.slice A2 M.ns.length cA2), (.slice T2 M.tb.length cT2), .int .u64 (M.ep : Int), .int .u64 (M.bo : Int), .int .i64 M.ak, .string M.ts, .int .u64 (M.tn : Int), .bool M.gd] 28) = w3 at *
    go_upto_region 5 with (go_at_call 20; refine (HRR.out _).mono ?_; rintro e w4 ⟨v, rfl, hv4, hb4⟩; obtain ⟨A3, cA3, T3, cT3, rfl, g1, g2, g3, g4, g5⟩ := hv4; have HV4 : Hid (MsgV w4 (mvv M (.slice A3 M.ns.length cA3) (.slice T3 M.tb.length cT3)) M) := Lib.hid ⟨A3, cA3, T3, cT3, rfl, g1, g2, g3, g4, g5⟩; have HB4 := Lib.hid (HB3.out.trans (hb4.mono HB3.out.size)); replace HQ2 := Lib.hid (HQ2.out.on hb4 (show 0 < 15 by decide)); replace HV3 := Lib.hid (HV3.out.on hb4); clear hb4 g1 g2 g3 g4 g5; unfold mvv)
    have hal : Below w4.heap.size w4 (w4.alloc (.cells #[.int .i64 M.kd, .int .i64 M.fr, .int .i64 M.to, .int .u64 (M.sq : Int), .int .i64 M.wh, .int .u64 M.k.i, .int .i64 M.k.s, (.slice A3 M.ns.length cA3), (.slice T3 M.tb.length cT3), .int .u64 (M.ep : Int), .int .u64 (M.bo : Int), .int .i64 M.ak, .string M.ts, .int .u64 (M.tn : Int), .bool M.gd] 28)) := (Below.refl _ _).alloc (Nat.le_refl _) _
    have HB5 : Hid (Below w.heap.size w (w4.alloc (.cells #[.int .i64 M.kd, .int .i64 M.fr, .int .i64 M.to, .int .u64 (M.sq : Int), .int .i64 M.wh, .int .u64 M.k.i, .int .i64 M.k.s, (.slice A3 M.ns.length cA3), (.slice T3 M.tb.length cT3), .int .u64 (M.ep : Int), .int .u64 (M.bo : Int), .int .i64 M.ak, .string M.ts, .int .u64 (M.tn : Int), .bool M.gd] 28))) := Lib.hid (HB4.out.trans (hal.mono HB4.out.size))
    have HQ3 : Hid (Row (w4.alloc (.cells #[.int .i64 M.kd, .int .i64 M.fr, .int .i64 M.to, .int .u64 (M.sq : Int), .int .i64 M.wh, .int .u64 M.k.i, .int .i64 M.k.s, (.slice A3 M.ns.length cA3), (.slice T3 M.tb.length cT3), .int .u64 (M.ep : Int), .int .u64 (M.bo : Int), .int .i64 M.ak, .string M.ts, .int .u64 (M.tn : Int), .bool M.gd] 28)) w4.heap.size [.int .i64 M.kd, .int .i64 M.fr, .int .i64 M.to, .int .u64 (M.sq : Int), .int .i64 M.wh, .int .u64 M.k.i, .int .i64 M.k.s, (.slice A3 M.ns.length cA3), (.slice T3 M.tb.length cT3), .int .u64 (M.ep : Int), .int .u64 (M.bo : Int), .int .i64 M.ak, .string M.ts, .int .u64 (M.tn : Int), .bool M.gd]) := Lib.hid (Row.new w4 _ _)
    replace HQ2 := Lib.hid (HQ2.out.on hal (show 0 < 15 by decide))
    have HV5 := Lib.hid (HV4.out.on hal)
    replace HV3 := Lib.hid (HV3.out.on hal)
    clear hal HV4
    generalize w4.alloc (.cells #[.int .i64 M.kd, .int .i64 M.fr, .int .i64 M.to, .int .u64 (M.sq : Int), .int .i64 M.wh, .int .u64 M.k.i, .int .i64 M.k.s, (.slice A3 M.ns.length cA3), (.slice T3 M.tb.length cT3), .int .u64 (M.ep : Int), .int .u64 (M.bo : Int), .int .i64 M.ak, .string M.ts, .int .u64 (M.tn : Int), .bool M.gd] 28) = w5 at *
    have HSm := Lib.hid (HSame.out w5 _ _ HV3.out HV5.out)
    unfold mvv at HSm
    clear HSame HRD HRR HB2 HB3 HB4 HV5
    go_upto_region 7 with (first
      | (refine wpList_load_g (by rfl) _ rfl w2.heap.size rfl [.int .i64 M.kd, .int .i64 M.fr, .int .i64 M.to, .int .u64 (M.sq : Int), .int .i64 M.wh, .int .u64 M.k.i, .int .i64 M.k.s, (.slice A2 M.ns.length cA2), (.slice T2 M.tb.length cT2), .int .u64 (M.ep : Int), .int .u64 (M.bo : Int), .int .i64 M.ak, .string M.ts, .int .u64 (M.tn : Int), .bool M.gd] rfl HQ2.out ?_; simp only [])
      | (refine wpList_load_g (by rfl) _ rfl w4.heap.size rfl [.int .i64 M.kd, .int .i64 M.fr, .int .i64 M.to, .int .u64 (M.sq : Int), .int .i64 M.wh, .int .u64 M.k.i, .int .i64 M.k.s, (.slice A3 M.ns.length cA3), (.slice T3 M.tb.length cT3), .int .u64 (M.ep : Int), .int .u64 (M.bo : Int), .int .i64 M.ak, .string M.ts, .int .u64 (M.tn : Int), .bool M.gd] rfl HQ3.out ?_; simp only [])
      | (go_at_call 14; refine HSm.out.mono ?_; rintro e w6 ⟨rfl, hb6⟩; have HB6 := Lib.hid (HB5.out.trans (hb6.mono HB5.out.size)); replace HQ2 := Lib.hid (HQ2.out.on hb6 (show 0 < 15 by decide)); replace HV3 := Lib.hid (HV3.out.on hb6); clear hb6))
    have HWv := Lib.hid (HWr.out w6 _ HV3.out (HTb.out _ HB6.out))
    unfold mvv at HWv
    go_wp2_with (first
      | (refine wpList_load_g (by rfl) _ rfl w2.heap.size rfl [.int .i64 M.kd, .int .i64 M.fr, .int .i64 M.to, .int .u64 (M.sq : Int), .int .i64 M.wh, .int .u64 M.k.i, .int .i64 M.k.s, (.slice A2 M.ns.length cA2), (.slice T2 M.tb.length cT2), .int .u64 (M.ep : Int), .int .u64 (M.bo : Int), .int .i64 M.ak, .string M.ts, .int .u64 (M.tn : Int), .bool M.gd] rfl HQ2.out ?_; simp only [])
      | (go_at_call 10; refine HWv.out.mono ?_; rintro e w7 ⟨rfl, hb7⟩; have HB7 := Lib.hid (HB6.out.trans (hb7.mono HB6.out.size)); clear hb7)
      | (go_at_call 17; refine (HAw.out _ HB7.out).mono ?_; rintro e w8 ⟨rfl, hb8⟩; have HB8 := Lib.hid (HB7.out.trans (hb8.mono HB7.out.size)); clear hb8))
    go_ret
    exact ⟨rfl, HB8.out⟩
  · have k1 : ((k : Int) != 0) = true := by rw [bne_iff_ne]; omega
    have k2 : ¬ (k : Int) = 0 := by omega
    clear HWr
    go_upto_region 4 with (go_at_call 18; refine (HRD.out _ ht).mono ?_; rintro e w2 ⟨v, rfl, hv2, hb2⟩; obtain ⟨A2, cA2, T2, cT2, rfl, g1, g2, g3, g4, g5⟩ := hv2; have HV2 : Hid (MsgV w2 (mvv M (.slice A2 M.ns.length cA2) (.slice T2 M.tb.length cT2)) M) := Lib.hid ⟨A2, cA2, T2, cT2, rfl, g1, g2, g3, g4, g5⟩; have HB2 := Lib.hid hb2; clear hb2 g1 g2 g3 g4 g5; unfold mvv)
    have hal : Below w2.heap.size w2 (w2.alloc (.cells #[.int .i64 M.kd, .int .i64 M.fr, .int .i64 M.to, .int .u64 (M.sq : Int), .int .i64 M.wh, .int .u64 M.k.i, .int .i64 M.k.s, (.slice A2 M.ns.length cA2), (.slice T2 M.tb.length cT2), .int .u64 (M.ep : Int), .int .u64 (M.bo : Int), .int .i64 M.ak, .string M.ts, .int .u64 (M.tn : Int), .bool M.gd] 28)) := (Below.refl _ _).alloc (Nat.le_refl _) _
    have HB3 : Hid (Below w.heap.size w (w2.alloc (.cells #[.int .i64 M.kd, .int .i64 M.fr, .int .i64 M.to, .int .u64 (M.sq : Int), .int .i64 M.wh, .int .u64 M.k.i, .int .i64 M.k.s, (.slice A2 M.ns.length cA2), (.slice T2 M.tb.length cT2), .int .u64 (M.ep : Int), .int .u64 (M.bo : Int), .int .i64 M.ak, .string M.ts, .int .u64 (M.tn : Int), .bool M.gd] 28))) := Lib.hid (HB2.out.trans (hal.mono HB2.out.size))
    have HQ2 : Hid (Row (w2.alloc (.cells #[.int .i64 M.kd, .int .i64 M.fr, .int .i64 M.to, .int .u64 (M.sq : Int), .int .i64 M.wh, .int .u64 M.k.i, .int .i64 M.k.s, (.slice A2 M.ns.length cA2), (.slice T2 M.tb.length cT2), .int .u64 (M.ep : Int), .int .u64 (M.bo : Int), .int .i64 M.ak, .string M.ts, .int .u64 (M.tn : Int), .bool M.gd] 28)) w2.heap.size [.int .i64 M.kd, .int .i64 M.fr, .int .i64 M.to, .int .u64 (M.sq : Int), .int .i64 M.wh, .int .u64 M.k.i, .int .i64 M.k.s, (.slice A2 M.ns.length cA2), (.slice T2 M.tb.length cT2), .int .u64 (M.ep : Int), .int .u64 (M.bo : Int), .int .i64 M.ak, .string M.ts, .int .u64 (M.tn : Int), .bool M.gd]) := Lib.hid (Row.new w2 _ _)
    have HV3 := Lib.hid (HV2.out.on hal)
    clear hal HV2
    generalize w2.alloc (.cells #[.int .i64 M.kd, .int .i64 M.fr, .int .i64 M.to, .int .u64 (M.sq : Int), .int .i64 M.wh, .int .u64 M.k.i, .int .i64 M.k.s, (.slice A2 M.ns.length cA2), (.slice T2 M.tb.length cT2), .int .u64 (M.ep : Int), .int .u64 (M.bo : Int), .int .i64 M.ak, .string M.ts, .int .u64 (M.tn : Int), .bool M.gd] 28) = w3 at *
    go_upto_region 5 with (go_at_call 20; refine (HRR.out _).mono ?_; rintro e w4 ⟨v, rfl, hv4, hb4⟩; obtain ⟨A3, cA3, T3, cT3, rfl, g1, g2, g3, g4, g5⟩ := hv4; have HV4 : Hid (MsgV w4 (mvv M (.slice A3 M.ns.length cA3) (.slice T3 M.tb.length cT3)) M) := Lib.hid ⟨A3, cA3, T3, cT3, rfl, g1, g2, g3, g4, g5⟩; have HB4 := Lib.hid (HB3.out.trans (hb4.mono HB3.out.size)); replace HQ2 := Lib.hid (HQ2.out.on hb4 (show 0 < 15 by decide)); replace HV3 := Lib.hid (HV3.out.on hb4); clear hb4 g1 g2 g3 g4 g5; unfold mvv)
    have hal : Below w4.heap.size w4 (w4.alloc (.cells #[.int .i64 M.kd, .int .i64 M.fr, .int .i64 M.to, .int .u64 (M.sq : Int), .int .i64 M.wh, .int .u64 M.k.i, .int .i64 M.k.s, (.slice A3 M.ns.length cA3), (.slice T3 M.tb.length cT3), .int .u64 (M.ep : Int), .int .u64 (M.bo : Int), .int .i64 M.ak, .string M.ts, .int .u64 (M.tn : Int), .bool M.gd] 28)) := (Below.refl _ _).alloc (Nat.le_refl _) _
    have HB5 : Hid (Below w.heap.size w (w4.alloc (.cells #[.int .i64 M.kd, .int .i64 M.fr, .int .i64 M.to, .int .u64 (M.sq : Int), .int .i64 M.wh, .int .u64 M.k.i, .int .i64 M.k.s, (.slice A3 M.ns.length cA3), (.slice T3 M.tb.length cT3), .int .u64 (M.ep : Int), .int .u64 (M.bo : Int), .int .i64 M.ak, .string M.ts, .int .u64 (M.tn : Int), .bool M.gd] 28))) := Lib.hid (HB4.out.trans (hal.mono HB4.out.size))
    have HQ3 : Hid (Row (w4.alloc (.cells #[.int .i64 M.kd, .int .i64 M.fr, .int .i64 M.to, .int .u64 (M.sq : Int), .int .i64 M.wh, .int .u64 M.k.i, .int .i64 M.k.s, (.slice A3 M.ns.length cA3), (.slice T3 M.tb.length cT3), .int .u64 (M.ep : Int), .int .u64 (M.bo : Int), .int .i64 M.ak, .string M.ts, .int .u64 (M.tn : Int), .bool M.gd] 28)) w4.heap.size [.int .i64 M.kd, .int .i64 M.fr, .int .i64 M.to, .int .u64 (M.sq : Int), .int .i64 M.wh, .int .u64 M.k.i, .int .i64 M.k.s, (.slice A3 M.ns.length cA3), (.slice T3 M.tb.length cT3), .int .u64 (M.ep : Int), .int .u64 (M.bo : Int), .int .i64 M.ak, .string M.ts, .int .u64 (M.tn : Int), .bool M.gd]) := Lib.hid (Row.new w4 _ _)
    replace HQ2 := Lib.hid (HQ2.out.on hal (show 0 < 15 by decide))
    have HV5 := Lib.hid (HV4.out.on hal)
    replace HV3 := Lib.hid (HV3.out.on hal)
    clear hal HV4
    generalize w4.alloc (.cells #[.int .i64 M.kd, .int .i64 M.fr, .int .i64 M.to, .int .u64 (M.sq : Int), .int .i64 M.wh, .int .u64 M.k.i, .int .i64 M.k.s, (.slice A3 M.ns.length cA3), (.slice T3 M.tb.length cT3), .int .u64 (M.ep : Int), .int .u64 (M.bo : Int), .int .i64 M.ak, .string M.ts, .int .u64 (M.tn : Int), .bool M.gd] 28) = w5 at *
    have HSm := Lib.hid (HSame.out w5 _ _ HV3.out HV5.out)
    unfold mvv at HSm
    clear HSame HRD HRR HB2 HB3 HB4 HV5
    go_upto_region 7 with (first
      | (refine wpList_load_g (by rfl) _ rfl w2.heap.size rfl [.int .i64 M.kd, .int .i64 M.fr, .int .i64 M.to, .int .u64 (M.sq : Int), .int .i64 M.wh, .int .u64 M.k.i, .int .i64 M.k.s, (.slice A2 M.ns.length cA2), (.slice T2 M.tb.length cT2), .int .u64 (M.ep : Int), .int .u64 (M.bo : Int), .int .i64 M.ak, .string M.ts, .int .u64 (M.tn : Int), .bool M.gd] rfl HQ2.out ?_; simp only [])
      | (refine wpList_load_g (by rfl) _ rfl w4.heap.size rfl [.int .i64 M.kd, .int .i64 M.fr, .int .i64 M.to, .int .u64 (M.sq : Int), .int .i64 M.wh, .int .u64 M.k.i, .int .i64 M.k.s, (.slice A3 M.ns.length cA3), (.slice T3 M.tb.length cT3), .int .u64 (M.ep : Int), .int .u64 (M.bo : Int), .int .i64 M.ak, .string M.ts, .int .u64 (M.tn : Int), .bool M.gd] rfl HQ3.out ?_; simp only [])
      | (go_at_call 14; refine HSm.out.mono ?_; rintro e w6 ⟨rfl, hb6⟩; have HB6 := Lib.hid (HB5.out.trans (hb6.mono HB5.out.size)); replace HQ2 := Lib.hid (HQ2.out.on hb6 (show 0 < 15 by decide)); replace HV3 := Lib.hid (HV3.out.on hb6); clear hb6))
    go_wp2_with (go_at_call 17; refine (HAw.out _ HB6.out).mono ?_; rintro e w8 ⟨rfl, hb8⟩; have HB8 := Lib.hid (HB6.out.trans (hb8.mono HB6.out.size)); clear hb8)
    go_ret
    exact ⟨rfl, HB8.out⟩

theorem parOk : ∀ t ∈ (#[9] : Array TypeId).toList, Tryd.prog.readableRec t = true ∧ t < Tryd.prog.types.size := by
  have hall : ([9].all fun t => Tryd.prog.readableRec t && decide (t < Tryd.prog.types.size)) = true := by kernel_rfl
  intro t ht
  simpa using List.all_eq_true.1 hall t ht

set_option maxRecDepth 100000 in
/-- What the walk gives, for every argument and every world that holds the table. -/
theorem contract (H : Type) (enc : TypeId × Value → H) (W : World) (base : Nat) (args : Array Value) (ds gs : List (DataW H)) (before : List MemPlace)
    (hval : ∀ (j : Nat) t v, Tryd.f4.params[j]? = some t → args[j]? = some v → Value.okWide Tryd.prog W .any base t v)
    (hW : DataW.Whole enc Tryd.prog Tryd.f4.params.toList Rows.msgReadsSpec.vars false W args.toList ds gs before) (hL : laidMetH Tryd.prog Rows.msgReadsRow.laid W) :
    Calls Tryd.prog 4 args W fun e W' => ∃ v, e = .returned v ∧ Rows.msgReadsSpec.post enc Tryd.prog Tryd.f4 false true false false W args v W' := by
  have hW' := hW
  obtain ⟨p, q, hA0, hV, rfl, hfz, hnd⟩ := hW
  have hA : DataW.TrodAll enc Tryd.prog W 0 (fun _ => true) true Tryd.f4.params.toList args.toList ds p := hA0
  rw [Tryd.params4] at hA hval
  obtain ⟨v0, vs0, d0, ds0, p0, q0, hargs, rfl, rfl, h0, r0⟩ := trodAll_cons hA
  obtain ⟨rfl, rfl, rfl⟩ := trodAll_nil r0
  obtain rfl : args = #[v0] := by cases args; simp_all
  obtain ⟨rfl, rfl⟩ := trodVars_none hV
  obtain ⟨s0, rfl, rfl, rfl, hs⟩ := open_string Tryd.underlying9 (hval 0 9 v0 rfl rfl) h0
  clear hA0
  refine (walk s0 W hs (tab_of_laid hL)).mono fun e W' ⟨he, hb⟩ => ?_
  subst he
  exact ⟨_, rfl, law_post rfl (by rw [Tryd.params4]; exact parOk) rfl hW' rfl rfl rfl hb⟩

set_option maxRecDepth 100000 in
theorem laid_met (os : Os) : laidMet Tryd.prog Rows.msgReadsRow.laid ((laidWorld os).forCall (fun _ _ => 0) ⟨#[], #[.string ⟨#[]⟩], []⟩).memory :=
  laidMet_of_run' 8 (by kernel_rfl) (by kernel_rfl)
set_option maxRecDepth 100000 in
theorem reads (os : Os) {H : Type} (enc : TypeId × Value → H) : ∃ places, DataW.whole enc Tryd.prog ((laidWorld os).forCall (fun _ _ => 0) ⟨#[], #[.string ⟨#[]⟩], []⟩).memory Tryd.f4.params.toList Rows.msgReadsSpec.vars false (#[.string ⟨#[]⟩] : Array Value).toList 8 = some ([.lit (.string [])], [], places) :=
  ⟨[], by kernel_rfl⟩

set_option maxRecDepth 100000 in
theorem lifted (os : Os) (started : os.Started) (H : Type) (enc : TypeId × Value → H) (F : Stop.Interp) :
    ReturnsInHanded {} Tryd.checked os 4 .any ((OpenSpec.ofChange Rows.msgReadsSpec).preRow enc Tryd.prog Tryd.f4 Rows.msgReadsRow.domain false Rows.msgReadsRow.laid) (((OpenSpec.ofChange Rows.msgReadsSpec).at F).post enc Tryd.prog Tryd.f4 false true false false) := by
  obtain ⟨places, hx⟩ := reads os enc
  refine returnsInHanded_of_row (C := Tryd.checked) (s := OpenSpec.ofChange Rows.msgReadsSpec) own started (by kernel_rfl) Tryd.func4
    (witness_row_at (enc := enc) (C := Tryd.checked) false (laidWorld os) #[.string ⟨#[]⟩] rfl (by kernel_rfl) (by kernel_rfl) (by kernel_rfl)
      (OpenSpec.preRow_of_cond 8 hx (by kernel_rfl) (fun k hk => by cases hk) (by kernel_rfl) (laid_met os))) ?_
  intro W base args ds gs before hval hW _ _ _ hL _ _
  exact contract H enc W base args ds gs before hval hW hL

theorem said : Rows.MsgReadsSaid :=
  OpenClaim.holds_of_cond 4 Tryd.f4 rfl rfl rfl rfl rfl rfl rfl ⟨rfl, rfl, rfl, rfl, rfl⟩ rfl rfl rfl rfl rfl (by kernel_rfl) Tryd.func4 (by kernel_rfl)
    (of_decide_eq_true (by kernel_rfl)) (by unfold Func.isWrapper; first | (rw [if_pos (by decide +kernel)]; kernel_rfl) | (rw [if_neg (by decide +kernel)]; exact ⟨rfl, rfl⟩))
    (fun os started H enc _ F => by rw [OpenClaim.pre_eq_preRow]; exact lifted os started H enc F)

/-- No parameter wants a stand-in; the program's own looks are off. -/
theorem plain (f : FuncId) (fn : Func) (hf : Tryd.pinned.checked.prog.funcNamed "tattle/tattlelaw10.MsgReads" = some f) (hfn : Tryd.pinned.checked.prog.funcs[f]? = some fn) :
    false = Tryd.pinned.checked.prog.looks [] ∧ ∀ (j : Nat) t, fn.params[j]? = some t → Tryd.pinned.checked.prog.wantsStandIn t = false := by
  obtain rfl : f = 4 := Option.some.inj ((show Tryd.prog.funcNamed "tattle/tattlelaw10.MsgReads" = some 4 by kernel_rfl).symm.trans hf) |>.symm
  obtain rfl : fn = Tryd.f4 := (Option.some.inj (Tryd.func4.symm.trans hfn)).symm
  refine ⟨by kernel_rfl, fun j t ht => ?_⟩
  rw [Tryd.params4] at ht
  have hm : t ∈ [9] := by simpa using Array.mem_of_getElem? ht
  have hall : ([9].all fun u => !Tryd.prog.wantsStandIn u) = true := by kernel_rfl
  exact (show Tryd.prog.wantsStandIn t = false by simpa using List.all_eq_true.1 hall t hm)

/-- THE CARD. -/
theorem card : Rows.MsgReadsCardSaid :=
  Claim7.holds_tied_plain_at .later [] _ _ _ _ said (fun _ h => by cases h) (by kernel_rfl) (fun _ h => by cases h) msgReads_row_tie rfl ⟨rfl, rfl⟩ (by kernel_rfl) rfl plain (by kernel_rfl)
end Go.Proofs.YtjeepmdklbfgeaaDoor.lawReads
