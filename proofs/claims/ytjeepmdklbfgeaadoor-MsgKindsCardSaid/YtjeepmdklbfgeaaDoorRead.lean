/-
  The walk of Read.
-/
import Derived.Test.YtjeepmdklbfgeaaDoorMessage
import Derived.Test.YtjeepmdklbfgeaaDoorReadMath
namespace Go.Proofs.YtjeepmdklbfgeaaDoor
open Go.Sort Go.RowKit Go.Proofs.YtjeepmdklbfgeaaDoor.Pure Go.Proofs.YtjeepmdklbfgeaaDoor.W Go.Proofs.YtjeepmdklbfgeaaDoor.W.Pure

/-- A message, and an error. -/
def ReadV (w : World) (x : Mg × Nat) (e : Ending) (w' : World) : Prop := ∃ v, e = .returned (.tuple #[v, .int .i64 (x.2 : Int)]) ∧ MsgV w' v x.1 ∧ Below w.heap.size w w'
theorem msgv_zero (w : World) : MsgV w (.agg #[.int .i64 0, .int .i64 0, .int .i64 0, .int .u64 0, .int .i64 0, .int .u64 0, .int .i64 0, .slice none 0 0, .slice none 0 0, .int .u64 0, .int .u64 0, .int .i64 0, .string ⟨#[]⟩, .int .u64 0, .bool false]) zm := ⟨none, 0, none, 0, rfl, Ns.nil _ _, Lst.nil _ _, Nat.zero_le _, Nat.zero_le _, Nat.zero_le _⟩
theorem msgv_own {w : World} {B : Nat} {m : Mg} {nv tv : Value} (hN : OwnN w B nv m.ns) (hK : Own w B tv m.tb) (hs : Small m) : MsgV w (mvv m nv tv) m := by
  obtain ⟨A, c, rfl, _, h1⟩ := hN.lst
  obtain ⟨T, d, rfl, _, h2⟩ := hK.lst
  obtain ⟨s1, s2, s3⟩ := hs
  exact ⟨A, c, T, d, rfl, h1, h2, by omega, by omega, by omega⟩
set_option maxRecDepth 100000 in
set_option maxHeartbeats 4000000 in
theorem read_err (s z : ByteArray) (k : Nat) (w : World) (hk : k ≠ 0) (ht : Tab w) (hO : ∀ W : World, Tab W → Calls Tryd.prog 39 #[.string s] W fun e w' => e = .returned (.tuple #[.string z, .int .i64 (k : Int)]) ∧ Below W.heap.size W w') :
    Calls Tryd.prog 18 #[.string s] w (ReadV w (zm, k)) := by
  have HB0 : Hid (Below w.heap.size w (w.alloc (.cells #[.int .i64 0, .int .i64 0, .int .i64 0, .int .u64 0, .int .i64 0, .int .u64 0, .int .i64 0, .slice none 0 0, .slice none 0 0, .int .u64 0, .int .u64 0, .int .i64 0, .string ⟨#[]⟩, .int .u64 0, .bool false] 28))) := Lib.hid ((Below.refl _ _).alloc (Nat.le_refl _) _)
  have HR0 : Hid (Row (w.alloc (.cells #[.int .i64 0, .int .i64 0, .int .i64 0, .int .u64 0, .int .i64 0, .int .u64 0, .int .i64 0, .slice none 0 0, .slice none 0 0, .int .u64 0, .int .u64 0, .int .i64 0, .string ⟨#[]⟩, .int .u64 0, .bool false] 28)) w.heap.size [.int .i64 0, .int .i64 0, .int .i64 0, .int .u64 0, .int .i64 0, .int .u64 0, .int .i64 0, .slice none 0 0, .slice none 0 0, .int .u64 0, .int .u64 0, .int .i64 0, .string ⟨#[]⟩, .int .u64 0, .bool false]) := Lib.hid (Row.new w _ _)
  have HC := Lib.hid (hO _ (ht.on HB0.out))
  have z0 : w.heap.size < (w.alloc (.cells #[.int .i64 0, .int .i64 0, .int .i64 0, .int .u64 0, .int .i64 0, .int .u64 0, .int .i64 0, .slice none 0 0, .slice none 0 0, .int .u64 0, .int .u64 0, .int .i64 0, .string ⟨#[]⟩, .int .u64 0, .bool false] 28)).heap.size := by simp
  have e1 : ((k : Int) == 0) = false := by simp; omega
  have e2 : ((k : Int) != 0) = true := by simp; omega
  have e3 : ¬ ((k : Int) = 0) := by omega
  clear hO ht hk
  go_enter Tryd.func18, Tryd.ntmps18
  go_upto_region 1 with (fail)
  generalize w.alloc (.cells #[.int .i64 0, .int .i64 0, .int .i64 0, .int .u64 0, .int .i64 0, .int .u64 0, .int .i64 0, .slice none 0 0, .slice none 0 0, .int .u64 0, .int .u64 0, .int .i64 0, .string ⟨#[]⟩, .int .u64 0, .bool false] 28) = w0 at *
  go_wp2_with fail
  refine HC.out.mono ?_
  rintro e w1 ⟨rfl, hb1⟩
  have HB1 : Hid (Below w.heap.size w w1) := Lib.hid (HB0.out.trans (hb1.mono (Nat.le_of_lt z0)))
  have hR1 := HR0.out.on hb1 (show 0 < 15 by decide)
  have r0 := hR1.at_ 0 _ rfl
  have r1 := hR1.at_ 1 _ rfl
  have r2 := hR1.at_ 2 _ rfl
  have r3 := hR1.at_ 3 _ rfl
  have r4 := hR1.at_ 4 _ rfl
  have r5 := hR1.at_ 5 _ rfl
  have r6 := hR1.at_ 6 _ rfl
  have r7 := hR1.at_ 7 _ rfl
  have r8 := hR1.at_ 8 _ rfl
  have r9 := hR1.at_ 9 _ rfl
  have r10 := hR1.at_ 10 _ rfl
  have r11 := hR1.at_ 11 _ rfl
  have r12 := hR1.at_ 12 _ rfl
  have r13 := hR1.at_ 13 _ rfl
  have r14 := hR1.at_ 14 _ rfl
  have rf := hR1.2
  obtain ⟨r, er⟩ : ∃ r, r = w.heap.size := ⟨_, rfl⟩
  have HEr := Lib.hid er
  simp only [← er] at r0 r1 r2 r3 r4 r5 r6 r7 r8 r9 r10 r11 r12 r13 r14 rf ⊢
  clear HB0 HR0 HC z0 hb1 hR1 er
  go_wp2_with fail
  refine bodyPost_ret (v := .tuple #[.agg #[.int .i64 0, .int .i64 0, .int .i64 0, .int .u64 0, .int .i64 0, .int .u64 0, .int .i64 0, .slice none 0 0, .slice none 0 0, .int .u64 0, .int .u64 0, .int .i64 0, .string ⟨#[]⟩, .int .u64 0, .bool false], .int .i64 (k : Int)]) (by simp [results, Tryd.results18, go_sem, r0, r1, r2, r3, r4, r5, r6, r7, r8, r9, r10, r11, r12, r13, r14]) rfl ⟨_, rfl, msgv_zero _, ?_⟩
  iterate 15 (refine Below.setCell ?_ (Nat.le_of_eq HEr.out.symm) _)
  exact HB1.out
set_option maxRecDepth 100000 in
set_option maxHeartbeats 4000000 in
theorem read_got (s o : ByteArray) (w : World) (ho : o.size ≤ 140737488351232) (ht : Tab w) (hO : ∀ W : World, Tab W → Calls Tryd.prog 39 #[.string s] W fun e w' => e = .returned (.tuple #[.string o, .int .i64 0]) ∧ Below W.heap.size W w') :
    Calls Tryd.prog 18 #[.string s] w (ReadV w (if (dec o).2.b = true ∨ (dec o).2.p < o.size ∨ mayM (dec o).1 = false then (zm, 2) else ((dec o).1, 0))) := by
  have HB0 : Hid (Below w.heap.size w (w.alloc (.cells #[.int .i64 0, .int .i64 0, .int .i64 0, .int .u64 0, .int .i64 0, .int .u64 0, .int .i64 0, .slice none 0 0, .slice none 0 0, .int .u64 0, .int .u64 0, .int .i64 0, .string ⟨#[]⟩, .int .u64 0, .bool false] 28))) := Lib.hid ((Below.refl _ _).alloc (Nat.le_refl _) _)
  have HR0 : Hid (Row (w.alloc (.cells #[.int .i64 0, .int .i64 0, .int .i64 0, .int .u64 0, .int .i64 0, .int .u64 0, .int .i64 0, .slice none 0 0, .slice none 0 0, .int .u64 0, .int .u64 0, .int .i64 0, .string ⟨#[]⟩, .int .u64 0, .bool false] 28)) w.heap.size [.int .i64 0, .int .i64 0, .int .i64 0, .int .u64 0, .int .i64 0, .int .u64 0, .int .i64 0, .slice none 0 0, .slice none 0 0, .int .u64 0, .int .u64 0, .int .i64 0, .string ⟨#[]⟩, .int .u64 0, .bool false]) := Lib.hid (Row.new w _ _)
  have HC := Lib.hid (hO _ (ht.on HB0.out))
  have HM := Lib.hid (fun (W : World) (b : Nat) (h : TkAt W b o t0) => message_any o b W ho h)
  have HSm := Lib.hid (dec_small o)
  have z0 : w.heap.size < (w.alloc (.cells #[.int .i64 0, .int .i64 0, .int .i64 0, .int .u64 0, .int .i64 0, .int .u64 0, .int .i64 0, .slice none 0 0, .slice none 0 0, .int .u64 0, .int .u64 0, .int .i64 0, .string ⟨#[]⟩, .int .u64 0, .bool false] 28)).heap.size := by simp
  obtain ⟨F, hF⟩ : ∃ F : Mg × Nat, F = (if (dec o).2.b = true ∨ (dec o).2.p < o.size ∨ mayM (dec o).1 = false then (zm, 2) else ((dec o).1, 0)) := ⟨_, rfl⟩
  rw [← hF]
  generalize dec o = d at *
  obtain ⟨x, t⟩ := d
  simp only [] at hF HM HSm
  have HF := Lib.hid hF
  clear hO ht hF
  go_enter Tryd.func18, Tryd.ntmps18
  go_upto_region 1 with (fail)
  generalize w.alloc (.cells #[.int .i64 0, .int .i64 0, .int .i64 0, .int .u64 0, .int .i64 0, .int .u64 0, .int .i64 0, .slice none 0 0, .slice none 0 0, .int .u64 0, .int .u64 0, .int .i64 0, .string ⟨#[]⟩, .int .u64 0, .bool false] 28) = w0 at *
  go_wp2_with fail
  refine HC.out.mono ?_
  rintro e w1 ⟨rfl, hb1⟩
  have HB1 : Hid (Below w.heap.size w w1) := Lib.hid (HB0.out.trans (hb1.mono (Nat.le_of_lt z0)))
  have HR1 := Lib.hid (HR0.out.on hb1 (show 0 < 15 by decide))
  have z1 : w.heap.size < w1.heap.size := Nat.lt_of_lt_of_le z0 hb1.size
  clear HB0 HR0 HC z0 hb1
  go_upto_region 5 with (fail)
  have hb2 : Below w1.heap.size w1 (w1.alloc (.cells #[.string o, .int .i64 0, .bool false] 71)) := (Below.refl _ _).alloc (Nat.le_refl _) _
  have HB2 : Hid (Below w.heap.size w (w1.alloc (.cells #[.string o, .int .i64 0, .bool false] 71))) := Lib.hid (HB1.out.trans (hb2.mono HB1.out.size))
  have HR2 := Lib.hid (HR1.out.on hb2 (show 0 < 15 by decide))
  have HT2 : Hid (TkAt (w1.alloc (.cells #[.string o, .int .i64 0, .bool false] 71)) w1.heap.size o t0) := Lib.hid (Row.new w1 _ _)
  have z2 : w1.heap.size < (w1.alloc (.cells #[.string o, .int .i64 0, .bool false] 71)).heap.size := by simp
  generalize w1.alloc (.cells #[.string o, .int .i64 0, .bool false] 71) = w2 at *
  obtain ⟨b, eb⟩ : ∃ b, b = w1.heap.size := ⟨_, rfl⟩
  have hbr : w.heap.size < b := by omega
  have hbz : b < w2.heap.size := by omega
  rw [← eb] at HT2 ⊢
  clear hb2 HB1 HR1 z1 z2 eb
  go_wp2_with fail
  refine (HM.out _ _ HT2.out).mono ?_
  rintro e w3 ⟨nv, tv, rfl, hN, hK, hTk⟩
  obtain ⟨NA, Nc, rfl, _, _⟩ := hN.lst
  obtain ⟨TA, Tc, rfl, _, _⟩ := hK.lst
  have z3 := hTk.2.size
  have hB3 : Below w.heap.size w w3 := HB2.out.trans ((hTk.2.mono (S' := []) (show w.heap.size ≤ w2.heap.size by omega) (fun k hk hm => by simp at hm; omega)).below)
  have hR3 := HR2.out.kp hTk.2 (by omega) (by simp; omega)
  have hb4 : Below w3.heap.size w3 (w3.alloc (.cells #[.int .i64 x.kd, .int .i64 x.fr, .int .i64 x.to, .int .u64 (x.sq : Int), .int .i64 x.wh, .int .u64 x.k.i, .int .i64 x.k.s, (.slice NA x.ns.length Nc), (.slice TA x.tb.length Tc), .int .u64 (x.ep : Int), .int .u64 (x.bo : Int), .int .i64 x.ak, .string x.ts, .int .u64 (x.tn : Int), .bool x.gd] 28)) := (Below.refl _ _).alloc (Nat.le_refl _) _
  have HB4 : Hid (Below w.heap.size w (w3.alloc (.cells #[.int .i64 x.kd, .int .i64 x.fr, .int .i64 x.to, .int .u64 (x.sq : Int), .int .i64 x.wh, .int .u64 x.k.i, .int .i64 x.k.s, (.slice NA x.ns.length Nc), (.slice TA x.tb.length Tc), .int .u64 (x.ep : Int), .int .u64 (x.bo : Int), .int .i64 x.ak, .string x.ts, .int .u64 (x.tn : Int), .bool x.gd] 28))) := Lib.hid (hB3.trans (hb4.mono hB3.size))
  have HR4 := Lib.hid (hR3.on hb4 (show 0 < 15 by decide))
  have HT4 := Lib.hid (hTk.1.on hb4)
  have HN4 := Lib.hid (hN.on hb4)
  have HK4 := Lib.hid (hK.on hb4)
  have HX4 : Hid (Row (w3.alloc (.cells #[.int .i64 x.kd, .int .i64 x.fr, .int .i64 x.to, .int .u64 (x.sq : Int), .int .i64 x.wh, .int .u64 x.k.i, .int .i64 x.k.s, (.slice NA x.ns.length Nc), (.slice TA x.tb.length Tc), .int .u64 (x.ep : Int), .int .u64 (x.bo : Int), .int .i64 x.ak, .string x.ts, .int .u64 (x.tn : Int), .bool x.gd] 28)) w3.heap.size [.int .i64 x.kd, .int .i64 x.fr, .int .i64 x.to, .int .u64 (x.sq : Int), .int .i64 x.wh, .int .u64 x.k.i, .int .i64 x.k.s, (.slice NA x.ns.length Nc), (.slice TA x.tb.length Tc), .int .u64 (x.ep : Int), .int .u64 (x.bo : Int), .int .i64 x.ak, .string x.ts, .int .u64 (x.tn : Int), .bool x.gd]) := Lib.hid (Row.new w3 _ _)
  have hrw : w.heap.size < w2.heap.size := by omega
  unfold mvv
  clear hN hK hTk hB3 hR3 hb4 HM HT2 HB2 HR2
  go_upto_region 6 with (fail)
  generalize w3.alloc (.cells #[.int .i64 x.kd, .int .i64 x.fr, .int .i64 x.to, .int .u64 (x.sq : Int), .int .i64 x.wh, .int .u64 x.k.i, .int .i64 x.k.s, (.slice NA x.ns.length Nc), (.slice TA x.tb.length Tc), .int .u64 (x.ep : Int), .int .u64 (x.bo : Int), .int .i64 x.ak, .string x.ts, .int .u64 (x.tn : Int), .bool x.gd] 28) = w4 at *
  generalize w3.heap.size = q at *
  have HV4 : Hid (MsgV w4 (.agg #[.int .i64 x.kd, .int .i64 x.fr, .int .i64 x.to, .int .u64 (x.sq : Int), .int .i64 x.wh, .int .u64 x.k.i, .int .i64 x.k.s, (.slice NA x.ns.length Nc), (.slice TA x.tb.length Tc), .int .u64 (x.ep : Int), .int .u64 (x.bo : Int), .int .i64 x.ak, .string x.ts, .int .u64 (x.tn : Int), .bool x.gd]) x) := Lib.hid (msgv_own HN4.out HK4.out HSm.out)
  have HCk := Lib.hid (check_msg x _ w4 HV4.out)
  obtain ⟨k0, k1, k2, kf⟩ := HT4.out.cells
  have x0 := HX4.out.at_ 0 _ rfl
  have x1 := HX4.out.at_ 1 _ rfl
  have x2 := HX4.out.at_ 2 _ rfl
  have x3 := HX4.out.at_ 3 _ rfl
  have x4 := HX4.out.at_ 4 _ rfl
  have x5 := HX4.out.at_ 5 _ rfl
  have x6 := HX4.out.at_ 6 _ rfl
  have x7 := HX4.out.at_ 7 _ rfl
  have x8 := HX4.out.at_ 8 _ rfl
  have x9 := HX4.out.at_ 9 _ rfl
  have x10 := HX4.out.at_ 10 _ rfl
  have x11 := HX4.out.at_ 11 _ rfl
  have x12 := HX4.out.at_ 12 _ rfl
  have x13 := HX4.out.at_ 13 _ rfl
  have x14 := HX4.out.at_ 14 _ rfl
  obtain ⟨r, er⟩ : ∃ r, r = w.heap.size := ⟨_, rfl⟩
  have HEr := Lib.hid er
  rw [← er] at HR4 ⊢
  have hrq : r < w2.heap.size := by omega
  clear er HT4 HX4
  rcases hb : t.b with _ | _
  rotate_left
  · have HF2 : Hid (F = (zm, 2)) := Lib.hid (by rw [HF.out, if_pos (.inl hb)])
    rw [hb] at k2
    have r0 := HR4.out.at_ 0 _ rfl
    have r1 := HR4.out.at_ 1 _ rfl
    have r2 := HR4.out.at_ 2 _ rfl
    have r3 := HR4.out.at_ 3 _ rfl
    have r4 := HR4.out.at_ 4 _ rfl
    have r5 := HR4.out.at_ 5 _ rfl
    have r6 := HR4.out.at_ 6 _ rfl
    have r7 := HR4.out.at_ 7 _ rfl
    have r8 := HR4.out.at_ 8 _ rfl
    have r9 := HR4.out.at_ 9 _ rfl
    have r10 := HR4.out.at_ 10 _ rfl
    have r11 := HR4.out.at_ 11 _ rfl
    have r12 := HR4.out.at_ 12 _ rfl
    have r13 := HR4.out.at_ 13 _ rfl
    have r14 := HR4.out.at_ 14 _ rfl
    have rf := HR4.out.2
    clear HF HCk HV4 HN4 HK4 HR4 hb
    go_wp2_with fail
    refine bodyPost_ret (v := .tuple #[.agg #[.int .i64 0, .int .i64 0, .int .i64 0, .int .u64 0, .int .i64 0, .int .u64 0, .int .i64 0, .slice none 0 0, .slice none 0 0, .int .u64 0, .int .u64 0, .int .i64 0, .string ⟨#[]⟩, .int .u64 0, .bool false], .int .i64 2]) (by simp [results, Tryd.results18, go_sem, r0, r1, r2, r3, r4, r5, r6, r7, r8, r9, r10, r11, r12, r13, r14]) rfl ?_
    rw [HF2.out]
    refine ⟨_, rfl, msgv_zero _, ?_⟩
    iterate 15 (refine Below.setCell ?_ (Nat.le_of_eq HEr.out.symm) _)
    exact HB4.out
  rw [hb] at k2
  by_cases hp : t.p < o.size
  · have HF2 : Hid (F = (zm, 2)) := Lib.hid (by rw [HF.out, if_pos (.inr (.inl hp))])
    have e1 : decide ((t.p : Int) < (o.size : Int)) = true := by simp; omega
    have e1' : decide (t.p < o.size) = true := by simpa using hp
    have r0 := HR4.out.at_ 0 _ rfl
    have r1 := HR4.out.at_ 1 _ rfl
    have r2 := HR4.out.at_ 2 _ rfl
    have r3 := HR4.out.at_ 3 _ rfl
    have r4 := HR4.out.at_ 4 _ rfl
    have r5 := HR4.out.at_ 5 _ rfl
    have r6 := HR4.out.at_ 6 _ rfl
    have r7 := HR4.out.at_ 7 _ rfl
    have r8 := HR4.out.at_ 8 _ rfl
    have r9 := HR4.out.at_ 9 _ rfl
    have r10 := HR4.out.at_ 10 _ rfl
    have r11 := HR4.out.at_ 11 _ rfl
    have r12 := HR4.out.at_ 12 _ rfl
    have r13 := HR4.out.at_ 13 _ rfl
    have r14 := HR4.out.at_ 14 _ rfl
    have rf := HR4.out.2
    clear HF HCk HV4 HN4 HK4 HR4 hb
    go_wp2_with fail
    refine bodyPost_ret (v := .tuple #[.agg #[.int .i64 0, .int .i64 0, .int .i64 0, .int .u64 0, .int .i64 0, .int .u64 0, .int .i64 0, .slice none 0 0, .slice none 0 0, .int .u64 0, .int .u64 0, .int .i64 0, .string ⟨#[]⟩, .int .u64 0, .bool false], .int .i64 2]) (by simp [results, Tryd.results18, go_sem, r0, r1, r2, r3, r4, r5, r6, r7, r8, r9, r10, r11, r12, r13, r14]) rfl ?_
    rw [HF2.out]
    refine ⟨_, rfl, msgv_zero _, ?_⟩
    iterate 15 (refine Below.setCell ?_ (Nat.le_of_eq HEr.out.symm) _)
    exact HB4.out
  have e1 : decide ((t.p : Int) < (o.size : Int)) = false := by simp; omega
  have e1' : decide (t.p < o.size) = false := by simpa using hp
  rcases hm : mayM x with _ | _
  · have HF2 : Hid (F = (zm, 2)) := Lib.hid (by rw [HF.out, if_pos (.inr (.inr hm))])
    have ho1 : okE (mayM x) = 1 := by rw [hm]; rfl
    rw [ho1] at HCk
    clear HF HV4 HN4 HK4 hb hm ho1
    go_wp2_with (go_at_call 11; refine HCk.out.mono ?_; rintro e w5 ⟨rfl, hb5⟩; have HR5 := Lib.hid (HR4.out.on hb5 (show 0 < 15 by decide)); have hb6 := Lib.hid hb5; clear hb5; have r0 := HR5.out.at_ 0 _ rfl; have r1 := HR5.out.at_ 1 _ rfl; have r2 := HR5.out.at_ 2 _ rfl; have r3 := HR5.out.at_ 3 _ rfl; have r4 := HR5.out.at_ 4 _ rfl; have r5 := HR5.out.at_ 5 _ rfl; have r6 := HR5.out.at_ 6 _ rfl; have r7 := HR5.out.at_ 7 _ rfl; have r8 := HR5.out.at_ 8 _ rfl; have r9 := HR5.out.at_ 9 _ rfl; have r10 := HR5.out.at_ 10 _ rfl; have r11 := HR5.out.at_ 11 _ rfl; have r12 := HR5.out.at_ 12 _ rfl; have r13 := HR5.out.at_ 13 _ rfl; have r14 := HR5.out.at_ 14 _ rfl; have rf := HR5.out.2)
    refine bodyPost_ret (v := .tuple #[.agg #[.int .i64 0, .int .i64 0, .int .i64 0, .int .u64 0, .int .i64 0, .int .u64 0, .int .i64 0, .slice none 0 0, .slice none 0 0, .int .u64 0, .int .u64 0, .int .i64 0, .string ⟨#[]⟩, .int .u64 0, .bool false], .int .i64 2]) (by simp [results, Tryd.results18, go_sem, r0, r1, r2, r3, r4, r5, r6, r7, r8, r9, r10, r11, r12, r13, r14]) rfl ?_
    rw [HF2.out]
    refine ⟨_, rfl, msgv_zero _, ?_⟩
    iterate 15 (refine Below.setCell ?_ (Nat.le_of_eq HEr.out.symm) _)
    exact HB4.out.trans (hb6.out.mono HB4.out.size)
  · have HF2 : Hid (F = (x, 0)) := Lib.hid (by rw [HF.out, if_neg]; rintro (h | h | h); exact absurd (h.symm.trans hb) (by decide); exact hp h; exact absurd (hm.symm.trans h) (by decide))
    have ho1 : okE (mayM x) = 0 := by rw [hm]; rfl
    rw [ho1] at HCk
    clear HF HV4 hb hm ho1
    go_wp2_with (go_at_call 11; refine HCk.out.mono ?_; rintro e w5 ⟨rfl, hb5⟩; have HR5 := Lib.hid (HR4.out.on hb5 (show 0 < 15 by decide)); have HN5 := Lib.hid (HN4.out.on hb5); have HK5 := Lib.hid (HK4.out.on hb5); have hb6 := Lib.hid hb5; replace x0 := (hb5.cell (World.block_lt_of_cell? _ _ x0)).trans x0; replace x1 := (hb5.cell (World.block_lt_of_cell? _ _ x1)).trans x1; replace x2 := (hb5.cell (World.block_lt_of_cell? _ _ x2)).trans x2; replace x3 := (hb5.cell (World.block_lt_of_cell? _ _ x3)).trans x3; replace x4 := (hb5.cell (World.block_lt_of_cell? _ _ x4)).trans x4; replace x5 := (hb5.cell (World.block_lt_of_cell? _ _ x5)).trans x5; replace x6 := (hb5.cell (World.block_lt_of_cell? _ _ x6)).trans x6; replace x7 := (hb5.cell (World.block_lt_of_cell? _ _ x7)).trans x7; replace x8 := (hb5.cell (World.block_lt_of_cell? _ _ x8)).trans x8; replace x9 := (hb5.cell (World.block_lt_of_cell? _ _ x9)).trans x9; replace x10 := (hb5.cell (World.block_lt_of_cell? _ _ x10)).trans x10; replace x11 := (hb5.cell (World.block_lt_of_cell? _ _ x11)).trans x11; replace x12 := (hb5.cell (World.block_lt_of_cell? _ _ x12)).trans x12; replace x13 := (hb5.cell (World.block_lt_of_cell? _ _ x13)).trans x13; replace x14 := (hb5.cell (World.block_lt_of_cell? _ _ x14)).trans x14; clear hb5; have r0 := HR5.out.at_ 0 _ rfl; have r1 := HR5.out.at_ 1 _ rfl; have r2 := HR5.out.at_ 2 _ rfl; have r3 := HR5.out.at_ 3 _ rfl; have r4 := HR5.out.at_ 4 _ rfl; have r5 := HR5.out.at_ 5 _ rfl; have r6 := HR5.out.at_ 6 _ rfl; have r7 := HR5.out.at_ 7 _ rfl; have r8 := HR5.out.at_ 8 _ rfl; have r9 := HR5.out.at_ 9 _ rfl; have r10 := HR5.out.at_ 10 _ rfl; have r11 := HR5.out.at_ 11 _ rfl; have r12 := HR5.out.at_ 12 _ rfl; have r13 := HR5.out.at_ 13 _ rfl; have r14 := HR5.out.at_ 14 _ rfl; have rf := HR5.out.2)
    refine bodyPost_ret (v := .tuple #[.agg #[.int .i64 x.kd, .int .i64 x.fr, .int .i64 x.to, .int .u64 (x.sq : Int), .int .i64 x.wh, .int .u64 x.k.i, .int .i64 x.k.s, (.slice NA x.ns.length Nc), (.slice TA x.tb.length Tc), .int .u64 (x.ep : Int), .int .u64 (x.bo : Int), .int .i64 x.ak, .string x.ts, .int .u64 (x.tn : Int), .bool x.gd], .int .i64 0]) (by simp [results, Tryd.results18, go_sem, r0, r1, r2, r3, r4, r5, r6, r7, r8, r9, r10, r11, r12, r13, r14]) rfl ?_
    rw [HF2.out]
    refine ⟨mvv x (.slice NA x.ns.length Nc) (.slice TA x.tb.length Tc), rfl, msgv_own (B := w2.heap.size) ?_ ?_ HSm.out, ?_⟩
    · iterate 15 (refine OwnN.cellFar ?_ hrq)
      exact HN5.out
    · iterate 15 (refine Own.cellFar ?_ hrq)
      exact HK5.out
    · iterate 15 (refine Below.setCell ?_ (Nat.le_of_eq HEr.out.symm) _)
      exact HB4.out.trans (hb6.out.mono HB4.out.size)
end Go.Proofs.YtjeepmdklbfgeaaDoor
