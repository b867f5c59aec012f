/-
  DiskTurns: a text of which some are turned of 32 bits that stand beside one another is none, nor is a part of one: the law returns true for every input.
-/
import Derived.Test.YtlpnhpnigljlnaaDoorLw
import Derived.Test.YtlpnhpnigljlnaaDoorAk
import Derived.Test.YtlpnhpnigljlnaaDoorTp
import Derived.Test.YtlpnhpnigljlnaaDoorCards
import Derived.Test.YtlpnhpnigljlnaaDoorTie
namespace Go.Proofs.YtlpnhpnigljlnaaDoor.lawTurns
open Go.ChangeMaps (open_string)
open Go.Sort Go.ChangeShapes Go.WideShapes Go.ChangeAt Go.RowKit Go.Joins Go.Proofs.YtlpnhpnigljlnaaDoor.Pure Go.Proofs.YtlpnhpnigljlnaaDoor.Crc

set_option maxRecDepth 100000 in
set_option maxHeartbeats 4000000 in
theorem walk (s : Sv) (t p : Nat) (w : World) (hf : FitS s) (hat : (t : Int) ≤ 65535) (hp0 : (p : Int) ≤ 4294967295) (ht : Tab w) : Calls Tryd.prog 7 #[.agg #[.int .u64 s.q, .int .u64 s.b, .int .u64 s.i, .int .u64 s.e, .int .i64 s.u], .int .u16 t, .int .u32 p] w fun e w' => e = .returned (.bool true) ∧ Below w.heap.size w w' := by
  have hp : p < 2 ^ 32 := by omega
  have HAW := Lib.hid (fun (W : World) (hT : Tab W) => awake_any W hT)
  have HS_0 : Hid (SvA (w.alloc (.cells #[.int .u64 s.q, .int .u64 s.b, .int .u64 s.i, .int .u64 s.e, .int .i64 s.u] 26)) w.heap.size s) := Lib.hid (SvA.new w s _)
  have HB_0 : Hid (Below w.heap.size w (w.alloc (.cells #[.int .u64 s.q, .int .u64 s.b, .int .u64 s.i, .int .u64 s.e, .int .i64 s.u] 26))) := Lib.hid ((Below.refl _ _).alloc (Nat.le_refl _) _)
  have HT_0 := Lib.hid (ht.on HB_0.out)
  clear ht
  cases hm : mayB s with
  | false =>
    have HL := Lib.hid (fun W => lay_no s W hm)
    clear hm hf
    go_enter Tryd.func7, Tryd.ntmps7
    go_upto_region 1 with (fail)
    generalize w.alloc (.cells #[.int .u64 s.q, .int .u64 s.b, .int .u64 s.i, .int .u64 s.e, .int .i64 s.u] 26) = w0 at *
    obtain ⟨s0, s1, s2, s3, s4⟩ := HS_0.out
    try simp only at s0 s1 s2 s3 s4
    go_wp2_with fail
    refine (HL.out _).mono ?_
    rintro e w1 ⟨rfl, hb⟩
    clear s0 s1 s2 s3 s4
    have T_1 := Lib.hid (HT_0.out.on hb)
    have B_1 := Lib.hid (HB_0.out.trans (hb.mono HB_0.out.size))
    have s_1 := Lib.hid (HS_0.out.on hb)
    clear HT_0 HB_0 HS_0
    clear hb
    go_wp2_with fail
    refine (HAW.out _ T_1.out).mono ?_
    rintro e w2 ⟨rfl, hb⟩
    have T_2 := Lib.hid (T_1.out.on hb)
    have B_2 := Lib.hid (B_1.out.trans (hb.mono B_1.out.size))
    have s_2 := Lib.hid (s_1.out.on hb)
    clear T_1 B_1 s_1
    clear hb
    go_wp2_with fail
    go_ret
    exact ⟨rfl, B_2.out⟩
  | true =>
    have o := hf.sv hm
    have HL := Lib.hid (fun W hT => lay_yes s W o hT)
    have hz := layC_size s
    have hz9 := lay_ten s
    have HSR := Lib.hid (fun (z : ByteArray) (fr : Nat) h h1 h2 => spoilt_read o (z := z) (p := p) (fr := fr) h h1 h2)
    have HPN := Lib.hid (fun (c : Nat) h => part_no o (c := c) h)
    generalize layC s = x at *
    clear hf hm o
    have HPX : Hid (∀ (z : ByteArray) (hz : z.size ≤ 100) (W : World) (hT : Tab W), Calls Tryd.prog 10 #[.string z] W fun e w' => e = .returned (.tuple #[.agg #[.int .u64 (parS z).q, .int .u64 (parS z).b, .int .u64 (parS z).i, .int .u64 (parS z).e, .int .i64 (parS z).u], .int .i64 (parE z : Nat)]) ∧ Below W.heap.size W w') := Lib.hid (fun z hz W hT => parse_any z W (by omega) hT)
    obtain ⟨fr, hfr⟩ : ∃ fr : Nat, fr = t % (8 * x.size) := ⟨_, rfl⟩
    have HMOD : Hid ((t : Int) % (8 * (x.size : Int)) = (fr : Int)) := Lib.hid (by rw [hfr]; simp)
    have hfrom : fr < 8 * x.size := by rw [hfr]; exact Nat.mod_lt _ (by omega)
    obtain ⟨q, hq⟩ : ∃ q : Nat, q = t % x.size := ⟨_, rfl⟩
    have HMQ : Hid ((t : Int) % (x.size : Int) = (q : Int)) := Lib.hid (by rw [hq]; simp)
    have HMN : Hid (t % x.size = q) := Lib.hid hq.symm
    have hqx : q < x.size := by rw [hq]; exact Nat.mod_lt _ (by omega)
    clear hfr hq
    have hxl : x.data.toList.length = x.size := by simp
    have HL2 := Lib.hid hxl
    have HP := Lib.hid (Spoilt.begin x.data.toList p fr)
    clear hxl
    have wt1 : IntKind.i64.wrap (t : Int) = (t : Int) := IntWalk.i64_in _ (by omega)
    have zx0 : ((x.size : Int) == 0) = false := by rw [beq_eq_false_iff_ne]; omega
    have zx1 : (x.size == 0) = false := by rw [beq_eq_false_iff_ne]; omega
    go_enter Tryd.func7, Tryd.ntmps7
    go_upto_region 1 with (fail)
    generalize w.alloc (.cells #[.int .u64 s.q, .int .u64 s.b, .int .u64 s.i, .int .u64 s.e, .int .i64 s.u] 26) = w0 at *
    obtain ⟨s0, s1, s2, s3, s4⟩ := HS_0.out
    try simp only at s0 s1 s2 s3 s4
    go_wp2_with fail
    refine (HL.out _ HT_0.out).mono ?_
    rintro e w1 ⟨rfl, hb⟩
    clear s0 s1 s2 s3 s4
    have T_1 := Lib.hid (HT_0.out.on hb)
    have B_1 := Lib.hid (HB_0.out.trans (hb.mono HB_0.out.size))
    have s_1 := Lib.hid (HS_0.out.on hb)
    clear HT_0 HB_0 HS_0
    clear hb
    go_wp2_with fail
    clear HL
    go_loopw [9, 10] (fun v i wr => ∃ (k : Nat) (z : ByteArray), k ≤ 32 ∧ i = .int .i64 k ∧ v = .string z ∧ z.size ≤ x.size ∧ x.size ≤ z.size ∧ Hid (Spoilt x.data.toList z.data.toList p fr k) ∧ Hid (Below w1.heap.size w1 wr)) (fun _ i _ => 32 - (intOf i).toNat)
    case atStart => exact ⟨0, x, by omega, rfl, rfl, by omega, by omega, HP, Lib.hid (Below.refl _ _)⟩
    case round =>
      obtain ⟨wq, ewq⟩ : ∃ wq, wq = wr := ⟨_, rfl⟩
      subst ewq
      obtain ⟨k, z, hk, rfl, rfl, hz1, hz2, HZ, hb⟩ := hrel
      clear HP
      by_cases h32 : k < 32
      · clear HSR HPN HPX hqx HMQ T_1 B_1 s_1
        have HWF : Hid (wrap64 ((fr : Int) + (k : Int)) = (fr : Int) + (k : Int)) := Lib.hid (by unfold wrap64; omega)
        rcases Nat.mod_two_eq_zero_or_one (p / 2 ^ k) with h | h
        · have hbit : (bits .and .u32 ((p : Int) / 2 ^ k) 1 == 1) = false := by rw [bit_is p k hp, h]; rfl
          have hoff := Lib.hid (HZ.out.off h)
          clear h
          go_wp2_with fail
          go_roundw
          case rel => exact ⟨k + 1, z, by omega, by go_num, rfl, hz1, hz2, hoff, hb⟩
          case measure => simp [intOf]; omega
        · have hbit : (bits .and .u32 ((p : Int) / 2 ^ k) 1 == 1) = true := by rw [bit_is p k hp, h]; rfl
          rcases Nat.lt_or_ge (fr + k) (8 * x.size) with hin | hout
          · have hon := Lib.hid (HZ.out.on h (by rw [HL2.out]; exact hin) h32)
            have ht := fun W => turn_in z (fr + k) W (by omega) (by omega)
            have hsz : (⟨(turnL z.data.toList (fr + k)).toArray⟩ : ByteArray).size = z.size := by show (turnL z.data.toList (fr + k)).toArray.size = _; simp [turnL]
            have hls : (⟨(turnL z.data.toList (fr + k)).toArray⟩ : ByteArray).data.toList = turned z.data.toList (fr + k) := by simp; rfl
            generalize (⟨(turnL z.data.toList (fr + k)).toArray⟩ : ByteArray) = z' at *
            rw [← hls] at hon
            have hs1 := Nat.le_of_eq hsz
            have hs2 := Nat.le_of_eq hsz.symm
            simp only [Int.natCast_add] at ht
            rw [← HWF.out, ← HMOD.out] at ht
            have HU := Lib.hid ht
            clear h ht hsz hls
            go_wp2_with fail
            refine (HU.out _).mono ?_
            rintro e w4 ⟨rfl, hb4⟩
            go_wp2_with fail
            go_roundw
            case rel => exact ⟨k + 1, z', by omega, by go_num, rfl, by omega, by omega, hon, Lib.hid (hb.out.trans (hb4.mono hb.out.size))⟩
            case measure => simp [intOf]; omega
          · have hpast := Lib.hid (HZ.out.past (k := k) (by rw [HL2.out]; omega))
            have ht := fun W => turn_not z (fr + k) W (by omega) (by omega)
            simp only [Int.natCast_add] at ht
            rw [← HWF.out, ← HMOD.out] at ht
            have HU := Lib.hid ht
            clear h ht
            go_wp2_with fail
            refine (HU.out _).mono ?_
            rintro e w4 ⟨rfl, rfl⟩
            go_wp2_with fail
            go_roundw
            case rel => exact ⟨k + 1, z, by omega, by go_num, rfl, hz1, hz2, hpast, hb⟩
            case measure => simp [intOf]; omega
      · obtain rfl : k = 32 := by omega
        have hpart := HPN.out q hqx
        have HPQ := Lib.hid (HPX.out (x.extract 0 q) (by rw [ByteArray.size_extract]; omega))
        have hsr := HSR.out z fr HZ.out hz1 hz2
        have HPZ := Lib.hid (HPX.out z (by omega))
        clear HPN HPX HSR HZ HL2 HMOD
        have z9 : (parE (x.extract 0 q) == 0) = false := by simpa using hpart
        generalize parS (x.extract 0 q) = qs at *
        generalize parE (x.extract 0 q) = qe at *
        clear hpart
        have T_2 := Lib.hid (T_1.out.on hb.out)
        have B_2 := Lib.hid (B_1.out.trans (hb.out.mono B_1.out.size))
        have s_2 := Lib.hid (s_1.out.on hb.out)
        clear T_1 B_1 s_1
        clear hb
        rcases hsr with ⟨rfl, q1, q2⟩ | ⟨hzx, q1, q2⟩
        · rw [q1, q2] at HPZ
          have z1 : (z.toList == z.toList) = true := by simp
          clear q1 q2
          go_wp2_with fail
          refine (HPZ.out _ T_2.out).mono ?_
          rintro e w2 ⟨rfl, hb⟩
          have T_3 := Lib.hid (T_2.out.on hb)
          have B_3 := Lib.hid (B_2.out.trans (hb.mono B_2.out.size))
          have s_3 := Lib.hid (s_2.out.on hb)
          clear T_2 B_2 s_2
          clear hb
          have hbn : Below w2.heap.size w2 (w2.alloc (.cells #[.int .u64 s.q, .int .u64 s.b, .int .u64 s.i, .int .u64 s.e, .int .i64 s.u] 26)) := (Below.refl _ _).alloc (Nat.le_refl _) _
          have T_4 := Lib.hid (T_3.out.on hbn)
          have B_4 := Lib.hid (B_3.out.trans (hbn.mono B_3.out.size))
          have s_4 := Lib.hid (s_3.out.on hbn)
          clear T_3 B_3 s_3
          have y_4 : Hid (SvA (w2.alloc (.cells #[.int .u64 s.q, .int .u64 s.b, .int .u64 s.i, .int .u64 s.e, .int .i64 s.u] 26)) w2.heap.size s) := Lib.hid (SvA.new w2 s _)
          clear hbn
          go_upto_region 11 with (fail)
          generalize w2.alloc (.cells #[.int .u64 s.q, .int .u64 s.b, .int .u64 s.i, .int .u64 s.e, .int .i64 s.u] 26) = w3 at *
          generalize w2.heap.size = gy at *
          have hm0 : 0 ≤ (t : Int) % (z.size : Int) := by rw [HMQ.out]; omega
          have hm1 : (t : Int) % (z.size : Int) ≤ (z.size : Int) := by rw [HMQ.out]; omega
          have hm2 : (t : Int) % (z.size : Int) < (z.size : Int) := by rw [HMQ.out]; omega
          go_wp2_with fail
          simp only [HMN.out]
          clear hm0 hm1 hm2
          refine (HPQ.out _ T_4.out).mono ?_
          rintro e w4 ⟨rfl, hb⟩
          have T_5 := Lib.hid (T_4.out.on hb)
          have B_5 := Lib.hid (B_4.out.trans (hb.mono B_4.out.size))
          have s_5 := Lib.hid (s_4.out.on hb)
          have y_5 := Lib.hid (y_4.out.on hb)
          clear T_4 B_4 s_4 y_4
          clear hb
          have hbn : Below w4.heap.size w4 (w4.alloc (.cells #[.int .u64 qs.q, .int .u64 qs.b, .int .u64 qs.i, .int .u64 qs.e, .int .i64 qs.u] 26)) := (Below.refl _ _).alloc (Nat.le_refl _) _
          have T_6 := Lib.hid (T_5.out.on hbn)
          have B_6 := Lib.hid (B_5.out.trans (hbn.mono B_5.out.size))
          have s_6 := Lib.hid (s_5.out.on hbn)
          have y_6 := Lib.hid (y_5.out.on hbn)
          clear T_5 B_5 s_5 y_5
          have g_6 : Hid (SvA (w4.alloc (.cells #[.int .u64 qs.q, .int .u64 qs.b, .int .u64 qs.i, .int .u64 qs.e, .int .i64 qs.u] 26)) w4.heap.size qs) := Lib.hid (SvA.new w4 qs _)
          clear hbn
          go_upto_region 12 with (fail)
          generalize w4.alloc (.cells #[.int .u64 qs.q, .int .u64 qs.b, .int .u64 qs.i, .int .u64 qs.e, .int .i64 qs.u] 26) = w5 at *
          generalize w4.heap.size = gg at *
          obtain ⟨y0, y1, y2, y3, y4⟩ := y_6.out
          try simp only at y0 y1 y2 y3 y4
          obtain ⟨s0, s1, s2, s3, s4⟩ := s_6.out
          try simp only at s0 s1 s2 s3 s4
          go_wp2_with fail
          refine (HAW.out _ T_6.out).mono ?_
          rintro e w6 ⟨rfl, hb⟩
          clear s0 s1 s2 s3 s4
          clear y0 y1 y2 y3 y4
          have T_7 := Lib.hid (T_6.out.on hb)
          have B_7 := Lib.hid (B_6.out.trans (hb.mono B_6.out.size))
          have s_7 := Lib.hid (s_6.out.on hb)
          have y_7 := Lib.hid (y_6.out.on hb)
          have g_7 := Lib.hid (g_6.out.on hb)
          clear T_6 B_6 s_6 y_6 g_6
          clear hb
          go_wp2_with fail
          go_ret
          exact ⟨rfl, B_7.out⟩
        · rw [q1, q2] at HPZ
          simp only [nilD] at HPZ
          have z1 : (z.toList == x.toList) = false := by rw [beq_eq_false_iff_ne]; exact fun h => hzx (text_eq h)
          clear q1 q2 hzx
          go_wp2_with fail
          refine (HPZ.out _ T_2.out).mono ?_
          rintro e w2 ⟨rfl, hb⟩
          have T_3 := Lib.hid (T_2.out.on hb)
          have B_3 := Lib.hid (B_2.out.trans (hb.mono B_2.out.size))
          have s_3 := Lib.hid (s_2.out.on hb)
          clear T_2 B_2 s_2
          clear hb
          have hbn : Below w2.heap.size w2 (w2.alloc (.cells #[.int .u64 0, .int .u64 0, .int .u64 0, .int .u64 0, .int .i64 0] 26)) := (Below.refl _ _).alloc (Nat.le_refl _) _
          have T_4 := Lib.hid (T_3.out.on hbn)
          have B_4 := Lib.hid (B_3.out.trans (hbn.mono B_3.out.size))
          have s_4 := Lib.hid (s_3.out.on hbn)
          clear T_3 B_3 s_3
          have y_4 : Hid (SvA (w2.alloc (.cells #[.int .u64 0, .int .u64 0, .int .u64 0, .int .u64 0, .int .i64 0] 26)) w2.heap.size (⟨0, 0, 0, 0, 0⟩ : Sv)) := Lib.hid (SvA.new w2 (⟨0, 0, 0, 0, 0⟩ : Sv) _)
          clear hbn
          go_upto_region 11 with (fail)
          generalize w2.alloc (.cells #[.int .u64 0, .int .u64 0, .int .u64 0, .int .u64 0, .int .i64 0] 26) = w3 at *
          generalize w2.heap.size = gy at *
          have hm0 : 0 ≤ (t : Int) % (x.size : Int) := by rw [HMQ.out]; omega
          have hm1 : (t : Int) % (x.size : Int) ≤ (x.size : Int) := by rw [HMQ.out]; omega
          have hm2 : (t : Int) % (x.size : Int) < (x.size : Int) := by rw [HMQ.out]; omega
          go_wp2_with fail
          simp only [HMN.out]
          clear hm0 hm1 hm2
          refine (HPQ.out _ T_4.out).mono ?_
          rintro e w4 ⟨rfl, hb⟩
          have T_5 := Lib.hid (T_4.out.on hb)
          have B_5 := Lib.hid (B_4.out.trans (hb.mono B_4.out.size))
          have s_5 := Lib.hid (s_4.out.on hb)
          have y_5 := Lib.hid (y_4.out.on hb)
          clear T_4 B_4 s_4 y_4
          clear hb
          have hbn : Below w4.heap.size w4 (w4.alloc (.cells #[.int .u64 qs.q, .int .u64 qs.b, .int .u64 qs.i, .int .u64 qs.e, .int .i64 qs.u] 26)) := (Below.refl _ _).alloc (Nat.le_refl _) _
          have T_6 := Lib.hid (T_5.out.on hbn)
          have B_6 := Lib.hid (B_5.out.trans (hbn.mono B_5.out.size))
          have s_6 := Lib.hid (s_5.out.on hbn)
          have y_6 := Lib.hid (y_5.out.on hbn)
          clear T_5 B_5 s_5 y_5
          have g_6 : Hid (SvA (w4.alloc (.cells #[.int .u64 qs.q, .int .u64 qs.b, .int .u64 qs.i, .int .u64 qs.e, .int .i64 qs.u] 26)) w4.heap.size qs) := Lib.hid (SvA.new w4 qs _)
          clear hbn
          go_upto_region 12 with (fail)
          generalize w4.alloc (.cells #[.int .u64 qs.q, .int .u64 qs.b, .int .u64 qs.i, .int .u64 qs.e, .int .i64 qs.u] 26) = w5 at *
          generalize w4.heap.size = gg at *
          obtain ⟨y0, y1, y2, y3, y4⟩ := y_6.out
          try simp only at y0 y1 y2 y3 y4
          obtain ⟨s0, s1, s2, s3, s4⟩ := s_6.out
          try simp only at s0 s1 s2 s3 s4
          go_wp2_with fail
          refine (HAW.out _ T_6.out).mono ?_
          rintro e w6 ⟨rfl, hb⟩
          clear s0 s1 s2 s3 s4
          clear y0 y1 y2 y3 y4
          have T_7 := Lib.hid (T_6.out.on hb)
          have B_7 := Lib.hid (B_6.out.trans (hb.mono B_6.out.size))
          have s_7 := Lib.hid (s_6.out.on hb)
          have y_7 := Lib.hid (y_6.out.on hb)
          have g_7 := Lib.hid (g_6.out.on hb)
          clear T_6 B_6 s_6 y_6 g_6
          clear hb
          go_wp2_with fail
          go_ret
          exact ⟨rfl, B_7.out⟩

theorem parOk : ∀ t ∈ (#[26, 51, 52] : Array TypeId).toList, Tryd.prog.readableRec t = true ∧ t < Tryd.prog.types.size := by
  have hall : ([26, 51, 52].all fun t => Tryd.prog.readableRec t && decide (t < Tryd.prog.types.size)) = true := by kernel_rfl
  intro t ht
  simpa using List.all_eq_true.1 hall t ht

/-- What the walk gives, for every argument and every world that holds the table. -/
theorem contract (H : Type) (enc : TypeId × Value → H) (W : World) (base : Nat) (args : Array Value) (ds gs : List (DataW H)) (before : List MemPlace)
    (hval : ∀ (j : Nat) t v, Tryd.f7.params[j]? = some t → args[j]? = some v → Value.okWide Tryd.prog W .any base t v)
    (hW : DataW.Whole enc Tryd.prog Tryd.f7.params.toList Rows.diskTurnsSpec.vars false W args.toList ds gs before) (hL : laidMetH Tryd.prog Rows.diskTurnsRow.laid W) :
    Calls Tryd.prog 7 args W fun e W' => ∃ v, e = .returned v ∧ Rows.diskTurnsSpec.post enc Tryd.prog Tryd.f7 false true false false W args v W' := by
  have hW' := hW
  obtain ⟨p, q, hA0, hV, rfl, hfz, hnd⟩ := hW
  have hA : DataW.TrodAll enc Tryd.prog W 0 (fun _ => true) true Tryd.f7.params.toList args.toList ds p := hA0
  rw [Tryd.params7] at hA hval
  obtain ⟨v0, vs0, d0, ds0, p0, q0, hargs, rfl, rfl, h0, r0⟩ := trodAll_cons hA
  obtain ⟨v1, vs1, d1, ds1, p1, q1, rfl, rfl, rfl, h1, r1⟩ := trodAll_cons r0
  obtain ⟨v2, vs2, d2, ds2, p2, q2, rfl, rfl, rfl, h2, r2⟩ := trodAll_cons r1
  obtain ⟨rfl, rfl, rfl⟩ := trodAll_nil r2
  obtain rfl : args = #[v0, v1, v2] := by cases args; simp_all
  obtain ⟨rfl, rfl⟩ := trodVars_none hV
  obtain ⟨s, rfl, hf⟩ := open_saved (hval 0 26 v0 rfl rfl) h0
  obtain ⟨at_, rfl, hat⟩ := open_nat Tryd.underlying51 (m := 65535) (fun a => u16_of_wf) (hval 1 51 v1 rfl rfl) h1
  obtain ⟨p, rfl, hp⟩ := open_nat Tryd.underlying52 (m := 4294967295) (fun a => u32_of_wf) (hval 2 52 v2 rfl rfl) h2
  clear hA0
  refine (walk s at_ p W hf hat hp (tab_of_laid hL)).mono fun e W' ⟨he, hb⟩ => ?_
  subst he
  exact ⟨_, rfl, law_post rfl (by rw [Tryd.params7]; exact parOk) rfl hW' rfl rfl rfl hb⟩

theorem laid_met (os : Os) : laidMet Tryd.prog Rows.diskTurnsRow.laid ((laidWorld os).forCall (fun _ _ => 0) ⟨#[], #[.agg #[.int .u64 0, .int .u64 0, .int .u64 0, .int .u64 0, .int .i64 0], .int .u16 0, .int .u32 0], []⟩).memory :=
  laidMet_of_run' 8 (by kernel_rfl) (by kernel_rfl)
theorem reads (os : Os) {H : Type} (enc : TypeId × Value → H) : ∃ places, DataW.whole enc Tryd.prog ((laidWorld os).forCall (fun _ _ => 0) ⟨#[], #[.agg #[.int .u64 0, .int .u64 0, .int .u64 0, .int .u64 0, .int .i64 0], .int .u16 0, .int .u32 0], []⟩).memory Tryd.f7.params.toList Rows.diskTurnsSpec.vars false (#[.agg #[.int .u64 0, .int .u64 0, .int .u64 0, .int .u64 0, .int .i64 0], .int .u16 0, .int .u32 0] : Array Value).toList 8 = some ([.agg [.lit (.int .u64 0), .lit (.int .u64 0), .lit (.int .u64 0), .lit (.int .u64 0), .lit (.int .i64 0)], .lit (.int .u16 0), .lit (.int .u32 0)], [], places) :=
  ⟨[], by kernel_rfl⟩

set_option maxRecDepth 100000 in
theorem lifted (os : Os) (started : os.Started) (H : Type) (enc : TypeId × Value → H) (F : Stop.Interp) :
    ReturnsInHanded {} Tryd.checked os 7 .any ((OpenSpec.ofChange Rows.diskTurnsSpec).preRow enc Tryd.prog Tryd.f7 Rows.diskTurnsRow.domain false Rows.diskTurnsRow.laid) (((OpenSpec.ofChange Rows.diskTurnsSpec).at F).post enc Tryd.prog Tryd.f7 false true false false) := by
  obtain ⟨places, hx⟩ := reads os enc
  refine returnsInHanded_of_row (C := Tryd.checked) (s := OpenSpec.ofChange Rows.diskTurnsSpec) own started (by kernel_rfl) Tryd.func7
    (witness_row_at (enc := enc) (C := Tryd.checked) false (laidWorld os) #[.agg #[.int .u64 0, .int .u64 0, .int .u64 0, .int .u64 0, .int .i64 0], .int .u16 0, .int .u32 0] rfl (by kernel_rfl) (by kernel_rfl) (by kernel_rfl)
      (OpenSpec.preRow_of_cond 8 hx (by kernel_rfl) (fun k hk => by cases hk) (by kernel_rfl) (laid_met os))) ?_
  intro W base args ds gs before hval hW _ _ _ hL _ _
  exact contract H enc W base args ds gs before hval hW hL

theorem said : Rows.DiskTurnsSaid :=
  OpenClaim.holds_of_cond 7 Tryd.f7 rfl rfl rfl rfl rfl rfl rfl ⟨rfl, rfl, rfl, rfl, rfl⟩ rfl rfl rfl rfl rfl (by kernel_rfl) Tryd.func7 (by kernel_rfl)
    (of_decide_eq_true (by kernel_rfl)) (by unfold Func.isWrapper; first | (rw [if_pos (by decide +kernel)]; kernel_rfl) | (rw [if_neg (by decide +kernel)]; exact ⟨rfl, rfl⟩))
    (fun os started H enc _ F => by rw [OpenClaim.pre_eq_preRow]; exact lifted os started H enc F)

/-- No parameter wants a stand-in; the program's own looks are off. -/
theorem plain (f : FuncId) (fn : Func) (hf : Tryd.pinned.checked.prog.funcNamed "tattle/tattlelaw16.DiskTurns" = some f) (hfn : Tryd.pinned.checked.prog.funcs[f]? = some fn) :
    false = Tryd.pinned.checked.prog.looks [] ∧ ∀ (j : Nat) t, fn.params[j]? = some t → Tryd.pinned.checked.prog.wantsStandIn t = false := by
  obtain rfl : f = 7 := Option.some.inj ((show Tryd.prog.funcNamed "tattle/tattlelaw16.DiskTurns" = some 7 by kernel_rfl).symm.trans hf) |>.symm
  obtain rfl : fn = Tryd.f7 := (Option.some.inj (Tryd.func7.symm.trans hfn)).symm
  refine ⟨by kernel_rfl, fun j t ht => ?_⟩
  rw [Tryd.params7] at ht
  have hm : t ∈ [26, 51, 52] := by simpa using Array.mem_of_getElem? ht
  have hall : ([26, 51, 52].all fun u => !Tryd.prog.wantsStandIn u) = true := by kernel_rfl
  exact (show Tryd.prog.wantsStandIn t = false by simpa using List.all_eq_true.1 hall t hm)

/-- THE CARD. -/
theorem card : Rows.DiskTurnsCardSaid :=
  Claim7.holds_tied_plain_at .later [] _ _ _ _ said (fun _ h => by cases h) (by kernel_rfl) (fun _ h => by cases h) diskTurns_row_tie rfl ⟨rfl, rfl⟩ (by kernel_rfl) rfl plain (by kernel_rfl)
end Go.Proofs.YtlpnhpnigljlnaaDoor.lawTurns
