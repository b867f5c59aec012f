/-
  WireTurns: what is spoilt is found: sealed octets of which some are turned of 32 bits that stand beside one another are not opened, but as they were they are: the law returns true for every input.
-/
import Derived.Test.YtpndijbhopeakaaDoorLaw
import Derived.Test.YtpndijbhopeakaaDoorBoth
import Derived.Test.YtpndijbhopeakaaDoorTurn
import Derived.Test.YtpndijbhopeakaaDoorTurnMath
import Derived.Test.YtpndijbhopeakaaDoorCards
import Derived.Test.YtpndijbhopeakaaDoorTie
namespace Go.Proofs.YtpndijbhopeakaaDoor.lawTurns
open Go.ChangeMaps (open_string)
open Go.ChangeShapes Go.WideShapes Go.ChangeAt Go.RowKit Go.Proofs.YtpndijbhopeakaaDoor.Pure Go.Proofs.YtpndijbhopeakaaDoor.Crc

theorem four_is (c : BitVec 32) (x0 x1 x2 x3 : UInt8) : [x0, x1, x2, x3] = four c ↔ BitVec.ofNat 32 (x0.toNat + 256 * x1.toNat + 65536 * x2.toNat + 16777216 * x3.toNat) = c := by
  have h0 := x0.toNat_lt
  have h1 := x1.toNat_lt
  have h2 := x2.toNat_lt
  have h3 := x3.toNat_lt
  have hc := c.isLt
  unfold four
  constructor
  · intro h
    simp only [List.cons.injEq, and_true] at h
    obtain ⟨e0, e1, e2, e3⟩ := h
    apply BitVec.eq_of_toNat_eq
    rw [BitVec.toNat_ofNat, Nat.mod_eq_of_lt (by omega), e0, e1, e2, e3, UInt8.toNat_ofNat', UInt8.toNat_ofNat', UInt8.toNat_ofNat', UInt8.toNat_ofNat']
    omega
  · intro h
    have e := congrArg BitVec.toNat h
    rw [BitVec.toNat_ofNat, Nat.mod_eq_of_lt (by omega)] at e
    rw [← e]
    simp only [List.cons.injEq, and_true]
    refine ⟨?_, ?_, ?_, ?_⟩ <;> (apply UInt8.toNat_inj.1; rw [UInt8.toNat_ofNat']; omega)
theorem tail_four (l : List UInt8) (h : l.length = 4) : ∃ x0 x1 x2 x3, l = [x0, x1, x2, x3] := by
  match l, h with
  | [x0, x1, x2, x3], _ => exact ⟨x0, x1, x2, x3, rfl⟩
/-- What opens is what leaves the register done. -/
theorem opens_iff (z : ByteArray) (h : 4 ≤ z.size) : Opens z ↔ reg 0xffffffff#32 z.data.toList = done := by
  obtain ⟨l, rfl⟩ : ∃ l : List UInt8, z = ⟨l.toArray⟩ := ⟨z.data.toList, by simp⟩
  have hl : (ByteArray.mk l.toArray).size = l.length := by show l.toArray.size = _; simp
  rw [hl] at h
  obtain ⟨x0, x1, x2, x3, ht⟩ := tail_four (l.drop (l.length - 4)) (by simp; omega)
  have hsplit : l = l.take (l.length - 4) ++ [x0, x1, x2, x3] := by rw [← ht, List.take_append_drop]
  unfold Opens fourB
  rw [hl, ByteArray.extract_mk, ByteArray.extract_mk, ht]
  simp only [List.drop_zero, Nat.sub_zero]
  rw [show l.length - (l.length - 4) = 4 by omega]
  conv => rhs; rw [hsplit]
  rw [sum_is, ← four_is]
  constructor
  · intro e
    have := congrArg (fun b : ByteArray => b.data.toList) e
    simpa using this
  · intro e
    rw [← e]; rfl
theorem seal_size (s : ByteArray) : (sealB s).size = s.size + 4 := by unfold sealB; rw [ByteArray.size_append, fourB_size]
theorem seal_cut (s : ByteArray) : (sealB s).extract 0 ((sealB s).size - 4) = s := by
  rw [seal_size, Nat.add_sub_cancel]
  unfold sealB
  rw [ByteArray.extract_append_eq_left rfl]
theorem seal_open (s : ByteArray) : Opens (sealB s) := (seal_opens (sealB s)).1 (by rw [seal_cut])

theorem bit_is (p k : Nat) (h : p < 2 ^ 32) : bits .and .u32 ((p : Int) / 2 ^ k) 1 = ((p / 2 ^ k % 2 : Nat) : Int) := by
  have e : ((p : Int) / 2 ^ k) = ((p / 2 ^ k : Nat) : Int) := by simp
  have hlt : p / 2 ^ k < 4294967296 := Nat.lt_of_le_of_lt (Nat.div_le_self _ _) h
  have := u32_and_nat (p / 2 ^ k) 1 hlt (by decide)
  rw [e]
  refine this.trans ?_
  rw [nat_mask1]

set_option maxRecDepth 100000 in
set_option maxHeartbeats 4000000 in
theorem walk (s0 : ByteArray) (t p : Nat) (w : World) (hs0 : s0.size ≤ maxLen) (ht16 : t < 65536) (hp : p < 2 ^ 32) (ht : Tab w) :
    Calls Tryd.prog 7 #[.string s0, .int .u16 t, .int .u32 p] w fun e w' => e = .returned (.bool true) ∧ Below w.heap.size w w' := by
  have HF := Lib.hid (fun W => few_is s0 W hs0)
  have hfs := few_size s0
  generalize fewB s0 = s at *
  have HS := Lib.hid (fun W (h : Tab W) => seal_in s W (by omega) h)
  have hx4 := seal_size s
  have HX := Lib.hid ((opens_iff (sealB s) (by omega)).1 (seal_open s))
  have HO : Hid (∀ W, Tab W → Calls Tryd.prog 21 #[.string (sealB s)] W fun e w' => e = .returned (.tuple #[.string s, .int .i64 0]) ∧ Below W.heap.size W w') := fun W h => by
    have := open_yes (sealB s) W (by omega) (by omega) h (seal_open s)
    rwa [seal_cut] at this
  generalize sealB s = x at *
  have hxs : x.size ≤ s.size + 4 ∧ s.size + 4 ≤ x.size := by omega
  have hxl : x.data.toList.length = x.size := by simp
  obtain ⟨fr, hfr⟩ : ∃ fr : Nat, fr = t % (8 * x.size) := ⟨_, rfl⟩
  have hmod : (t : Int) % (8 * (x.size : Int)) = (fr : Int) := by rw [hfr]; simp
  have hfrom : fr < 8 * x.size := by rw [hfr]; exact Nat.mod_lt _ (by omega)
  have hne : ((x.size : Int) != (s.size : Int) + 4) = false := by rw [bne_eq_false_iff_eq]; omega
  have hsp := Spoilt.begin x.data.toList p fr
  have HP := Lib.hid hsp
  have HL := Lib.hid hxl
  have HT := Lib.hid ht
  clear hx4 hsp hxl ht hs0 hfr
  go_enter Tryd.func7, Tryd.ntmps7
  go_wp2_with fail
  refine (HF.out _).mono ?_
  rintro e w' ⟨rfl, rfl⟩
  go_wp2_with fail
  refine (HS.out _ HT.out).mono ?_
  rintro e w1 ⟨rfl, hb1⟩
  go_wp2_with fail
  refine (HO.out _ (HT.out.on hb1)).mono ?_
  rintro e w2 ⟨rfl, hb2⟩
  go_wp2_with fail
  have hb12 := hb1.trans (hb2.mono hb1.size)
  simp only [hmod]
  clear hb1 hb2 hmod
  go_loopw [12, 13] (fun v i wr => ∃ (k : Nat) (z : ByteArray), k ≤ 32 ∧ i = .int .i64 k ∧ v = .string z ∧ z.size ≤ x.size ∧ x.size ≤ z.size ∧ Spoilt x.data.toList z.data.toList p fr k ∧ Below w.heap.size w wr) (fun _ i _ => 32 - (intOf i).toNat)
  case atStart => exact ⟨0, x, by omega, rfl, rfl, by omega, by omega, HP.out, hb12⟩
  case round =>
    obtain ⟨k, z, hk, rfl, rfl, hz1, hz2, hsp, hb⟩ := hrel
    have HZ := Lib.hid hsp
    clear hsp hb12
    by_cases h32 : k < 32
    · rcases Nat.mod_two_eq_zero_or_one (p / 2 ^ k) with h | h
      · have hbit : (bits .and .u32 ((p : Int) / 2 ^ k) 1 == 1) = false := by rw [bit_is p k hp, h]; rfl
        have hoff := Lib.hid (HZ.out.off h)
        clear h
        go_wp2_with fail
        go_roundw
        case rel => exact ⟨k + 1, z, by omega, by go_num, rfl, hz1, hz2, hoff.out, hb⟩
        case measure => simp [intOf]; omega
      · have hbit : (bits .and .u32 ((p : Int) / 2 ^ k) 1 == 1) = true := by rw [bit_is p k hp, h]; rfl
        rcases Nat.lt_or_ge (fr + k) (8 * x.size) with hin | hout
        · have hon := Lib.hid (HZ.out.on h (by rw [HL.out]; exact hin) h32)
          have ht := fun W => turn_in z (fr + k) W (by omega) (by omega)
          have hsz : (⟨(turnL z.data.toList (fr + k)).toArray⟩ : ByteArray).size = z.size := by show (turnL z.data.toList (fr + k)).toArray.size = _; simp [turnL]
          have hls : (⟨(turnL z.data.toList (fr + k)).toArray⟩ : ByteArray).data.toList = turned z.data.toList (fr + k) := by simp; rfl
          generalize (⟨(turnL z.data.toList (fr + k)).toArray⟩ : ByteArray) = z' at *
          rw [← hls] at hon
          have hs1 := Nat.le_of_eq hsz
          have hs2 := Nat.le_of_eq hsz.symm
          simp only [Int.natCast_add] at ht
          have HU := Lib.hid ht
          clear h ht hsz hls
          go_wp2_with fail
          refine (HU.out _).mono ?_
          rintro e w4 ⟨rfl, hb4⟩
          go_wp2_with fail
          go_roundw
          case rel => exact ⟨k + 1, z', by omega, by go_num, rfl, by omega, by omega, hon.out, hb.trans (hb4.mono hb.size)⟩
          case measure => simp [intOf]; omega
        · have hpast := Lib.hid (HZ.out.past (k := k) (by rw [HL.out]; omega))
          have ht := fun W => turn_not z (fr + k) W (by omega) (by omega)
          simp only [Int.natCast_add] at ht
          have HU := Lib.hid ht
          clear h ht
          go_wp2_with fail
          refine (HU.out _).mono ?_
          rintro e w4 ⟨rfl, rfl⟩
          go_wp2_with fail
          go_roundw
          case rel => exact ⟨k + 1, z, by omega, by go_num, rfl, hz1, hz2, hpast.out, hb⟩
          case measure => simp [intOf]; omega
    · have hk32 : k = 32 := by omega
      subst hk32
      have hfound := HZ.out.found HX.out
      have hoi := opens_iff z (by omega)
      by_cases hzx : z = x
      · subst hzx
        have hq : (z.toList == z.toList) = true := by simp
        clear hfound hoi
        go_wp2_with fail
        refine (HO.out _ (HT.out.on hb)).mono ?_
        rintro e w4 ⟨rfl, hb4⟩
        go_wp2_with fail
        refine (awake_any _ ((HT.out.on hb).on (hb4))).mono ?_
        rintro e w5 ⟨rfl, hb5⟩
        go_wp2_with fail
        go_ret
        have c1 := hb.trans (hb4.mono hb.size)
        exact ⟨rfl, c1.trans (hb5.mono c1.size)⟩
      · have hno : ¬ Opens z := by
          rw [hoi, hfound]
          intro e
          exact hzx (ByteArray.ext (Array.toList_inj.1 e))
        have hq : (z.toList == x.toList) = false := by rw [beq_eq_false_iff_ne]; exact fun h => hzx (text_eq h)
        have HN := Lib.hid (fun W (h : Tab W) => open_no z W (by omega) (by omega) h hno)
        clear hfound hoi hno hzx
        go_wp2_with fail
        refine (HN.out _ (HT.out.on hb)).mono ?_
        rintro e w4 ⟨rfl, hb4⟩
        go_wp2_with fail
        refine (awake_any _ ((HT.out.on hb).on (hb4))).mono ?_
        rintro e w5 ⟨rfl, hb5⟩
        go_wp2_with fail
        go_ret
        have c1 := hb.trans (hb4.mono hb.size)
        exact ⟨rfl, c1.trans (hb5.mono c1.size)⟩
theorem run_walk (s : ByteArray) (t p : Int) (w : World) (hs : s.size ≤ maxLen) (h16 : 0 ≤ t ∧ t ≤ 65535) (hp : 0 ≤ p ∧ p ≤ 4294967295) (ht : Tab w) :
    Calls Tryd.prog 7 #[.string s, .int .u16 t, .int .u32 p] w fun e w' => e = .returned (.bool true) ∧ Below w.heap.size w w' := by
  obtain ⟨t, rfl⟩ := Int.eq_ofNat_of_zero_le h16.1
  obtain ⟨p, rfl⟩ := Int.eq_ofNat_of_zero_le hp.1
  exact walk s t p w hs (by omega) (by omega) ht

theorem parOk : ∀ t ∈ (#[9, 49, 43] : Array TypeId).toList, Tryd.prog.readableRec t = true ∧ t < Tryd.prog.types.size := by
  have hall : ([9, 49, 43].all fun t => Tryd.prog.readableRec t && decide (t < Tryd.prog.types.size)) = true := by kernel_rfl
  intro t ht
  simpa using List.all_eq_true.1 hall t ht

/-- What the walk gives, for every argument and every world that holds the table. -/
theorem contract (H : Type) (enc : TypeId × Value → H) (W : World) (base : Nat) (args : Array Value) (ds gs : List (DataW H)) (before : List MemPlace)
    (hval : ∀ (j : Nat) t v, Tryd.f7.params[j]? = some t → args[j]? = some v → Value.okWide Tryd.prog W .any base t v)
    (hW : DataW.Whole enc Tryd.prog Tryd.f7.params.toList Rows.wireTurnsSpec.vars false W args.toList ds gs before) (hL : laidMetH Tryd.prog Rows.wireTurnsRow.laid W) :
    Calls Tryd.prog 7 args W fun e W' => ∃ v, e = .returned v ∧ Rows.wireTurnsSpec.post enc Tryd.prog Tryd.f7 false true false false W args v W' := by
  have hW' := hW
  obtain ⟨p, q, hA0, hV, rfl, hfz, hnd⟩ := hW
  have hA : DataW.TrodAll enc Tryd.prog W 0 (fun _ => true) true Tryd.f7.params.toList args.toList ds p := hA0
  rw [Tryd.params7] at hA hval
  obtain ⟨v0, vs0, d0, ds0, p0, q0, hargs, rfl, rfl, h0, r0⟩ := trodAll_cons hA
  obtain ⟨v1, vs1, d1, ds1, p1, q1, rfl, rfl, rfl, h1, r1⟩ := trodAll_cons r0
  obtain ⟨v2, vs2, d2, ds2, p2, q2, rfl, rfl, rfl, h2, r2⟩ := trodAll_cons r1
  obtain ⟨rfl, rfl, rfl⟩ := trodAll_nil r2
  obtain rfl : args = #[v0, v1, v2] := by cases args; simp_all
  obtain ⟨rfl, rfl⟩ := trodVars_none hV
  obtain ⟨s, rfl, rfl, rfl, hs⟩ := open_string Tryd.underlying9 (hval 0 9 v0 rfl rfl) h0
  obtain ⟨t, rfl, rfl, rfl, wt⟩ := open_int Tryd.underlying49 (hval 1 49 v1 rfl rfl) h1
  obtain ⟨p, rfl, rfl, rfl, wp⟩ := open_int Tryd.underlying43 (hval 2 43 v2 rfl rfl) h2
  clear hA0
  refine (run_walk s t p W hs (by simpa [Lit.wf, IntKind.min, IntKind.max, IntKind.signed, IntKind.bits] using wt) (by simpa [Lit.wf, IntKind.min, IntKind.max, IntKind.signed, IntKind.bits] using wp) (tab_of_laid hL)).mono fun e W' ⟨he, hb⟩ => ?_
  subst he
  exact ⟨_, rfl, law_post rfl (by rw [Tryd.params7]; exact parOk) rfl hW' rfl rfl rfl hb⟩

theorem laid_met (os : Os) : laidMet Tryd.prog Rows.wireTurnsRow.laid ((laidWorld os).forCall (fun _ _ => 0) ⟨#[], #[.string ⟨#[]⟩, .int .u16 0, .int .u32 0], []⟩).memory :=
  laidMet_of_run' 8 (by kernel_rfl) (by kernel_rfl)
theorem reads (os : Os) {H : Type} (enc : TypeId × Value → H) : ∃ places, DataW.whole enc Tryd.prog ((laidWorld os).forCall (fun _ _ => 0) ⟨#[], #[.string ⟨#[]⟩, .int .u16 0, .int .u32 0], []⟩).memory Tryd.f7.params.toList Rows.wireTurnsSpec.vars false (#[.string ⟨#[]⟩, .int .u16 0, .int .u32 0] : Array Value).toList 8 = some ([.lit (.string []), .lit (.int .u16 0), .lit (.int .u32 0)], [], places) :=
  ⟨[], by kernel_rfl⟩

set_option maxRecDepth 100000 in
theorem lifted (os : Os) (started : os.Started) (H : Type) (enc : TypeId × Value → H) (F : Stop.Interp) :
    ReturnsInHanded {} Tryd.checked os 7 .any ((OpenSpec.ofChange Rows.wireTurnsSpec).preRow enc Tryd.prog Tryd.f7 Rows.wireTurnsRow.domain false Rows.wireTurnsRow.laid) (((OpenSpec.ofChange Rows.wireTurnsSpec).at F).post enc Tryd.prog Tryd.f7 false true false false) := by
  obtain ⟨places, hx⟩ := reads os enc
  refine returnsInHanded_of_row (C := Tryd.checked) (s := OpenSpec.ofChange Rows.wireTurnsSpec) own started (by kernel_rfl) Tryd.func7
    (witness_row_at (enc := enc) (C := Tryd.checked) false (laidWorld os) #[.string ⟨#[]⟩, .int .u16 0, .int .u32 0] rfl (by kernel_rfl) (by kernel_rfl) (by kernel_rfl)
      (OpenSpec.preRow_of_cond 8 hx (by kernel_rfl) (fun k hk => by cases hk) (by kernel_rfl) (laid_met os))) ?_
  intro W base args ds gs before hval hW _ _ _ hL _ _
  exact contract H enc W base args ds gs before hval hW hL

theorem said : Rows.WireTurnsSaid :=
  OpenClaim.holds_of_cond 7 Tryd.f7 rfl rfl rfl rfl rfl rfl rfl ⟨rfl, rfl, rfl, rfl, rfl⟩ rfl rfl rfl rfl rfl (by kernel_rfl) Tryd.func7 (by kernel_rfl)
    (of_decide_eq_true (by kernel_rfl)) (by unfold Func.isWrapper; first | (rw [if_pos (by decide +kernel)]; kernel_rfl) | (rw [if_neg (by decide +kernel)]; exact ⟨rfl, rfl⟩))
    (fun os started H enc _ F => by rw [OpenClaim.pre_eq_preRow]; exact lifted os started H enc F)

/-- No parameter wants a stand-in; the program's own looks are off. -/
theorem plain (f : FuncId) (fn : Func) (hf : Tryd.pinned.checked.prog.funcNamed "tattle/tattlelaw01.WireTurns" = some f) (hfn : Tryd.pinned.checked.prog.funcs[f]? = some fn) :
    false = Tryd.pinned.checked.prog.looks [] ∧ ∀ (j : Nat) t, fn.params[j]? = some t → Tryd.pinned.checked.prog.wantsStandIn t = false := by
  obtain rfl : f = 7 := Option.some.inj ((show Tryd.prog.funcNamed "tattle/tattlelaw01.WireTurns" = some 7 by kernel_rfl).symm.trans hf) |>.symm
  obtain rfl : fn = Tryd.f7 := (Option.some.inj (Tryd.func7.symm.trans hfn)).symm
  refine ⟨by kernel_rfl, fun j t ht => ?_⟩
  rw [Tryd.params7] at ht
  have hm : t ∈ [9, 49, 43] := by simpa using Array.mem_of_getElem? ht
  have hall : ([9, 49, 43].all fun u => !Tryd.prog.wantsStandIn u) = true := by kernel_rfl
  exact (show Tryd.prog.wantsStandIn t = false by simpa using List.all_eq_true.1 hall t hm)

/-- THE CARD. -/
theorem card : Rows.WireTurnsCardSaid :=
  Claim7.holds_tied_plain_at .later [] _ _ _ _ said (fun _ h => by cases h) (by kernel_rfl) (fun _ h => by cases h) wireTurns_row_tie rfl ⟨rfl, rfl⟩ (by kernel_rfl) rfl plain (by kernel_rfl)
end Go.Proofs.YtpndijbhopeakaaDoor.lawTurns
