/-
  WireSums: the sum of octets of which some are turned differs from theirs by what hangs on these, and on how many there are, alone: the law returns true for every input.
-/
import Derived.Test.YtpndijbhopeakaaDoorLaw
import Derived.Test.YtpndijbhopeakaaDoorBoth
import Derived.Test.YtpndijbhopeakaaDoorSpoilt
import Derived.Test.YtpndijbhopeakaaDoorCards
import Derived.Test.YtpndijbhopeakaaDoorTie
import Derived.RegionTactic
import Derived.StillTailTactics
namespace Go.Proofs.YtpndijbhopeakaaDoor.lawSums
open Go.ChangeMaps (open_string)
open Go.ChangeShapes Go.WideShapes Go.ChangeAt Go.RowKit Go.Proofs.YtpndijbhopeakaaDoor.Pure Go.Proofs.YtpndijbhopeakaaDoor.Crc

/-- The octets of two lists, turned by one another: the first k of them, then nought. -/
def both (a b : ByteArray) : List UInt8 := List.zipWith (· ^^^ ·) a.data.toList b.data.toList
def partly (xs : List UInt8) (k j : Nat) : UInt8 := if j < k then xs.getD j 0 else 0
theorem both_len (a b : ByteArray) (h : a.size = b.size) : (both a b).length = a.size := by simp [both, h]
theorem both_at (a b : ByteArray) (h : a.size = b.size) (k : Nat) (hk : k < a.size) (hk' : k < b.size) : bits .xor .u8 (a[k].toNat : Int) (b[k].toNat : Int) = (((both a b).getD k 0).toNat : Int) := by
  have h1 := a[k].toNat_lt
  have h2 := b[k].toNat_lt
  have e : (both a b).getD k 0 = a[k] ^^^ b[k] := by
    have hl : k < (both a b).length := by rw [both_len a b h]; exact hk
    rw [List.getD_eq_getElem?_getD, List.getElem?_eq_getElem hl]
    simp [both]
    rfl
  rw [e, u8_xor_nat _ _ (by omega) (by omega), UInt8.toNat_xor]

/-- Where the two slices lie, and what they hold in round k. -/
structure Rel (w wr : World) (g z n : Nat) (xs : List UInt8) (k : Nat) : Prop where
  cells : ∀ j, j < n → wr.cell? ⟨g, j, none⟩ = some (.int .u8 ((partly xs k j).toNat : Int))
  free : ∀ j, j < n → wr.frozen? ⟨g, j, none⟩ = false
  zeros : ∀ j, j < n → wr.cell? ⟨z, j, none⟩ = some (.int .u8 0)
  below : Below w.heap.size w wr
theorem Rel.next {w wr : World} {g z n : Nat} {xs : List UInt8} {k : Nat} (h : Rel w wr g z n xs k) (hk : k < n) (hg : w.heap.size ≤ g) (hgz : g ≠ z) {X : Int} (hX : X = ((xs.getD k 0).toNat : Int)) :
    Rel w (wr.setCell ⟨g, k, none⟩ (.int .u8 X)) g z n xs (k + 1) := by
  refine ⟨fun j hj => ?_, fun j hj => (World.frozen?_setCell _ _ _ _).trans (h.free j hj), fun j hj => (World.cell?_setCell_other _ _ _ _ (by intro e; cases e; exact hgz rfl)).trans (h.zeros j hj), h.below.setCell hg _⟩
  by_cases e : j = k
  · subst e
    rw [World.cell?_setCell_same _ _ _ (h.cells j hj), hX, partly, if_pos (by omega)]
  · rw [World.cell?_setCell_other _ _ _ _ (by intro h; cases h; exact e rfl), h.cells j hj]
    unfold partly
    by_cases hj' : j < k
    · rw [if_pos hj', if_pos (by omega)]
    · rw [if_neg hj', if_neg (by omega)]
theorem Rel.drew {w wr : World} {g z n : Nat} {xs : List UInt8} {k : Nat} (h : Rel w wr g z n xs k) : Rel w wr.drew g z n xs k := ⟨h.cells, h.free, h.zeros, h.below.drew⟩
theorem Rel.texts {P : Program} {w wr : World} {g z n : Nat} {xs : List UInt8} (h : Rel w wr g z n xs n) (hn : xs.length = n) (src dst : TypeId) (hs : P.underlying src = some (.slice 5)) (he : P.underlying 5 = some (.int .u8)) (hd : P.underlying dst = some .string) :
    (convert src dst (.slice (some ⟨g, 0, none⟩) n n)).run P wr = .ok (.string ⟨xs.toArray⟩) wr ∧ (convert src dst (.slice (some ⟨z, 0, none⟩) n n)).run P wr = .ok (.string ⟨(List.replicate n 0).toArray⟩) wr := by
  constructor
  · have := run_convert_bytes_back (P := P) wr src dst 5 ⟨g, 0, none⟩ n xs hs he hd fun j hj => by
      rw [Addr.add_lit, Nat.zero_add, h.cells j (by omega), partly, if_pos (by omega)]
      simp [List.getD, hj]
    rwa [hn] at this
  · have := run_convert_bytes_back (P := P) wr src dst 5 ⟨z, 0, none⟩ n (List.replicate n 0) hs he hd fun j hj => by
      rw [Addr.add_lit, Nat.zero_add, h.zeros j (by simpa using hj)]
      simp
    rwa [List.length_replicate] at this

/-- What 'make' lays: octets 0. -/
theorem made (n : Nat) (hn : n ≤ 400) : ∃ Z : Array Value, (∀ j, j < n → Z[j]? = some (.int .u8 0)) ∧ ∀ W : World, (Instr.makeSlice 52 (.int .i64 n) (.int .i64 n)).run Tryd.prog W = .ok (.slice (some ⟨W.heap.size, 0, none⟩) n n) (W.alloc (.cells Z 5)) := by
  obtain ⟨i0, hi, hz0, hz1, hz2⟩ := info_parts Tryd.infoOctet
  refine ⟨madeCells (Value.int .u8 0).cells (n * 1), fun j hj => ?_, fun W => ?_⟩
  · unfold madeCells
    simp [hj]
    show (#[Value.int .u8 0] : Array Value)[j % 1]! = _
    simp [Nat.mod_one]
  · have h := run_make (P := Tryd.prog) W 52 5 i0 (.int .u8 0) Tryd.underlying52 hi hz0 .i64 .i64 n n (by omega) (by omega) (by rw [hz2]; omega) (by omega)
    rw [hz1] at h
    simpa using h

theorem rel_begin (w : World) (Z : Array Value) (n : Nat) (xs : List UInt8) (hZ : ∀ j, j < n → Z[j]? = some (.int .u8 0)) :
    Rel w ((w.alloc (.cells Z 5)).alloc (.cells Z 5)) w.heap.size (w.heap.size + 1) n xs 0 ∧ Rel w ((w.alloc (.cells Z 5)).alloc (.cells Z 5)) (w.heap.size + 1) w.heap.size n xs 0 := by
  have hb : Below w.heap.size w ((w.alloc (.cells Z 5)).alloc (.cells Z 5)) := ((Below.refl _ _).alloc (Nat.le_refl _) _).alloc (by simp) _
  have c0 : ∀ j, j < n → ((w.alloc (.cells Z 5)).alloc (.cells Z 5)).cell? ⟨w.heap.size, j, none⟩ = some (.int .u8 0) := fun j hj => by
    rw [World.cell?_alloc_lt _ _ _ (by simp), World.cell?_alloc_new]; exact hZ j hj
  have c1 : ∀ j, j < n → ((w.alloc (.cells Z 5)).alloc (.cells Z 5)).cell? ⟨w.heap.size + 1, j, none⟩ = some (.int .u8 0) := fun j hj => by
    have h := World.cell?_alloc_new (w.alloc (.cells Z 5)) Z 5 j
    rw [show (w.alloc (.cells Z 5)).heap.size = w.heap.size + 1 by simp] at h
    rw [h]; exact hZ j hj
  have f0 : ∀ j, ((w.alloc (.cells Z 5)).alloc (.cells Z 5)).frozen? ⟨w.heap.size, j, none⟩ = false := fun j => by
    rw [World.frozen?_alloc_old _ _ _ (by simp)]
    exact (World.frozen?_alloc_mark w Z 5 0 0 j).trans (by simp)
  have f1 : ∀ j, ((w.alloc (.cells Z 5)).alloc (.cells Z 5)).frozen? ⟨w.heap.size + 1, j, none⟩ = false := fun j => by
    have h := World.frozen?_alloc_mark (w.alloc (.cells Z 5)) Z 5 0 0 j
    rw [show (w.alloc (.cells Z 5)).heap.size = w.heap.size + 1 by simp] at h
    exact h.trans (by simp)
  exact ⟨⟨fun j hj => by rw [c0 j hj]; simp [partly], fun j _ => f0 j, c1, hb⟩, ⟨fun j hj => by rw [c1 j hj]; simp [partly], fun j _ => f1 j, c0, hb⟩⟩

set_option maxRecDepth 100000 in
set_option maxHeartbeats 4000000 in
theorem walk (a0 b0 a b a1 b1 : ByteArray) (w : World) (HF : Hid (∀ W, Calls Tryd.prog 10 #[.string a0] W fun e w' => e = .returned (.string a) ∧ W = w')) (HG : Hid (∀ W, Calls Tryd.prog 10 #[.string b0] W fun e w' => e = .returned (.string b) ∧ W = w'))
    (hsa : a.size ≤ 400) (hcut : (b.size < a.size ∧ ∀ W : World, (Instr.slice 9 (.string a) none (some (.int .i64 b.size)) none).run Tryd.prog W = .ok (.string a1) W) ∨ (a.size ≤ b.size ∧ a1 = a))
    (hcut1 : ∀ W : World, (Instr.slice 9 (.string b) none (some (.int .i64 a1.size)) none).run Tryd.prog W = .ok (.string b1) W) (hs1 : a1.size ≤ 400) (hab : a1.size ≤ b1.size) (hab' : b1.size ≤ a1.size) (ht : Tab w) :
    Calls Tryd.prog 8 #[.string a0, .string b0] w fun e w' => e = .returned (.bool true) ∧ Below w.heap.size w w' := by
  obtain ⟨Z, hZ, hmk⟩ := made a1.size hs1
  have HT := Lib.hid ht
  have hab1 : a1.size = b1.size := by omega
  have hlen := both_len a1 b1 hab1
  have HX := Lib.hid (both_at a1 b1 hab1)
  have hlin := crc_linear a1.data.toList b1.data.toList (by simpa using hab1)
  have HR := Lib.hid (rel_begin w Z a1.size (both a1 b1) hZ)
  have S1 := Lib.hid (fun W (h : Tab W) => sum_any a1 W (by unfold maxLen; omega) h)
  have S2 := Lib.hid (fun W (h : Tab W) => sum_any b1 W (by unfold maxLen; omega) h)
  have S3 := Lib.hid (fun W (h : Tab W) => sum_any ⟨(both a1 b1).toArray⟩ W (by show (both a1 b1).toArray.size ≤ _; unfold maxLen; simp; omega) h)
  have S4 := Lib.hid (fun W (h : Tab W) => sum_any ⟨(List.replicate a1.size 0).toArray⟩ W (by show (List.replicate a1.size (0 : UInt8)).toArray.size ≤ _; unfold maxLen; simp; omega) h)
  have e4 : a1.data.toList.length = a1.size := by simp
  rw [e4] at hlin
  have hgd : (bits .xor .u32 ((crc a1.data.toList).toNat : Int) ((crc b1.data.toList).toNat : Int) == bits .xor .u32 ((crc (both a1 b1)).toNat : Int) ((crc (List.replicate a1.size 0)).toNat : Int)) = true := by
    rw [u32_xor_bv, u32_xor_bv, beq_iff_eq]
    exact congrArg (fun v : BitVec 32 => (v.toNat : Int)) hlin
  have HL := Lib.hid hlen
  have HA := Lib.hid hab1
  simp only at S3 S4
  generalize both a1 b1 = xs at *
  clear hlin e4 hlen hab1 ht
  generalize crc a1.data.toList = c1 at *
  generalize crc b1.data.toList = c2 at *
  generalize hc3 : crc xs = c3 at *
  generalize crc (List.replicate a1.size 0) = c4 at *
  clear hc3
  obtain ⟨u3, hu3⟩ : ∃ u : ByteArray, u = ⟨xs.toArray⟩ := ⟨_, rfl⟩
  obtain ⟨u4, hu4⟩ : ∃ u : ByteArray, u = ⟨(List.replicate a1.size 0).toArray⟩ := ⟨_, rfl⟩
  rw [← hu3] at S3
  rw [← hu4] at S4
  have HV : Hid (∀ (wr : World) (g z : Nat), Rel w wr g z a1.size xs a1.size → (convert 52 9 (.slice (some ⟨g, 0, none⟩) a1.size a1.size)).run Tryd.prog wr = .ok (.string u3) wr ∧ (convert 52 9 (.slice (some ⟨z, 0, none⟩) a1.size a1.size)).run Tryd.prog wr = .ok (.string u4) wr) := by
    intro wr g z h
    rw [hu3, hu4]
    exact h.texts HL.out _ _ Tryd.underlying52 Tryd.underlying5 Tryd.underlying9
  clear hu3 hu4
  have hd : a.size ≤ b.size → decide (b.size < a.size) = false := fun h => by simp; omega
  rcases hcut with ⟨hlt, hc⟩ | ⟨hle, rfl⟩
  all_goals
    first
      | have hd := hd hle
      | clear hd
    go_enter Tryd.func8, Tryd.ntmps8
    go_wp2_with fail
    refine (HF.out _).mono ?_
    rintro e w' ⟨rfl, rfl⟩
    go_wp2_with fail
    refine (HG.out _).mono ?_
    rintro e w' ⟨rfl, rfl⟩
    go_wp2_with fail
    go_region
    · have R0 := Lib.hid (HR.out.1.drew)
      go_wp2_with fail
      go_loopw [7] (fun i wr => ∃ k : Nat, k ≤ a1.size ∧ i = .int .i64 k ∧ Hid (Rel w wr w.heap.size (w.heap.size + 1) a1.size xs k)) (fun i _ => a1.size - (intOf i).toNat)
      case atStart => exact ⟨0, Nat.zero_le _, rfl, R0⟩
      case round =>
        obtain ⟨k, hk, rfl, hR⟩ := hrel
        by_cases hlt : k < a1.size
        · have hc := hR.out.cells k hlt
          have hf := hR.out.free k hlt
          have hx := Lib.hid (HX.out k hlt (by omega))
          have hlt1 : (k : Int) < (a1.size : Int) := by omega
          have hlt2 : (k : Int) < (b1.size : Int) := by omega
          have hlt3 : k < b1.size := by omega
          go_wp2_with fail
          go_region
          go_wp2_with fail
          go_roundw
          case rel => exact ⟨k + 1, by omega, by go_num, Lib.hid ((hR.out.next hlt (by omega) (by omega) hx.out).drew)⟩
          case measure => simp [intOf]; omega
        · have hkn : k = a1.size := by omega
          subst hkn
          have HW := Lib.hid (HT.out.on hR.out.below)
          obtain ⟨hv1, hv2⟩ := HV.out _ _ _ hR.out
          obtain ⟨hv3, hv4⟩ := HV.out _ _ _ hR.out.drew
          go_wp2_with fail
          refine wp_region_still_tail 14 (by kernel_rfl) (by kernel_rfl) ?_
          simp only [List.take_succ_cons, List.take_zero, List.drop_succ_cons, List.drop_zero]
          change wpStill _ _ wr.drew (fun a' => wpList _ _ _ _ a' wr.drew) _ _
          still_step
          still_call ((S1.out wr.drew (by exact HW.out)).mono fun _ _ ⟨h, hw⟩ => ⟨h, hw.symm⟩)
          still_step
          still_call ((S2.out wr.drew (by exact HW.out)).mono fun _ _ ⟨h, hw⟩ => ⟨h, hw.symm⟩)
          still_step
          still_step
          still_step
          still_call ((S3.out wr.drew (by exact HW.out)).mono fun _ _ ⟨h, hw⟩ => ⟨h, hw.symm⟩)
          still_step
          still_step
          still_call ((S4.out wr.drew (by exact HW.out)).mono fun _ _ ⟨h, hw⟩ => ⟨h, hw.symm⟩)
          still_step
          still_step
          still_step
          refine wpStill_nil ?_
          go_wp2_with fail
          refine (awake_any _ (by exact HW.out)).mono ?_
          rintro e w4 ⟨rfl, hb4⟩
          go_wp2_with fail
          go_ret
          exact ⟨rfl, hR.out.below.drew.trans (hb4.mono hR.out.below.size)⟩
    · have R0 := Lib.hid (HR.out.2.drew)
      go_wp2_with fail
      go_loopw [7] (fun i wr => ∃ k : Nat, k ≤ a1.size ∧ i = .int .i64 k ∧ Hid (Rel w wr (w.heap.size + 1) w.heap.size a1.size xs k)) (fun i _ => a1.size - (intOf i).toNat)
      case atStart => exact ⟨0, Nat.zero_le _, rfl, R0⟩
      case round =>
        obtain ⟨k, hk, rfl, hR⟩ := hrel
        by_cases hlt : k < a1.size
        · have hc := hR.out.cells k hlt
          have hf := hR.out.free k hlt
          have hx := Lib.hid (HX.out k hlt (by omega))
          have hlt1 : (k : Int) < (a1.size : Int) := by omega
          have hlt2 : (k : Int) < (b1.size : Int) := by omega
          have hlt3 : k < b1.size := by omega
          go_wp2_with fail
          go_region
          go_wp2_with fail
          go_roundw
          case rel => exact ⟨k + 1, by omega, by go_num, Lib.hid ((hR.out.next hlt (by omega) (by omega) hx.out).drew)⟩
          case measure => simp [intOf]; omega
        · have hkn : k = a1.size := by omega
          subst hkn
          have HW := Lib.hid (HT.out.on hR.out.below)
          obtain ⟨hv1, hv2⟩ := HV.out _ _ _ hR.out
          obtain ⟨hv3, hv4⟩ := HV.out _ _ _ hR.out.drew
          go_wp2_with fail
          refine wp_region_still_tail 14 (by kernel_rfl) (by kernel_rfl) ?_
          simp only [List.take_succ_cons, List.take_zero, List.drop_succ_cons, List.drop_zero]
          change wpStill _ _ wr.drew (fun a' => wpList _ _ _ _ a' wr.drew) _ _
          still_step
          still_call ((S1.out wr.drew (by exact HW.out)).mono fun _ _ ⟨h, hw⟩ => ⟨h, hw.symm⟩)
          still_step
          still_call ((S2.out wr.drew (by exact HW.out)).mono fun _ _ ⟨h, hw⟩ => ⟨h, hw.symm⟩)
          still_step
          still_step
          still_step
          still_call ((S3.out wr.drew (by exact HW.out)).mono fun _ _ ⟨h, hw⟩ => ⟨h, hw.symm⟩)
          still_step
          still_step
          still_call ((S4.out wr.drew (by exact HW.out)).mono fun _ _ ⟨h, hw⟩ => ⟨h, hw.symm⟩)
          still_step
          still_step
          still_step
          refine wpStill_nil ?_
          go_wp2_with fail
          refine (awake_any _ (by exact HW.out)).mono ?_
          rintro e w4 ⟨rfl, hb4⟩
          go_wp2_with fail
          go_ret
          exact ⟨rfl, hR.out.below.drew.trans (hb4.mono hR.out.below.size)⟩
theorem slice_upto {P : Program} (t : TypeId) (h : P.underlying t = some .string) (s : ByteArray) (j : Nat) (hj : j ≤ s.size) (W : World) :
    (Instr.slice t (.string s) none (some (.int .i64 j)) none).run P W = .ok (.string (s.extract 0 j)) W := by
  rw [run_slice_string_to_if (w := W) t s .i64 _ h, if_pos ⟨by omega, by omega⟩, Int.toNat_natCast]

theorem run_walk (a0 b0 : ByteArray) (w : World) (ha : a0.size ≤ maxLen) (hb : b0.size ≤ maxLen) (ht : Tab w) :
    Calls Tryd.prog 8 #[.string a0, .string b0] w fun e w' => e = .returned (.bool true) ∧ Below w.heap.size w w' := by
  have sa := few_size a0
  have sb := few_size b0
  have HF := Lib.hid (fun W => few_is a0 W ha)
  have HG := Lib.hid (fun W => few_is b0 W hb)
  generalize fewB a0 = a at *
  generalize fewB b0 = b at *
  rcases Nat.lt_or_ge b.size a.size with h | h
  · have h1 : (a.extract 0 b.size).size = b.size := by simp; omega
    exact walk a0 b0 a b (a.extract 0 b.size) (b.extract 0 (a.extract 0 b.size).size) w HF HG sa (.inl ⟨h, fun W => slice_upto _ Tryd.underlying9 a b.size (by omega) W⟩)
      (fun W => slice_upto _ Tryd.underlying9 b _ (by omega) W) (by omega) (by rw [h1]; simp) (by rw [h1]; simp) ht
  · have h1 : (b.extract 0 a.size).size = a.size := by simp; omega
    exact walk a0 b0 a b a (b.extract 0 a.size) w HF HG sa (.inr ⟨h, rfl⟩) (fun W => slice_upto _ Tryd.underlying9 b _ (by omega) W) sa (by omega) (by omega) ht

theorem parOk : ∀ t ∈ (#[9, 9] : Array TypeId).toList, Tryd.prog.readableRec t = true ∧ t < Tryd.prog.types.size := by
  have hall : ([9, 9].all fun t => Tryd.prog.readableRec t && decide (t < Tryd.prog.types.size)) = true := by kernel_rfl
  intro t ht
  simpa using List.all_eq_true.1 hall t ht

/-- What the walk gives, for every argument and every world that holds the table. -/
theorem contract (H : Type) (enc : TypeId × Value → H) (W : World) (base : Nat) (args : Array Value) (ds gs : List (DataW H)) (before : List MemPlace)
    (hval : ∀ (j : Nat) t v, Tryd.f8.params[j]? = some t → args[j]? = some v → Value.okWide Tryd.prog W .any base t v)
    (hW : DataW.Whole enc Tryd.prog Tryd.f8.params.toList Rows.wireSumsSpec.vars false W args.toList ds gs before) (hL : laidMetH Tryd.prog Rows.wireSumsRow.laid W) :
    Calls Tryd.prog 8 args W fun e W' => ∃ v, e = .returned v ∧ Rows.wireSumsSpec.post enc Tryd.prog Tryd.f8 false true false false W args v W' := by
  have hW' := hW
  obtain ⟨p, q, hA0, hV, rfl, hfz, hnd⟩ := hW
  have hA : DataW.TrodAll enc Tryd.prog W 0 (fun _ => true) true Tryd.f8.params.toList args.toList ds p := hA0
  rw [Tryd.params8] at hA hval
  obtain ⟨v0, vs0, d0, ds0, p0, q0, hargs, rfl, rfl, h0, r0⟩ := trodAll_cons hA
  obtain ⟨v1, vs1, d1, ds1, p1, q1, rfl, rfl, rfl, h1, r1⟩ := trodAll_cons r0
  obtain ⟨rfl, rfl, rfl⟩ := trodAll_nil r1
  obtain rfl : args = #[v0, v1] := by cases args; simp_all
  obtain ⟨rfl, rfl⟩ := trodVars_none hV
  obtain ⟨a, rfl, rfl, rfl, ha⟩ := open_string Tryd.underlying9 (hval 0 9 v0 rfl rfl) h0
  obtain ⟨b, rfl, rfl, rfl, hb⟩ := open_string Tryd.underlying9 (hval 1 9 v1 rfl rfl) h1
  clear hA0
  refine (run_walk a b W ha hb (tab_of_laid hL)).mono fun e W' ⟨he, hb⟩ => ?_
  subst he
  exact ⟨_, rfl, law_post rfl (by rw [Tryd.params8]; exact parOk) rfl hW' rfl rfl rfl hb⟩

theorem laid_met (os : Os) : laidMet Tryd.prog Rows.wireSumsRow.laid ((laidWorld os).forCall (fun _ _ => 0) ⟨#[], #[.string ⟨#[]⟩, .string ⟨#[]⟩], []⟩).memory :=
  laidMet_of_run' 8 (by kernel_rfl) (by kernel_rfl)
theorem reads (os : Os) {H : Type} (enc : TypeId × Value → H) : ∃ places, DataW.whole enc Tryd.prog ((laidWorld os).forCall (fun _ _ => 0) ⟨#[], #[.string ⟨#[]⟩, .string ⟨#[]⟩], []⟩).memory Tryd.f8.params.toList Rows.wireSumsSpec.vars false (#[.string ⟨#[]⟩, .string ⟨#[]⟩] : Array Value).toList 8 = some ([.lit (.string []), .lit (.string [])], [], places) :=
  ⟨[], by kernel_rfl⟩

set_option maxRecDepth 100000 in
theorem lifted (os : Os) (started : os.Started) (H : Type) (enc : TypeId × Value → H) (F : Stop.Interp) :
    ReturnsInHanded {} Tryd.checked os 8 .any ((OpenSpec.ofChange Rows.wireSumsSpec).preRow enc Tryd.prog Tryd.f8 Rows.wireSumsRow.domain false Rows.wireSumsRow.laid) (((OpenSpec.ofChange Rows.wireSumsSpec).at F).post enc Tryd.prog Tryd.f8 false true false false) := by
  obtain ⟨places, hx⟩ := reads os enc
  refine returnsInHanded_of_row (C := Tryd.checked) (s := OpenSpec.ofChange Rows.wireSumsSpec) own started (by kernel_rfl) Tryd.func8
    (witness_row_at (enc := enc) (C := Tryd.checked) false (laidWorld os) #[.string ⟨#[]⟩, .string ⟨#[]⟩] rfl (by kernel_rfl) (by kernel_rfl) (by kernel_rfl)
      (OpenSpec.preRow_of_cond 8 hx (by kernel_rfl) (fun k hk => by cases hk) (by kernel_rfl) (laid_met os))) ?_
  intro W base args ds gs before hval hW _ _ _ hL _ _
  exact contract H enc W base args ds gs before hval hW hL

theorem said : Rows.WireSumsSaid :=
  OpenClaim.holds_of_cond 8 Tryd.f8 rfl rfl rfl rfl rfl rfl rfl ⟨rfl, rfl, rfl, rfl, rfl⟩ rfl rfl rfl rfl rfl (by kernel_rfl) Tryd.func8 (by kernel_rfl)
    (of_decide_eq_true (by kernel_rfl)) (by unfold Func.isWrapper; first | (rw [if_pos (by decide +kernel)]; kernel_rfl) | (rw [if_neg (by decide +kernel)]; exact ⟨rfl, rfl⟩))
    (fun os started H enc _ F => by rw [OpenClaim.pre_eq_preRow]; exact lifted os started H enc F)

/-- No parameter wants a stand-in; the program's own looks are off. -/
theorem plain (f : FuncId) (fn : Func) (hf : Tryd.pinned.checked.prog.funcNamed "tattle/tattlelaw01.WireSums" = some f) (hfn : Tryd.pinned.checked.prog.funcs[f]? = some fn) :
    false = Tryd.pinned.checked.prog.looks [] ∧ ∀ (j : Nat) t, fn.params[j]? = some t → Tryd.pinned.checked.prog.wantsStandIn t = false := by
  obtain rfl : f = 8 := Option.some.inj ((show Tryd.prog.funcNamed "tattle/tattlelaw01.WireSums" = some 8 by kernel_rfl).symm.trans hf) |>.symm
  obtain rfl : fn = Tryd.f8 := (Option.some.inj (Tryd.func8.symm.trans hfn)).symm
  refine ⟨by kernel_rfl, fun j t ht => ?_⟩
  rw [Tryd.params8] at ht
  have hm : t ∈ [9, 9] := by simpa using Array.mem_of_getElem? ht
  have hall : ([9, 9].all fun u => !Tryd.prog.wantsStandIn u) = true := by kernel_rfl
  exact (show Tryd.prog.wantsStandIn t = false by simpa using List.all_eq_true.1 hall t hm)

/-- THE CARD. -/
theorem card : Rows.WireSumsCardSaid :=
  Claim7.holds_tied_plain_at .later [] _ _ _ _ said (fun _ h => by cases h) (by kernel_rfl) (fun _ h => by cases h) wireSums_row_tie rfl ⟨rfl, rfl⟩ (by kernel_rfl) rfl plain (by kernel_rfl)
end Go.Proofs.YtpndijbhopeakaaDoor.lawSums
