/-
  The walks of Seal and Open, of the program and of the document.
-/
import Derived.Test.YtlpnhpnigljlnaaDoorSum
import Derived.Test.YtlpnhpnigljlnaaDoorRnum
import Derived.Test.YtlpnhpnigljlnaaDoorText
import Derived.BigQuiet
import Derived.Deep.QuietTactic
namespace Go.Proofs.YtlpnhpnigljlnaaDoor
open Go.RowKit Go.Proofs.YtlpnhpnigljlnaaDoor.Crc

/-- A register's four octets, the lowest first. -/
def four (c : BitVec 32) : List UInt8 := [UInt8.ofNat c.toNat, UInt8.ofNat (c.toNat / 256), UInt8.ofNat (c.toNat / 65536), UInt8.ofNat (c.toNat / 16777216)]
def fourB (c : BitVec 32) : ByteArray := ⟨(four c).toArray⟩
theorem fourB_size (c : BitVec 32) : (fourB c).size = 4 := rfl
/-- Octets, sealed. -/
def sealB (s : ByteArray) : ByteArray := s ++ fourB (crc s.data.toList)

theorem octet_of (n : Nat) : (n : Int) % 256 = ((UInt8.ofNat n).toNat : Int) := by rw [UInt8.toNat_ofNat']; omega
theorem four_text {P : Program} (g : Nat) (src dst : TypeId) (hs : P.underlying src = some (.slice 5)) (he : P.underlying 5 = some (.int .u8)) (hd : P.underlying dst = some .string) (c : BitVec 32)
    (W : World) (h0 : W.cell? ⟨g, 0, none⟩ = some (.int .u8 ((c.toNat : Int) % 256))) (h1 : W.cell? ⟨g, 1, none⟩ = some (.int .u8 ((c.toNat : Int) / 256 % 256)))
    (h2 : W.cell? ⟨g, 2, none⟩ = some (.int .u8 ((c.toNat : Int) / 65536 % 256))) (h3 : W.cell? ⟨g, 3, none⟩ = some (.int .u8 ((c.toNat : Int) / 16777216))) :
    (convert src dst (.slice (some ⟨g, 0, none⟩) 4 4)).run P W = .ok (.string (fourB c)) W :=
  run_convert_bytes_back W src dst 5 ⟨g, 0, none⟩ 4 (four c) hs he hd fun j hj => by
    match j, hj with
    | 0, _ => rw [show ((⟨g, 0, none⟩ : Addr).add 0) = ⟨g, 0, none⟩ from rfl, h0, octet_of]; rfl
    | 1, _ => rw [show ((⟨g, 0, none⟩ : Addr).add 1) = ⟨g, 1, none⟩ from by simp [Addr.add], h1, show ((c.toNat : Int) / 256) = ((c.toNat / 256 : Nat) : Int) by omega, octet_of]; rfl
    | 2, _ => rw [show ((⟨g, 0, none⟩ : Addr).add 2) = ⟨g, 2, none⟩ from by simp [Addr.add], h2, show ((c.toNat : Int) / 65536) = ((c.toNat / 65536 : Nat) : Int) by omega, octet_of]; rfl
    | 3, _ => rw [show ((⟨g, 0, none⟩ : Addr).add 3) = ⟨g, 3, none⟩ from by simp [Addr.add], h3, show ((c.toNat : Int) / 16777216) = ((c.toNat / 16777216 : Nat) : Int) % 256 by have := c.isLt; omega, octet_of]; rfl

set_option maxRecDepth 100000 in
set_option maxHeartbeats 1000000 in
theorem sumtext_any (s : ByteArray) (w : World) (hs : s.size ≤ 140737488351232) (ht : Tab w) :
    Calls Tryd.prog 35 #[.string s] w fun e w' => e = .returned (.string (fourB (crc s.data.toList))) ∧ Below w.heap.size w w' := by
  have HC := Lib.hid (sum_any s w (by unfold maxLen; omega) ht)
  generalize crc s.data.toList = c at *
  clear ht
  have hc := c.isLt
  have hconv := fun g => four_text (P := Tryd.prog) g 49 9 Tryd.underlying49 Tryd.underlying5 Tryd.underlying9 c
  go_enter Tryd.func35, Tryd.ntmps35
  go_wp2_with fail
  refine HC.out.mono ?_
  rintro e w' ⟨rfl, rfl⟩
  go_wp2
  go_ret
  exact ⟨rfl, (Below.refl _ _).alloc (Nat.le_refl _) _⟩

set_option maxRecDepth 100000 in
set_option maxHeartbeats 1000000 in
theorem seal_in (s : ByteArray) (w : World) (hs : s.size ≤ 4096) (ht : Tab w) :
    Calls Tryd.prog 30 #[.string s] w fun e w' => e = .returned (.tuple #[.string (sealB s), .int .i64 0]) ∧ Below w.heap.size w w' := by
  have HC := Lib.hid (sumtext_any s w (by omega) ht)
  have hsz := fourB_size (crc s.data.toList)
  have HE : Hid (sealB s = s ++ fourB (crc s.data.toList)) := Lib.hid rfl
  generalize fourB (crc s.data.toList) = u at *
  have hul : u.size ≤ 4 := Nat.le_of_eq hsz
  clear ht hsz
  go_enter Tryd.func30, Tryd.ntmps30
  go_wp2_with fail
  refine HC.out.mono ?_
  rintro e w' ⟨rfl, hb⟩
  go_wp2
  go_ret2
  exact ⟨ret_text HE.out.symm rfl, hb⟩

set_option maxRecDepth 100000 in
set_option maxHeartbeats 1000000 in
theorem seal_not (s : ByteArray) (w : World) (hs : s.size ≤ 140737488351232) (hl : 4096 < s.size) :
    Calls Tryd.prog 30 #[.string s] w fun e w' => e = .returned (.tuple #[.string ⟨#[]⟩, .int .i64 4]) ∧ w = w' := by
  go_enter Tryd.func30, Tryd.ntmps30
  go_wp2
  go_ret2
  exact ⟨rfl, rfl⟩

theorem slice_from {P : Program} (t : TypeId) (h : P.underlying t = some .string) (s : ByteArray) (h4 : 4 ≤ s.size) (W : World) :
    (Instr.slice t (.string s) (some (.int .i64 ((s.size : Int) - 4))) none none).run P W = .ok (.string (s.extract (s.size - 4) s.size)) W := by
  rw [run_slice_string_from_if (w := W) t s .i64 _ h]
  rw [if_pos ⟨by omega, by omega⟩, show ((s.size : Int) - 4).toNat = s.size - 4 by omega]
theorem slice_to {P : Program} (t : TypeId) (h : P.underlying t = some .string) (s : ByteArray) (h4 : 4 ≤ s.size) (W : World) :
    (Instr.slice t (.string s) none (some (.int .i64 ((s.size : Int) - 4))) none).run P W = .ok (.string (s.extract 0 (s.size - 4))) W := by
  rw [run_slice_string_to_if (w := W) t s .i64 _ h]
  rw [if_pos ⟨by omega, by omega⟩, show ((s.size : Int) - 4).toNat = s.size - 4 by omega]

/-- What opens: the octets without the last four, if these are their sum's. -/
def Opens (s : ByteArray) : Prop := s.extract (s.size - 4) s.size = fourB (crc (s.extract 0 (s.size - 4)).data.toList)

set_option maxRecDepth 100000 in
set_option maxHeartbeats 1000000 in
theorem open_short (s : ByteArray) (w : World) (hs : s.size < 4) :
    Calls Tryd.prog 22 #[.string s] w fun e w' => e = .returned (.tuple #[.string ⟨#[]⟩, .int .i64 3]) ∧ w = w' := by
  go_enter Tryd.func22, Tryd.ntmps22
  go_wp2
  go_ret2
  exact ⟨rfl, rfl⟩
set_option maxRecDepth 100000 in
set_option maxHeartbeats 1000000 in
theorem open_large (s : ByteArray) (w : World) (hs : s.size ≤ 140737488351232) (hl : 4100 < s.size) :
    Calls Tryd.prog 22 #[.string s] w fun e w' => e = .returned (.tuple #[.string ⟨#[]⟩, .int .i64 4]) ∧ w = w' := by
  go_enter Tryd.func22, Tryd.ntmps22
  go_wp2
  go_ret2
  exact ⟨rfl, rfl⟩
theorem text_eq {a b : ByteArray} (h : a.toList = b.toList) : a = b := by
  rw [ByteArray.toList_eq, ByteArray.toList_eq] at h
  exact ByteArray.ext (Array.toList_inj.1 h)

set_option maxRecDepth 100000 in
set_option maxHeartbeats 1000000 in
theorem open_yes (s : ByteArray) (w : World) (h4 : 4 ≤ s.size) (hl : s.size ≤ 4100) (ht : Tab w) (ho : Opens s) :
    Calls Tryd.prog 22 #[.string s] w fun e w' => e = .returned (.tuple #[.string (s.extract 0 (s.size - 4)), .int .i64 0]) ∧ Below w.heap.size w w' := by
  have HC := fun W => sumtext_any (s.extract 0 (s.size - 4)) W (by simp; omega)
  have hfrom := fun W => slice_from (P := Tryd.prog) 9 Tryd.underlying9 s h4 W
  have hto := fun W => slice_to (P := Tryd.prog) 9 Tryd.underlying9 s h4 W
  unfold Opens at ho
  generalize s.extract (s.size - 4) s.size = p at *
  generalize s.extract 0 (s.size - 4) = q at *
  generalize fourB (crc q.data.toList) = u at *
  subst ho
  have hq : (p.toList == p.toList) = true := by simp
  have HC' := Lib.hid HC
  have HT := Lib.hid ht
  clear ht HC
  go_enter Tryd.func22, Tryd.ntmps22
  go_wp2_with fail
  go_region_with (go_at_call 35; refine (HC'.out _ (by exact HT.out)).mono ?_; rintro e w' ⟨rfl, hb⟩)
  all_goals
    go_wp2
    go_ret2
    exact ⟨rfl, (Below.refl _ _).drew.trans hb⟩

set_option maxRecDepth 100000 in
set_option maxHeartbeats 1000000 in
theorem open_no (s : ByteArray) (w : World) (h4 : 4 ≤ s.size) (hl : s.size ≤ 4100) (ht : Tab w) (ho : ¬ Opens s) :
    Calls Tryd.prog 22 #[.string s] w fun e w' => e = .returned (.tuple #[.string ⟨#[]⟩, .int .i64 10]) ∧ Below w.heap.size w w' := by
  have HC := fun W => sumtext_any (s.extract 0 (s.size - 4)) W (by simp; omega)
  have hfrom := fun W => slice_from (P := Tryd.prog) 9 Tryd.underlying9 s h4 W
  have hto := fun W => slice_to (P := Tryd.prog) 9 Tryd.underlying9 s h4 W
  unfold Opens at ho
  generalize s.extract (s.size - 4) s.size = p at *
  generalize s.extract 0 (s.size - 4) = q at *
  generalize fourB (crc q.data.toList) = u at *
  have hq : (p.toList == u.toList) = false := by rw [beq_eq_false_iff_ne]; exact fun h => ho (text_eq h)
  have HC' := Lib.hid HC
  have HT := Lib.hid ht
  clear ht HC ho
  go_enter Tryd.func22, Tryd.ntmps22
  go_wp2_with fail
  go_region_with (go_at_call 35; refine (HC'.out _ (by exact HT.out)).mono ?_; rintro e w' ⟨rfl, hb⟩)
  all_goals
    go_wp2
    go_ret2
    exact ⟨rfl, (Below.refl _ _).drew.trans hb⟩

/-! ### The document's -/
theorem rem_four (c : BitVec 32) : c.toNat / 256 / 256 = c.toNat / 65536 ∧ c.toNat / 256 / 256 / 256 = c.toNat / 16777216 := by omega
/-- The first j of a register's octets. -/
def firstB (c : BitVec 32) (j : Nat) : ByteArray := ⟨((four c).take j).toArray⟩
theorem first_snoc (c : BitVec 32) (j : Nat) (h : j < 4) (s : ByteArray) : s ++ firstB c j ++ ⟨#[UInt8.ofNat (c.toNat / 256 ^ j)]⟩ = s ++ firstB c (j + 1) := by
  rw [ByteArray.append_assoc]
  congr 1
  unfold firstB
  rw [ByteArray.mk_append_mk ((four c).take j) [UInt8.ofNat (c.toNat / 256 ^ j)]]
  congr 2
  rcases (show j = 0 ∨ j = 1 ∨ j = 2 ∨ j = 3 by omega) with rfl | rfl | rfl | rfl <;> simp [four]

set_option maxRecDepth 100000 in
set_option maxHeartbeats 1000000 in
theorem rseal_any (s : ByteArray) (w : World) (hs : s.size ≤ 140737488351232) :
    Calls Tryd.prog 32 #[.string s] w fun e w' => e = .returned (.string (sealB s)) ∧ Below w.heap.size w w' := by
  have HC := Lib.hid (fun W => rsum_any s W (by unfold maxLen; omega))
  have HE : Hid (sealB s = s ++ firstB (crc s.data.toList) 4) := Lib.hid rfl
  generalize crc s.data.toList = c at *
  have hc := c.isLt
  go_enter Tryd.func32, Tryd.ntmps32
  go_wp2_with fail
  refine (HC.out _).mono ?_
  rintro e w' ⟨rfl, rfl⟩
  go_wp2
  go_loopw [0, 3, 4] (fun v r i wr => ∃ (j m : Nat) (t : ByteArray), j ≤ 4 ∧ i = .int .i64 j ∧ r = .int .u32 m ∧ m < 4294967296 ∧ Hid (m = c.toNat / 256 ^ j) ∧ v = .string t ∧ t.size ≤ s.size + j ∧ Hid (t = s ++ firstB c j) ∧ Below w.heap.size w wr) (fun _ _ i _ => 4 - (intOf i).toNat)
  case atStart => exact ⟨0, c.toNat, s, by omega, rfl, rfl, by omega, Lib.hid (by simp), rfl, by omega, Lib.hid (by show s = s ++ ByteArray.empty; simp), Below.refl _ _⟩
  case round =>
    obtain ⟨j, m, t, hj, rfl, rfl, hm, hmj, rfl, ht, htj, hb⟩ := hrel
    by_cases hlt : j < 4
    · have hconv := fun g => one_text (P := Tryd.prog) _ (UInt8.ofNat m) (octet_of m) g 49 9 Tryd.underlying49 Tryd.underlying5 Tryd.underlying9
      have hs1 := Lib.hid (first_snoc c j hlt s)
      go_wp2
      go_roundw
      case rel => exact ⟨j + 1, m / 256, t ++ ⟨#[UInt8.ofNat m]⟩, by omega, by go_num, by go_num, by omega, Lib.hid (by rw [hmj.out, Nat.pow_succ, Nat.div_div_eq_div_mul]), rfl, by rw [ByteArray.size_append]; show t.size + 1 ≤ _; omega, Lib.hid (by rw [htj.out, hmj.out]; exact hs1.out), hb.alloc hb.size _⟩
      case measure => simp [intOf]; omega
    · have hj4 : j = 4 := by omega
      subst hj4
      go_wp2
      go_ret
      exact ⟨ret_str (by rw [HE.out, htj.out]), hb⟩

theorem seal_opens (s : ByteArray) : sealB (s.extract 0 (s.size - 4)) = s ↔ Opens s := by
  unfold sealB Opens
  have hcut : s.extract 0 (s.size - 4) ++ s.extract (s.size - 4) s.size = s := by
    rw [ByteArray.extract_append_extract]; simp
  generalize fourB (crc (s.extract 0 (s.size - 4)).data.toList) = u at *
  constructor
  · intro h
    have h2 := h.trans hcut.symm
    exact (ByteArray.append_right_inj _).1 h2 |>.symm
  · intro h
    rw [← h]; exact hcut

set_option maxRecDepth 100000 in
set_option maxHeartbeats 1000000 in
theorem ropen_short (s : ByteArray) (w : World) (hs : s.size < 4) :
    Calls Tryd.prog 24 #[.string s] w fun e w' => e = .returned (.tuple #[.string ⟨#[]⟩, .int .i64 3]) ∧ w = w' := by
  go_enter Tryd.func24, Tryd.ntmps24
  go_wp2
  go_ret2
  exact ⟨rfl, rfl⟩
set_option maxRecDepth 100000 in
set_option maxHeartbeats 1000000 in
theorem ropen_large (s : ByteArray) (w : World) (hs : s.size ≤ 140737488351232) (hl : 4100 < s.size) :
    Calls Tryd.prog 24 #[.string s] w fun e w' => e = .returned (.tuple #[.string ⟨#[]⟩, .int .i64 4]) ∧ w = w' := by
  go_enter Tryd.func24, Tryd.ntmps24
  go_wp2
  go_ret2
  exact ⟨rfl, rfl⟩
set_option maxRecDepth 100000 in
set_option maxHeartbeats 1000000 in
theorem ropen_yes (s : ByteArray) (w : World) (h4 : 4 ≤ s.size) (hl : s.size ≤ 4100) (ho : Opens s) :
    Calls Tryd.prog 24 #[.string s] w fun e w' => e = .returned (.tuple #[.string (s.extract 0 (s.size - 4)), .int .i64 0]) ∧ Below w.heap.size w w' := by
  have HC := fun W => rseal_any (s.extract 0 (s.size - 4)) W (by simp; omega)
  have hto := fun W => slice_to (P := Tryd.prog) 9 Tryd.underlying9 s h4 W
  have hq : ((sealB (s.extract 0 (s.size - 4))).toList == s.toList) = true := by rw [(seal_opens s).2 ho]; simp
  generalize sealB (s.extract 0 (s.size - 4)) = u at *
  generalize s.extract 0 (s.size - 4) = q at *
  have HC' := Lib.hid HC
  clear HC ho
  go_enter Tryd.func24, Tryd.ntmps24
  go_wp2_with fail
  refine (HC'.out _).mono ?_
  rintro e w' ⟨rfl, hb⟩
  go_wp2
  go_ret2
  exact ⟨rfl, hb⟩
set_option maxRecDepth 100000 in
set_option maxHeartbeats 1000000 in
theorem ropen_no (s : ByteArray) (w : World) (h4 : 4 ≤ s.size) (hl : s.size ≤ 4100) (ho : ¬ Opens s) :
    Calls Tryd.prog 24 #[.string s] w fun e w' => e = .returned (.tuple #[.string ⟨#[]⟩, .int .i64 10]) ∧ Below w.heap.size w w' := by
  have HC := fun W => rseal_any (s.extract 0 (s.size - 4)) W (by simp; omega)
  have hto := fun W => slice_to (P := Tryd.prog) 9 Tryd.underlying9 s h4 W
  have hq : ((sealB (s.extract 0 (s.size - 4))).toList == s.toList) = false := by
    rw [beq_eq_false_iff_ne]; exact fun h => ho ((seal_opens s).1 (text_eq h))
  generalize sealB (s.extract 0 (s.size - 4)) = u at *
  generalize s.extract 0 (s.size - 4) = q at *
  have HC' := Lib.hid HC
  clear HC ho
  go_enter Tryd.func24, Tryd.ntmps24
  go_wp2_with fail
  refine (HC'.out _).mono ?_
  rintro e w' ⟨rfl, hb⟩
  go_wp2
  go_ret2
  exact ⟨rfl, hb⟩
end Go.Proofs.YtlpnhpnigljlnaaDoor
