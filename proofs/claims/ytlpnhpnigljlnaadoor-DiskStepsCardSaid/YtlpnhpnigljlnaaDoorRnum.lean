/-
  The walk of the document's Num, which calls itself, and of its Nums.
-/
import Derived.Test.YtlpnhpnigljlnaaDoorNum
import Derived.Deep.RegionWith
namespace Go.Proofs.YtlpnhpnigljlnaaDoor
open Go.RowKit Go.Proofs.YtlpnhpnigljlnaaDoor.Pure

theorem ret_str {a b : ByteArray} (h : a = b) : Ending.returned (.string a) = .returned (.string b) := by rw [h]

/-- A slice of one octet as a text. -/
theorem one_text {P : Program} (X : Int) (o : UInt8) (hX : X = (o.toNat : Int)) (g : Nat) (src dst : TypeId) (hs : P.underlying src = some (.slice 5)) (he : P.underlying 5 = some (.int .u8)) (hd : P.underlying dst = some .string)
    (W : World) (hc : W.cell? ⟨g, 0, none⟩ = some (.int .u8 X)) : (convert src dst (.slice (some ⟨g, 0, none⟩) 1 1)).run P W = .ok (.string ⟨#[o]⟩) W := by
  subst hX
  exact run_convert_bytes_back W src dst 5 ⟨g, 0, none⟩ 1 [o] hs he hd fun j hj => by
    match j, hj with
    | 0, _ => simpa [Addr.add] using hc

theorem div_in (n : Nat) (h : n < 2 ^ 64) : IntKind.u64.wrap ((n : Int) / 128) = ((n / 128 : Nat) : Int) := by
  rw [IntWalk.u64_in _ ⟨by omega, by omega⟩]; omega
theorem octet_rem (n : Nat) : IntKind.u8.wrap (IntKind.u64.wrap ((n : Int).tmod 128 + 128)) = ((UInt8.ofNat (n % 128 + 128)).toNat : Int) := by
  rw [IntWalk.rem_in _ _ (by omega), IntWalk.u64_in _ ⟨by omega, by omega⟩, IntWalk.u8_in _ ⟨by omega, by omega⟩, UInt8.toNat_ofNat']; omega

theorem join_text (n f : Nat) (h : 128 ≤ n) : (ByteArray.mk #[UInt8.ofNat (n % 128) + 128] ++ ByteArray.mk (numF (f + 1) (n / 128)).toArray) = ⟨(numF (f + 1 + 1) n).toArray⟩ := by
  rw [ByteArray.mk_append_mk [UInt8.ofNat (n % 128) + 128] (numF (f + 1) (n / 128))]
  conv => rhs; rw [numF, if_neg (by omega)]
  simp

set_option maxRecDepth 100000 in
set_option maxHeartbeats 1000000 in
theorem rnum_any (f : Nat) : ∀ (n : Nat) (w : World), f ≤ 9 → n < 128 ^ (f + 1) → n < 2 ^ 64 →
    Calls Tryd.prog 33 #[.int .u64 n] w fun e w' => e = .returned (.string ⟨(numF (f + 1) n).toArray⟩) ∧ Below w.heap.size w w' := by
  induction f with
  | zero =>
    intro n w hf hn _
    have hn' : n < 128 := by simpa using hn
    have hconv := one_text (P := Tryd.prog) (n : Int) (UInt8.ofNat n) (octet_last n hn') w.heap.size 49 9 Tryd.underlying49 Tryd.underlying5 Tryd.underlying9
    clear hn
    go_enter Tryd.func33, Tryd.ntmps33
    go_wp2_with fail
    go_ret
    exact ⟨ret_str (by simp [numF, hn']), (Below.refl _ _).alloc (Nat.le_refl _) _⟩
  | succ f ih =>
    intro n w hf hn h64
    by_cases hn' : n < 128
    · have hconv := one_text (P := Tryd.prog) (n : Int) (UInt8.ofNat n) (octet_last n hn') w.heap.size 49 9 Tryd.underlying49 Tryd.underlying5 Tryd.underlying9
      clear hn ih
      go_enter Tryd.func33, Tryd.ntmps33
      go_wp2_with fail
      go_ret
      exact ⟨ret_str (by simp [numF, hn']), (Below.refl _ _).alloc (Nat.le_refl _) _⟩
    · have IH := Lib.hid ih
      clear ih
      have hlen := numF_len (f + 1) (n / 128)
      have hq : n / 128 < 128 ^ (f + 1) := by rw [Nat.pow_succ] at hn; omega
      clear hn
      have hdiv := div_in n h64
      have hconv := fun g => one_text (P := Tryd.prog) _ (UInt8.ofNat (n % 128 + 128)) (octet_rem n) g 49 9 Tryd.underlying49 Tryd.underlying5 Tryd.underlying9
      go_enter Tryd.func33, Tryd.ntmps33
      go_wp2_with fail
      go_region_with (go_at_call 33; refine (IH.out (n / 128) _ (by omega) hq (by omega)).mono ?_; rintro e w' ⟨rfl, hb⟩; have hcl := hb.cell (p := ⟨w.heap.size, 0, none⟩))
      all_goals
        go_wp2
        go_ret
        refine ⟨ret_str (join_text n f (by omega)), ?_⟩
        first
          | exact (((Below.refl _ _).alloc (Nat.le_refl _) _).drew).trans (hb.mono (by simp))
          | exact (((Below.refl _ _).drew).trans (hb.mono (Nat.le_refl _))).alloc hb.size _

theorem rnum_one (n : Nat) (w : World) (h : n < 2 ^ 64) :
    Calls Tryd.prog 33 #[.int .u64 n] w fun e w' => e = .returned (.string ⟨(num n).toArray⟩) ∧ Below w.heap.size w w' :=
  rnum_any 9 n w (by omega) (by have : (128 : Nat) ^ 10 = 2 ^ 70 := by decide
                                omega) h

theorem nums_join (a b : List UInt8) : (ByteArray.mk a.toArray ++ ByteArray.mk b.toArray) = ⟨(a ++ b).toArray⟩ := ByteArray.mk_append_mk a b

set_option maxRecDepth 100000 in
set_option maxHeartbeats 1000000 in
theorem rnums_any (A : Option Addr) (cap : Nat) (zs : List Nat) (w : World) (hl : zs.length ≤ 1000) (hz : ∀ z ∈ zs, z < 2 ^ 64) (hc : Nums64 w A zs) :
    Calls Tryd.prog 31 #[.slice A zs.length cap] w fun e w' => e = .returned (.string ⟨(nums zs).toArray⟩) ∧ Below w.heap.size w w' := by
  have Hz := Lib.hid hz
  have Hc := Lib.hid hc
  clear hz hc
  go_enter Tryd.func31, Tryd.ntmps31
  go_wp2
  go_loopw [3, 4] (fun v i wr => ∃ (k : Nat) (t : ByteArray), k ≤ zs.length ∧ i = .int .i64 k ∧ v = .string t ∧ t.size ≤ 10 * k ∧ Hid (t = ⟨(nums (zs.take k)).toArray⟩) ∧ Below w.heap.size w wr) (fun _ i _ => zs.length - (intOf i).toNat)
  case atStart => exact ⟨0, ⟨#[]⟩, Nat.zero_le _, rfl, rfl, Nat.le_refl _, Lib.hid rfl, Below.refl _ _⟩
  case round =>
    obtain ⟨k, t, hk, rfl, rfl, hts, ht, hb⟩ := hrel
    by_cases hlt : k < zs.length
    · obtain ⟨ad, rfl, hbk, hcell⟩ := Hc.out k hlt
      have hcr := (hb.cell (p := ad.add k) (by rw [block_of_add]; exact hbk)).trans hcell
      have hs := nums_snoc zs k hlt
      have hz64 := Hz.out zs[k] (List.getElem_mem hlt)
      have hget : zs.getD k 0 = zs[k] := by simp [List.getD, hlt]
      rw [hget] at hcr
      have HS := Lib.hid hs
      generalize hzk : zs[k] = z at *
      have HK := Lib.hid hzk
      clear hs hget hcell hzk
      obtain ⟨u, hu⟩ : ∃ u : ByteArray, u = ⟨(num z).toArray⟩ := ⟨_, rfl⟩
      have hul : u.size ≤ 10 := by rw [hu]; show (num z).toArray.size ≤ 10; simpa using num_le z
      have HU := Lib.hid hu
      have hcall := fun W => rnum_one z W hz64
      rw [← hu] at hcall
      have HC := Lib.hid hcall
      clear hu hcall
      go_wp2_with (go_at_call 33; refine (HC.out _).mono ?_; rintro e w' ⟨rfl, hb'⟩)
      go_roundw
      case rel => exact ⟨k + 1, t ++ u, by omega, by go_num, rfl, by simp; omega, Lib.hid (by rw [ht.out, HU.out, HS.out, nums_join]), hb.trans (hb'.mono hb.size)⟩
      case measure => simp [intOf]; omega
    · have hkl : k = zs.length := by omega
      subst hkl
      go_wp2
      go_ret
      exact ⟨ret_str (by rw [ht.out, List.take_length]), hb⟩
end Go.Proofs.YtlpnhpnigljlnaaDoor
