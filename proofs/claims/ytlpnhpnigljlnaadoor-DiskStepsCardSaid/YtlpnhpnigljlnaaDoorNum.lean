/-
  The walk of Num, and of the document's numbers.
-/
import Derived.Test.YtlpnhpnigljlnaaDoorRows
import Derived.Test.YtlpnhpnigljlnaaDoorMath
import Derived.WalkKit
import Derived.Lib.Hide
import Derived.Laws.IdiomStrings
namespace Go.Proofs.YtlpnhpnigljlnaaDoor
open Go.RowKit Go.Proofs.YtlpnhpnigljlnaaDoor.Pure

theorem Tryd.infoOctet : (Tryd.prog.info? 5).map (fun i => (i.zero, i.size, i.bytes)) = some (some (.int .u8 0), 1, 1) := by kernel_rfl

/-- The slice value v is the call's own, and holds these octets. -/
def Own (w : World) (B : Nat) (v : Value) (l : List UInt8) : Prop := w.ownsRow B 5 1 v l.length (l.map fun o => Value.int .u8 (o.toNat : Int))
theorem own_nil (w : World) (B : Nat) : Own w B (.slice none 0 0) [] := World.ownsRow_nil _ _ _ _

theorem own_push {w wr w1 : World} {B : Nat} {v v' : Value} {acc : List UInt8} {X : Int} {o : UInt8} {obj : Obj} (hown : Own wr B v acc) (hB : B ≤ wr.heap.size) (hb : Below B w wr) (hX : X = (o.toNat : Int))
    (h1 : w1.ownsRow B 5 1 v' (acc.length + 1) (acc.map (fun o => Value.int .u8 (o.toNat : Int)) ++ [.int .u8 X])) (hg : (wr.alloc obj).grownBy w1 v.ownBlock) : Own w1 B v' (acc ++ [o]) ∧ Below B w w1 := by
  subst hX
  refine ⟨by unfold Own; simpa using h1, (hb.alloc hB obj).grown hg (by simp; omega) fun k hk => (World.ownsRow.lt hown k hk).1⟩
theorem own_text {P : Program} {w : World} {B : Nat} {v : Value} {acc : List UInt8} (hown : Own w B v acc) (src dst : TypeId) (hs : P.underlying src = some (.slice 5)) (he : P.underlying 5 = some (.int .u8)) (hd : P.underlying dst = some .string) :
    (convert src dst v).run P w = .ok (.string ⟨acc.toArray⟩) w := by
  have hown0 := hown
  obtain ⟨hl, ⟨rfl, hn⟩ | ⟨g, cap, cur, rfl, _, hh, _⟩⟩ := hown
  · have : acc = [] := List.eq_nil_of_length_eq_zero hn
    subst this
    rw [run_convert_bytes_string w src dst 5 _ _ _ hs he hd]
    simp [Conv.bytesToString, Sem.run_pure]
    rfl
  · refine run_convert_bytes_back w src dst 5 ⟨g, 0, none⟩ cap acc hs he hd fun j hj => ?_
    have := World.ownsRow.cells (w := w) (base := B) (e := 5) (size := 1) (v := .slice (some ⟨g, 0, none⟩) acc.length cap) hown0 (g := g) rfl j (.int .u8 (acc[j].toNat : Int)) (by simp [hj])
    exact this

/-- The numbers that a slice of them holds. -/
def Nums64 (w : World) (A : Option Addr) (zs : List Nat) : Prop := ∀ j, j < zs.length → ∃ ad, A = some ad ∧ ad.block < w.heap.size ∧ w.cell? (ad.add j) = some (.int .u64 (zs.getD j 0 : Nat))

theorem block_of_add (a : Addr) (n : Nat) : (a.add n).block = a.block := by unfold Addr.add; split <;> rfl

set_option maxRecDepth 100000 in
set_option maxHeartbeats 1000000 in
theorem num_any (A : Option Addr) (cap : Nat) (zs : List Nat) (w : World) (hl : zs.length ≤ 1000) (hz : ∀ z ∈ zs, z < 2 ^ 64) (hc : Nums64 w A zs) :
    Calls Tryd.prog 29 #[.slice A zs.length cap] w fun e w' => e = .returned (.string ⟨(nums zs).toArray⟩) ∧ Below w.heap.size w w' := by
  obtain ⟨i0, hi, hz0, hz1, hz2⟩ := info_parts Tryd.infoOctet
  have Hz := Lib.hid hz
  have Hc := Lib.hid hc
  clear hz hc
  go_enter Tryd.func29, Tryd.ntmps29
  go_wp2
  go_loopw [3, 8] (fun v i wr => ∃ k : Nat, k ≤ zs.length ∧ i = .int .i64 k ∧ Own wr w.heap.size v (nums (zs.take k)) ∧ Below w.heap.size w wr) (fun _ i _ => zs.length - (intOf i).toNat)
  case atStart => exact ⟨0, Nat.zero_le _, rfl, own_nil _ _, Below.refl _ _⟩
  case round =>
    obtain ⟨k, hk, rfl, hown, hb⟩ := hrel
    by_cases hlt : k < zs.length
    · obtain ⟨ad, rfl, hbk, hcell⟩ := Hc.out k hlt
      have hcr := (hb.cell (p := ad.add k) (by rw [block_of_add]; exact hbk)).trans hcell
      have hs := nums_snoc zs k hlt
      have hz64 := Hz.out zs[k] (List.getElem_mem hlt)
      have hlen := nums_len (zs.take k)
      have hlen' : (zs.take k).length ≤ k := List.length_take_le _ _
      have hget : zs.getD k 0 = zs[k] := by simp [List.getD, hlt]
      rw [hget] at hcr
      have HS := Lib.hid hs
      generalize hzk : zs[k] = z at *
      have HK := Lib.hid hzk
      clear hs hget hcell hzk
      go_wp2
      go_loopw [3, 5] (fun v x wi => ∃ (acc : List UInt8) (y : Nat), x = .int .u64 y ∧ y < 2 ^ 64 ∧ Own wi w.heap.size v acc ∧ NumInv (nums (zs.take k) ++ num z) (nums (zs.take k)) acc y ∧ Below w.heap.size w wi) (fun _ x _ => (intOf x).toNat)
      case atStart => exact ⟨_, z, rfl, hz64, hown, num_begin _ z hz64, hb⟩
      case round =>
        clear hown hb
        obtain ⟨acc, y, rfl, hy, hown, hinv, hb⟩ := hrel
        have hal := num_len hinv
        have HI := Lib.hid hinv
        clear hinv
        by_cases h128 : 128 ≤ y
        · go_wp2_with (at_builtin; refine wpList_append_own _ rfl _ _ 49 rfl w.heap.size 5 i0 (.int .u8 0) 1 1 Tryd.underlying49 hi hz0 hz1 hz2 rfl (by decide) _ _ _ rfl (hown.alloc _) ⟨wr.heap.size, 0, none⟩ 1 1 [.int .u8 (bits .or .u8 ((y : Int) % 256) 128)] rfl rfl ?c1 ?c2 ?c3 ?c4 ?c5 ?_)
          case c1 =>
            intro j u hj
            match j, hj with
            | 0, hj => simp at hj; subst hj; simp [Addr.add]
          case c2 => intro u hu; simp at hu; subst hu; rfl
          case c3 => unfold maxLen; omega
          case c4 => omega
          case c5 => have := hb.size; simp; omega
          · intro v' w1 hown' hgrow _
            have R := own_push hown hb.size hb (octet_on y) hown' hgrow
            have hn := num_on HI.out h128
            clear hown' hgrow hown hb HI
            go_wp2
            go_roundw
            case rel => exact ⟨_, y / 128, by go_num, by omega, R.1, hn, R.2⟩
            case measure => simp [intOf]; omega
        · have hst := Lib.hid (num_stop HI.out (by omega))
          clear HI
          go_wp2_with (at_builtin; refine wpList_append_own _ rfl _ _ 49 rfl w.heap.size 5 i0 (.int .u8 0) 1 1 Tryd.underlying49 hi hz0 hz1 hz2 rfl (by decide) _ _ _ rfl (hown.alloc _) ⟨wr.heap.size, 0, none⟩ 1 1 [.int .u8 (y : Int)] rfl rfl ?d1 ?d2 ?d3 ?d4 ?d5 ?_)
          case d1 =>
            intro j u hj
            match j, hj with
            | 0, hj => simp at hj; subst hj; simp [Addr.add]; try omega
          case d2 => intro u hu; simp at hu; subst hu; rfl
          case d3 => unfold maxLen; omega
          case d4 => omega
          case d5 => have := hb.size; simp; omega
          · intro v' w1 hown' hgrow _
            have R := own_push hown hb.size hb (octet_last y (by omega)) hown' hgrow
            clear hown' hgrow hown hb
            go_wp2
            go_roundw
            case rel => exact ⟨k + 1, by omega, by go_num, by rw [HS.out, hst.out]; exact R.1, R.2⟩
            case measure => simp [intOf]; omega
    · have hkl : k = zs.length := by omega
      subst hkl
      rw [List.take_length] at hown
      have hconv := own_text (P := Tryd.prog) hown 49 9 Tryd.underlying49 Tryd.underlying5 Tryd.underlying9
      clear hown
      go_wp2
      go_ret
      exact ⟨rfl, hb⟩
/-- Of one number, which lies at the head of a block. -/
theorem num_one (n g : Nat) (w : World) (hn : n < 2 ^ 64) (hg : g < w.heap.size) (hc : w.cell? ⟨g, 0, none⟩ = some (.int .u64 n)) :
    Calls Tryd.prog 29 #[.slice (some ⟨g, 0, none⟩) 1 1] w fun e w' => e = .returned (.string ⟨(num n).toArray⟩) ∧ Below w.heap.size w w' := by
  have h := num_any (some ⟨g, 0, none⟩) 1 [n] w (by simp) (by simpa using hn) (fun j hj => ⟨⟨g, 0, none⟩, rfl, hg, by
    match j, hj with
    | 0, _ => simpa [Addr.add] using hc⟩)
  have e : nums [n] = num n := by simp [nums]
  rw [e] at h
  exact h
end Go.Proofs.YtlpnhpnigljlnaaDoor
