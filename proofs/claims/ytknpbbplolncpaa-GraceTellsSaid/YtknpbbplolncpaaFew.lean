/-
  The walk of the law's Few.
-/
import Derived.Test.YtknpbbplolncpaaLaw
namespace Go.Proofs.Ytknpbbplolncpaa
open Go.Sort Go.RowKit Go.Proofs.Ytknpbbplolncpaa.Pure

/-- One, cut. -/
def cutX (x : Db) : Db := ⟨x.w, x.i, x.t, x.A, x.c, x.b.take 65⟩
def cutT (x : Dt) : Dt := ⟨x.w, x.i, x.t, x.b.take 65⟩
def fewD (R : List Dt) : List Dt := (R.take 65).map cutT
theorem few_ct (l : List Db) : ((l.take 65).map cutX).map Db.ct = fewD (l.map Db.ct) := by
  unfold fewD
  rw [← List.map_take, List.map_map, List.map_map]
  rfl
theorem few_sm (R : List Dt) : (fewD R).length ≤ 65 ∧ ∀ x ∈ fewD R, x.b.length ≤ 65 := by
  refine ⟨by simp [fewD]; omega, fun x hx => ?_⟩
  obtain ⟨y, _, rfl⟩ := List.mem_map.1 hx
  simp [cutT]; omega
theorem Bt.set3 {w : World} {g : Nat} {x : Db} (h : Bt w g x) (A' : Option Addr) (c' : Nat) (b' : List Int) : Bt (w.setCell ⟨g, 3, none⟩ (.slice A' b'.length c')) g ⟨x.w, x.i, x.t, A', c', b'⟩ := by
  refine ⟨?_, ?_, ?_, ?_⟩
  · rw [World.cell?_setCell_other _ _ _ _ (by simp)]; exact h.1
  · rw [World.cell?_setCell_other _ _ _ _ (by simp)]; exact h.2.1
  · rw [World.cell?_setCell_other _ _ _ _ (by simp)]; exact h.2.2.1
  · exact World.cell?_setCell_same w _ _ h.2.2.2

set_option maxRecDepth 100000 in
set_option maxHeartbeats 4000000 in
theorem few_any (A : Option Addr) (c hi : Nat) (l : List Db) (w : World) (h : Ds w hi A l) (hh : hi ≤ w.heap.size) (hlc : l.length ≤ c) (hcm : c ≤ maxLen) :
    Calls Try.prog 9 #[.slice A l.length c] w fun e w' => ∃ v, e = .returned v ∧ OwnD w' w.heap.size v ((l.take 65).map cutX) ∧ Below w.heap.size w w' := by
  have H := Lib.hid h
  have HH := Lib.hid hh
  have HSU : Hid (∀ k, k < l.length → (l.take (k + 1)).map cutX = (l.take k).map cutX ++ [cutX (db l k)]) := Lib.hid (fun k hk => by rw [take_snocD l k hk, List.map_append]; rfl)
  have HLE : Hid (∀ k, k ≤ 65 → ((l.take k).map cutX).length ≤ 1000) := Lib.hid (fun k hk => by rw [List.length_map, List.length_take]; omega)
  unfold maxLen at hcm
  have hl0 : l.length ≤ 9223372036854775807 := by omega
  clear h hh hlc
  go_enter Try.func9, Try.ntmps9
  go_wp2_with fail
  go_loopw [3, 4] (fun v i wr => ∃ k : Nat, i = .int .i64 k ∧ k ≤ l.length ∧ k ≤ 65 ∧ Hid (Two wr w.heap.size v ((l.take k).map cutX) (.slice none 0 0) []) ∧ Hid (Below w.heap.size w wr)) (fun _ i _ => l.length - (intOf i).toNat)
  case atStart => exact ⟨0, rfl, Nat.zero_le _, Nat.zero_le _, Lib.hid (Two.nil _ _), Lib.hid (Below.refl _ _)⟩
  case round =>
    obtain ⟨wq, ewq⟩ : ∃ wq, wq = wr := ⟨_, rfl⟩
    subst ewq
    obtain ⟨k, rfl, hk, hk65, HTW, HBq⟩ := hrel
    by_cases hlt : k < l.length
    · have q0 : decide ((k : Int) < (l.length : Int)) = true := by simp; omega
      by_cases hlt2 : k < 65
      · have q1 : decide ((k : Int) < 65) = true := by simp; omega
        have q2 : (k : Int) < 65 := by omega
        obtain ⟨ad, rfl, hlo, h1, hr1⟩ := (H.out.on HBq.out HH.out) k hlt
        obtain ⟨a0, a1, a2, a3⟩ := h1.flat
        have k0 : (0 : Int) ≤ (k : Int) := by omega
        have k1 : (k : Int) < (l.length : Int) := by omega
        have HSK := Lib.hid (HSU.out k hlt)
        have HR0 : Hid (Rd wq (fun k => k < w.heap.size) _) := Lib.hid (hr1.imp fun j _ hj => Nat.lt_of_lt_of_le hj HH.out)
        generalize db l k = x at *
        clear h1 hr1
        have HW1 : Hid (Below wq.heap.size wq (wq.alloc (.cells #[.int .i64 x.w, .int .u64 x.i, .int .i64 x.t, .slice x.A x.b.length x.c] 55))) := Lib.hid ((Below.refl _ _).alloc (Nat.le_refl _) _)
        have BT : Hid (Bt (wq.alloc (.cells #[.int .i64 x.w, .int .u64 x.i, .int .i64 x.t, .slice x.A x.b.length x.c] 55)) wq.heap.size x) := Lib.hid (Bt.new wq x _)
        have hf : (wq.alloc (.cells #[.int .i64 x.w, .int .u64 x.i, .int .i64 x.t, .slice x.A x.b.length x.c] 55)).frozen? ⟨wq.heap.size, 3, none⟩ = false := by go_simp
        have HGB : Hid (w.heap.size ≤ wq.heap.size) := Lib.hid HBq.out.size
        go_upto_region 6 with (fail)
        generalize wq.alloc (.cells #[.int .i64 x.w, .int .u64 x.i, .int .i64 x.t, .slice x.A x.b.length x.c] 55) = w1 at *
        clear a0 a1 a2 a3
        obtain ⟨x0, x1, x2, x3⟩ := BT.out
        by_cases hn : 65 < x.b.length
        · have hxc : 65 ≤ x.c ∧ x.c ≤ maxLen := ⟨by have := HR0.out.2.1; omega, HR0.out.2.2⟩
          unfold maxLen at hxc
          obtain ⟨hxc1, hxc2⟩ := hxc
          have n0 : decide (65 < (x.b.length : Int)) = true := by simp; omega
          have hnb : x.A ≠ none := fun e => by
            have := HR0.out.1
            rw [e] at this
            have := this.none_nil
            rw [this] at hn; simp at hn
          obtain ⟨ab, hab⟩ := Option.ne_none_iff_exists'.1 hnb
          rw [hab] at x3
          have hcl : (cutX x).b.length = 65 := by simp [cutX]; omega
          have BT2 : Hid (Bt (w1.setCell ⟨wq.heap.size, 3, none⟩ (.slice (some ab) 65 x.c)) wq.heap.size (cutX x)) := Lib.hid (by
            have := BT.out.set3 (some ab) x.c (x.b.take 65)
            rw [show (x.b.take 65).length = 65 from hcl] at this
            have e : cutX x = ⟨x.w, x.i, x.t, some ab, x.c, x.b.take 65⟩ := by rw [← hab]; rfl
            rw [e]; exact this)
          have HW2 : Hid (Below wq.heap.size wq (w1.setCell ⟨wq.heap.size, 3, none⟩ (.slice (some ab) 65 x.c))) := Lib.hid (HW1.out.setCell (p := ⟨wq.heap.size, 3, none⟩) (Nat.le_refl _) _)
          clear hnb
          generalize hbl : x.b.length = bl at *
          go_upto_region 8 with (fail)
          generalize w1.setCell ⟨wq.heap.size, 3, none⟩ (.slice (some ab) 65 x.c) = w2 at *
          clear x0 x1 x2 x3 hf
          obtain ⟨x0, x1, x2, x3⟩ := BT2.out
          rw [hcl] at x3
          have HTW3 := Lib.hid (HTW.out.on HW2.out)
          have HR3 : Hid (Rd w2 (fun k => k < w.heap.size) (cutX x)) := Lib.hid (by have h := HR0.out.on HW2.out; exact ⟨h.1.take 65, by rw [hcl]; exact hxc1, h.2.2⟩)
          have HB3 : Hid (Below w.heap.size w w2) := Lib.hid (HBq.out.trans (HW2.out.mono HBq.out.size))
          have HGW : Hid (w.heap.size ≤ w2.heap.size) := Lib.hid HB3.out.size
          obtain ⟨v', w6, h1, h2, h3⟩ := HTW3.out.put (cutX x) HR3.out HGW.out (HLE.out k hk65) 22
          rw [hcl] at h1
          rw [show (cutX x).w = x.w from rfl, show (cutX x).i = x.i from rfl, show (cutX x).t = x.t from rfl, show (cutX x).A = x.A from rfl, show (cutX x).c = x.c from rfl, hab] at h1
          rw [show (cutX x).w = x.w from rfl] at x0
          rw [show (cutX x).i = x.i from rfl] at x1
          rw [show (cutX x).t = x.t from rfl] at x2
          rw [show (cutX x).A = x.A from rfl, show (cutX x).c = x.c from rfl, hab] at x3
          rw [← HSK.out] at h2
          have HT5 := Lib.hid h2
          have HB5 : Hid (Below w.heap.size w w6) := Lib.hid (HB3.out.trans h3)
          clear h2 h3 HTW3 HB3 HR3 HGW HSK HTW HBq HR0 BT BT2 HW1 HW2
          go_wp2_with (at_builtin; refine wpList_app rfl 22 _ _ rfl _ _ rfl rfl h1 ?_)
          clear h1 x0 x1 x2 x3
          go_roundw
          case rel => exact ⟨k + 1, by go_num, by omega, by omega, HT5, HB5⟩
          case measure => simp [intOf]; omega
        · have n0 : decide (65 < (x.b.length : Int)) = false := by simp; omega
          have hcx : cutX x = x := by unfold cutX; rw [List.take_of_length_le (by omega)]
          rw [hcx] at HSK
          go_upto_region 8 with (fail)
          have HTW3 := Lib.hid (HTW.out.on HW1.out)
          have HR3 : Hid (Rd w1 (fun k => k < w.heap.size) (x)) := Lib.hid (HR0.out.on HW1.out)
          have HB3 : Hid (Below w.heap.size w w1) := Lib.hid (HBq.out.trans (HW1.out.mono HBq.out.size))
          have HGW : Hid (w.heap.size ≤ w1.heap.size) := Lib.hid HB3.out.size
          obtain ⟨v', w6, h1, h2, h3⟩ := HTW3.out.put (x) HR3.out HGW.out (HLE.out k hk65) 22
          rw [← HSK.out] at h2
          have HT5 := Lib.hid h2
          have HB5 : Hid (Below w.heap.size w w6) := Lib.hid (HB3.out.trans h3)
          clear h2 h3 HTW3 HB3 HR3 HGW HSK HTW HBq HR0 BT HW1
          go_wp2_with (at_builtin; refine wpList_app rfl 22 _ _ rfl _ _ rfl rfl h1 ?_)
          clear h1 x0 x1 x2 x3
          go_roundw
          case rel => exact ⟨k + 1, by go_num, by omega, by omega, HT5, HB5⟩
          case measure => simp [intOf]; omega
      · obtain rfl : k = 65 := by omega
        have hT := HTW.out
        have HTT := Lib.hid hT.o1
        have q1 : decide (((65 : Nat) : Int) < 65) = false := by decide
        have q2 : ¬((65 : Nat) : Int) < 65 := by omega
        clear hT HTW HSU HLE
        go_wp2_with fail
        go_ret
        refine ⟨_, rfl, ?_, HBq.out⟩
        rw [← List.map_take]
        exact HTT.out
    · obtain rfl : k = l.length := by omega
      have hT := HTW.out
      rw [List.take_length] at hT
      have HTT := Lib.hid hT.o1
      have q1 : decide ((l.length : Int) < (l.length : Int)) = false := by simp
      have HE : Hid ((l.map cutX).take 65 = l.map cutX) := Lib.hid (List.take_of_length_le (by rw [List.length_map]; omega))
      clear hT HTW HSU HLE hlt
      go_wp2_with fail
      go_ret
      refine ⟨_, rfl, ?_, HBq.out⟩
      rw [List.map_take, HE.out]
      exact HTT.out
end Go.Proofs.Ytknpbbplolncpaa
