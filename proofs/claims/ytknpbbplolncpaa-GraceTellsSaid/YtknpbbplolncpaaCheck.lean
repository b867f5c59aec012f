/-
  The walk of Check.
-/
import Derived.Test.YtknpbbplolncpaaCopy
namespace Go.Proofs.Ytknpbbplolncpaa
open Go.Sort Go.RowKit Go.Proofs.Ytknpbbplolncpaa.Pure

theorem okE_true : okE true = 0 := rfl
theorem okE_false : okE false = 1 := rfl
theorem OwnN.ns0 {w : World} {B : Nat} {v : Value} {xs : List Int} (h : OwnN w B v xs) : ∃ (A : Option Addr) (c : Nat), v = .slice A xs.length c ∧ Has w 0 w.heap.size A xs := by
  obtain ⟨A, c, e, _, _, hn⟩ := h.ns
  exact ⟨A, c, e, hn.has⟩

set_option maxRecDepth 100000 in
set_option maxHeartbeats 4000000 in
theorem check_any (A : Option Addr) (c hi : Nat) (l : List Db) (w : World) (hs : Sm l) (h : Ds w hi A l) (hh : hi ≤ w.heap.size) (L : Bool) (hL : mayD (l.map Db.ct) = L) :
    Calls Try.prog 14 #[.slice A l.length c] w fun e w' => e = .returned (.int .i64 (okE L)) ∧ Below w.heap.size w w' := by
  have H := Lib.hid h
  have HS := Lib.hid hs
  have HH := Lib.hid hh
  have HL : Hid (((∀ j, j < l.length → OkD (db l j).ct) ∧ riseB (whos (l.map Db.ct)) = true) ↔ L = true) := Lib.hid (by
    rw [← hL, mayD_iff]
    simp only [List.length_map, ct_at])
  have HW : Hid (∀ k, k < l.length → (whos (l.map Db.ct)).take (k + 1) = (whos (l.map Db.ct)).take k ++ [(db l k).w]) := Lib.hid (fun k hk => by
    rw [take_snoc _ _ (by rw [whos_len, List.length_map]; exact hk), whos_at _ (by rw [List.length_map]; exact hk), ct_at]
    rfl)
  have HWL : Hid ((whos (l.map Db.ct)).length = l.length) := Lib.hid (by rw [whos_len, List.length_map])
  have hl0 := hs.1
  clear h hs hh hL
  generalize whos (l.map Db.ct) = ws at *
  go_enter Try.func14, Try.ntmps14
  go_wp2_with fail
  go_loopw [3, 8] (fun v i wr => ∃ k : Nat, i = .int .i64 k ∧ k ≤ l.length ∧ Hid (OwnN wr w.heap.size v (ws.take k)) ∧ Hid (∀ j, j < k → OkD (db l j).ct) ∧ Hid (Below w.heap.size w wr)) (fun _ i _ => l.length - (intOf i).toNat)
  case atStart => exact ⟨0, rfl, Nat.zero_le _, Lib.hid (OwnN.nil _ _), Lib.hid (fun j hj => absurd hj (Nat.not_lt_zero j)), Lib.hid (Below.refl _ _)⟩
  case round =>
    obtain ⟨wq, ewq⟩ : ∃ wq, wq = wr := ⟨_, rfl⟩
    subst ewq
    obtain ⟨k, rfl, hk, HO, HOK, HB⟩ := hrel
    by_cases hlt : k < l.length
    · have hds := H.out.on HB.out HH.out
      obtain ⟨ad, rfl, hlo, h1, hrd⟩ := hds k hlt
      obtain ⟨a0, a1, a2, a3⟩ := h1.flat
      have k0 : (0 : Int) ≤ (k : Int) := by omega
      have k1 : (k : Int) < (l.length : Int) := by omega
      have HF : Hid (¬OkD (db l k).ct → L = false) := Lib.hid (fun hne => by
        rcases L with _ | _
        · rfl
        · exact absurd ((HL.out.2 rfl).1 k hlt) hne)
      have HT : Hid (OkD (db l k).ct → ∀ j, j < k + 1 → OkD (db l j).ct) := Lib.hid (fun he j hj => by
        rcases Nat.lt_or_ge j k with hjk | hjk
        · exact HOK.out j hjk
        · obtain rfl : j = k := by omega
          exact he)
      have HBN := Lib.hid (HS.out.2 _ (db_mem l hlt))
      have HWk := Lib.hid (HW.out k hlt)
      have HRD := Lib.hid hrd
      have HX : Hid (OkD (db l k).ct ↔ tickB (db l k).t = true ∧ (db l k).b ≠ [] ∧ riseB (db l k).b = true) := Lib.hid (by
        rw [tickB_iff]
        exact Iff.rfl)
      clear h1 hrd hds HOK
      generalize db l k = x at *
      have HT1 := Lib.hid (fun W => tick_any x.t W)
      have hw1 : Below wq.heap.size wq (wq.alloc (.cells #[.int .i64 x.w, .int .u64 x.i, .int .i64 x.t, .slice x.A x.b.length x.c] 55)) := (Below.refl _ _).alloc (Nat.le_refl _) _
      have BX : Hid (Bt (wq.alloc (.cells #[.int .i64 x.w, .int .u64 x.i, .int .i64 x.t, .slice x.A x.b.length x.c] 55)) wq.heap.size x) := Lib.hid (Bt.new wq x _)
      have HO1 := Lib.hid (HO.out.on hw1)
      have HB1 := Lib.hid (HB.out.trans (hw1.mono HB.out.size))
      have HR1 := Lib.hid (HRD.out.on hw1)
      go_upto_region 5 with (fail)
      clear a0 a1 a2 a3 hw1 HO HB HRD
      generalize wq.alloc (.cells #[.int .i64 x.w, .int .u64 x.i, .int .i64 x.t, .slice x.A x.b.length x.c] 55) = w1 at *
      generalize wq.heap.size = nb at *
      obtain ⟨b0, b1, b2, b3⟩ := BX.out
      rcases ht : tickB x.t with _ | _
      · obtain rfl := HF.out (fun he => by have := (HX.out.1 he).1; rw [ht] at this; cases this)
        rw [ht] at HT1
        clear HF HT HX ht
        go_wp2_with (go_at_call 28; refine (HT1.out _).mono ?_; rintro e w' ⟨rfl, rfl⟩)
        go_ret
        exact ⟨rfl, HB1.out⟩
      rw [ht] at HT1
      by_cases hz : x.b = []
      · obtain rfl := HF.out (fun he => (HX.out.1 he).2.1 hz)
        have e0 : ((x.b.length : Int) == 0) = true := by rw [hz]; rfl
        clear HF HT HX ht hz
        go_wp2_with (go_at_call 28; refine (HT1.out _).mono ?_; rintro e w' ⟨rfl, rfl⟩)
        go_ret
        exact ⟨rfl, HB1.out⟩
      have e0 : ((x.b.length : Int) == 0) = false := by
        rcases hb : x.b with _ | ⟨y, r⟩
        · exact absurd hb hz
        · simp; omega
      have e0' : ¬x.b = [] := hz
      have HRI := Lib.hid (fun L hL => rising_any x.A x.c 0 w1.heap.size x.b w1 (by have := HBN.out; omega) HR1.out.1.has L hL)
      rcases hr : riseB x.b with _ | _
      · obtain rfl := HF.out (fun he => by have := (HX.out.1 he).2.2; rw [hr] at this; cases this)
        have HRI' := Lib.hid (HRI.out _ hr)
        clear HF HT HX ht hz hr HRI
        go_wp2_with (first | (go_at_call 28; refine (HT1.out _).mono ?_; rintro e w' ⟨rfl, rfl⟩) | (go_at_call 29; refine HRI'.out.mono ?_; rintro e w' ⟨rfl, rfl⟩))
        go_ret
        exact ⟨rfl, HB1.out⟩
      have HRI' := Lib.hid (HRI.out _ hr)
      have HT' := Lib.hid (HT.out (HX.out.2 ⟨ht, hz, hr⟩))
      clear HF HT HX ht hz hr HRI
      go_upto_region 7 with (first | (go_at_call 28; refine (HT1.out _).mono ?_; rintro e w' ⟨rfl, rfl⟩) | (go_at_call 29; refine HRI'.out.mono ?_; rintro e w' ⟨rfl, rfl⟩))
      have HA := Lib.hid (fun ty => appN_own (w1.alloc (.cells #[.int .i64 x.w] 3)) ty w.heap.size _ (ws.take k) (HO1.out.alloc _) _ (some ⟨w1.heap.size, 0, none⟩) 1 [x.w] (Ns.one w1 x.w _) (by simp; have := HWL.out; omega) (by have := HB1.out.size; simp; omega))
      obtain ⟨v', w2, h1, h2, h3, _⟩ := HA.out 53
      rw [← HWk.out] at h2
      have HO2 := Lib.hid h2
      have HB2 : Hid (Below w.heap.size w w2) := Lib.hid ((HB1.out.alloc HB1.out.size _).grown h3 (by have := HB1.out.size; simp; omega) (fun k hk => (HO1.out.ge k hk).1))
      clear h2 h3 HA HWk HO1 HB1 HR1 HT1 HRI' BX
      go_wp2_with (at_builtin; refine wpList_app rfl 53 _ _ rfl _ _ rfl rfl h1 ?_)
      clear b0 b1 b2 b3 h1
      go_roundw
      case rel => exact ⟨k + 1, by go_num, by omega, HO2, HT', HB2⟩
      case measure => simp [intOf]; omega
    · obtain rfl : k = l.length := by omega
      obtain ⟨A', c', rfl, hns⟩ := HO.out.ns0
      have hwl : ws.take l.length = ws := by rw [← HWL.out, List.take_length]
      rw [hwl] at hns ⊢
      have HRI := Lib.hid (fun L hL => rising_any A' c' 0 wq.heap.size ws wq (by have := HWL.out; omega) hns L hL)
      rcases hr : riseB ws with _ | _
      · obtain rfl : L = false := by
          rcases L with _ | _
          · rfl
          · have := (HL.out.2 rfl).2; rw [hr] at this; cases this
        have HRI' := Lib.hid (HRI.out _ hr)
        clear hr HRI hns hwl
        go_wp2_with (go_at_call 29; refine HRI'.out.mono ?_; rintro e w' ⟨rfl, rfl⟩)
        go_ret
        exact ⟨rfl, HB.out⟩
      · obtain rfl : L = true := HL.out.1 ⟨HOK.out, hr⟩
        have HRI' := Lib.hid (HRI.out _ hr)
        clear hr HRI hns hwl
        go_wp2_with (go_at_call 29; refine HRI'.out.mono ?_; rintro e w' ⟨rfl, rfl⟩)
        go_ret
        exact ⟨rfl, HB.out⟩
end Go.Proofs.Ytknpbbplolncpaa
