/-
  The walk of Clear; Raise and Clear, whatever is asked.
-/
import Derived.Test.YtknpbbplolncpaaDel
namespace Go.Proofs.Ytknpbbplolncpaa
open Go.Sort Go.RowKit Go.Proofs.Ytknpbbplolncpaa.Pure

theorem yet_ct (who inc : Int) (q : List Db) : (yet (fun x => goneB who inc x.ct) q).map Db.ct = clearD (q.map Db.ct) who inc := by
  unfold yet clearD
  rw [List.filter_map]
  rfl

set_option maxRecDepth 100000 in
set_option maxHeartbeats 4000000 in
theorem clear_any (A : Option Addr) (c hi : Nat) (l : List Db) (who inc : Int) (w : World) (hs : Sm l) (h : Ds w hi A l) (hh : hi ≤ w.heap.size) :
    Calls Try.prog 17 #[.slice A l.length c, .int .i64 who, .int .u64 inc] w (GivesD w (clearA (l.map Db.ct) who inc).1 (clearA (l.map Db.ct) who inc).2) := by
  have HB0 : Hid (Below w.heap.size w ((w.alloc (.cells #[.int .i64 who] 3)).alloc (.cells #[.int .u64 inc] 25))) := Lib.hid (((Below.refl _ w).alloc (Nat.le_refl _) _).alloc (by simp) _)
  have HZ : Hid (((w.alloc (.cells #[.int .i64 who] 3)).alloc (.cells #[.int .u64 inc] 25)).heap.size = w.heap.size + 2) := Lib.hid (by simp)
  have C1 : Hid (((w.alloc (.cells #[.int .i64 who] 3)).alloc (.cells #[.int .u64 inc] 25)).cell? ⟨w.heap.size, 0, none⟩ = some (.int .i64 who)) := Lib.hid (by go_simp)
  have C2 : Hid (((w.alloc (.cells #[.int .i64 who] 3)).alloc (.cells #[.int .u64 inc] 25)).cell? ⟨w.heap.size + 1, 0, none⟩ = some (.int .u64 inc)) := Lib.hid (by go_simp)
  have HD0 := Lib.hid (h.on HB0.out hh)
  have HC := Lib.hid (copied_any A c hi l ((w.alloc (.cells #[.int .i64 who] 3)).alloc (.cells #[.int .u64 inc] 25)) hs HD0.out (by rw [HZ.out]; omega))
  obtain ⟨L, hL⟩ : ∃ L, mayD (l.map Db.ct) = L := ⟨_, rfl⟩
  have HK := Lib.hid (fun (W : World) (hb : Below ((w.alloc (.cells #[.int .i64 who] 3)).alloc (.cells #[.int .u64 inc] 25)).heap.size ((w.alloc (.cells #[.int .i64 who] 3)).alloc (.cells #[.int .u64 inc] 25)) W) => check_any A c hi l W hs (HD0.out.on hb (by rw [HZ.out]; omega)) (by have := hb.size; rw [HZ.out] at this; omega) L hL)
  have HA1 : Hid (L = false → clearA (l.map Db.ct) who inc = (l.map Db.ct, 1)) := Lib.hid (fun e => by unfold clearA; rw [if_neg (by rw [hL, e]; decide)])
  have HA2 : Hid (L = true → clearA (l.map Db.ct) who inc = (clearD (l.map Db.ct) who inc, 0)) := Lib.hid (fun e => by unfold clearA; rw [if_pos (by rw [hL, e])])
  have HS := Lib.hid hs
  generalize clearA (l.map Db.ct) who inc = R at *
  clear h hs hh hL HD0
  go_enter Try.func17, Try.ntmps17
  go_upto_region 1 with (fail)
  generalize ((w.alloc (.cells #[.int .i64 who] 3)).alloc (.cells #[.int .u64 inc] 25)) = w0 at *
  go_upto_region 2 with (go_at_call 31; refine HC.out.mono ?_; rintro e w1 ⟨v, ys, rfl, ho, he, hb⟩)
  have HO1 := Lib.hid ho
  have HE := Lib.hid he
  have HKK := Lib.hid (HK.out w1 hb)
  have D1 := Lib.hid (cell_on C1.out hb)
  have D2 := Lib.hid (cell_on C2.out hb)
  have HB1 : Hid (Below w.heap.size w w1) := Lib.hid (HB0.out.trans (hb.mono HB0.out.size))
  clear HC HK C1 C2 ho he hb HB0
  rcases L with _ | _
  · obtain rfl := HA1.out rfl
    have hk : okE false = 1 := rfl
    rw [hk] at HKK
    clear HA1 HA2
    go_wp2_with (go_at_call 14; refine HKK.out.mono ?_; rintro e w2 ⟨rfl, hb2⟩)
    refine bodyPost_ret (v := .tuple #[v, .int .i64 1]) (by simp [results, Try.results17, go_sem]) rfl ?_
    exact gives ((HO1.out.on hb2).mono (by rw [HZ.out]; omega)) HE.out (HB1.out.trans (hb2.mono HB1.out.size))
  · obtain rfl := HA2.out rfl
    have hk : okE true = 0 := rfl
    rw [hk] at HKK
    clear HA1 HA2
    go_upto_region 5 with (go_at_call 14; refine HKK.out.mono ?_; rintro e w2 ⟨rfl, hb2⟩)
    have HB2 : Hid (Below w.heap.size w w2) := Lib.hid (HB1.out.trans (hb2.mono HB1.out.size))
    have HDE := Lib.hid (delete_any ys w0.heap.size v who inc w.heap.size (w.heap.size + 1) w2 (HS.out.ct HE.out).1 (HO1.out.on hb2) (cell_on D1.out hb2) (cell_on D2.out hb2) (by rw [HZ.out]; omega) (by rw [HZ.out]; omega))
    have HVB : Hid (∀ k, v.ownBlock = some k → w.heap.size ≤ k) := Lib.hid (fun k hk => by have := (HO1.out.ge k hk).1; rw [HZ.out] at this; omega)
    clear HKK D1 D2 hb2 HO1
    go_wp2_with (go_at_call 38; refine HDE.out.mono ?_; rintro e w3 ⟨v', rfl, ho3, _, hg3⟩)
    refine bodyPost_ret (v := .tuple #[v', .int .i64 0]) (by simp [results, Try.results17, go_sem]) rfl ?_
    refine gives (ho3.mono (by rw [HZ.out]; omega)) ?_ (HB2.out.grown hg3 HB2.out.size HVB.out)
    rw [yet_ct, HE.out]

theorem raise_any (A : Option Addr) (c hi : Nat) (l : List Db) (who inc b now : Int) (w : World) (hs : Sm l) (h : Ds w hi A l) (hh : hi ≤ w.heap.size) :
    Calls Try.prog 16 #[.slice A l.length c, .int .i64 who, .int .u64 inc, .int .i64 b, .int .i64 now] w (GivesD w (raiseA (l.map Db.ct) who inc b now).1 (raiseA (l.map Db.ct) who inc b now).2) := by
  unfold raiseA
  rcases hm : mayR (l.map Db.ct) who b now with _ | _
  · rw [if_neg (by decide)]
    exact raise_bad A c hi l who inc b now w hs h hh hm
  · rw [if_pos rfl]
    exact raise_ok A c hi l who inc b now w hs h hh hm
end Go.Proofs.Ytknpbbplolncpaa
