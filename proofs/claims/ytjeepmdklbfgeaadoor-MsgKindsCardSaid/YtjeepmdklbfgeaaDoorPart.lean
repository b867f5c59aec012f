/-
  A message as a value; the walks of the closures that tell whether a part may be, and whether it is zero.
-/
import Derived.Test.YtjeepmdklbfgeaaDoorMay
import Derived.Test.YtjeepmdklbfgeaaDoorTcheck
import Derived.Shelf.Abstract
namespace Go.Proofs.YtjeepmdklbfgeaaDoor
open Go.Sort Go.RowKit Go.Proofs.YtjeepmdklbfgeaaDoor.Pure Go.Proofs.YtjeepmdklbfgeaaDoor.W Go.Proofs.YtjeepmdklbfgeaaDoor.W.Pure

/-- A message, its news and its table as values. -/
def mvv (m : Mg) (nv tv : Value) : Value := .agg #[.int .i64 m.kd, .int .i64 m.fr, .int .i64 m.to, .int .u64 (m.sq : Int), .int .i64 m.wh, .int .u64 m.k.i, .int .i64 m.k.s, nv, tv, .int .u64 (m.ep : Int), .int .u64 (m.bo : Int), .int .i64 m.ak, .string m.ts, .int .u64 (m.tn : Int), .bool m.gd]
/-- The value v is the message m. -/
def MsgV (w : World) (v : Value) (m : Mg) : Prop :=
  ∃ (A : Option Addr) (cA : Nat) (T : Option Addr) (cT : Nat), v = mvv m (.slice A m.ns.length cA) (.slice T m.tb.length cT) ∧ Ns w A m.ns ∧ Lst w T m.tb ∧ m.ns.length ≤ 1000 ∧ m.tb.length ≤ 1000 ∧ m.ts.size ≤ 1000
theorem MsgV.on {w w' : World} {v : Value} {m : Mg} (h : MsgV w v m) (hb : Below w.heap.size w w') : MsgV w' v m := by
  obtain ⟨A, cA, T, cT, rfl, hA, hT, l1, l2, l3⟩ := h
  exact ⟨A, cA, T, cT, rfl, hA.on hb, hT.on hb, l1, l2, l3⟩
theorem empty_list : (⟨#[]⟩ : ByteArray).toList = [] := by rw [ByteArray.toList_eq]
theorem str_nil (s : ByteArray) : s.toList = [] ↔ s = ⟨#[]⟩ := ⟨fun h => text_eq (h.trans empty_list.symm), fun h => by rw [h, empty_list]⟩
theorem ret_bool' {a b : Bool} (h : a = b) : Ending.returned (.bool a) = .returned (.bool b) := by rw [h]
set_option maxRecDepth 100000 in
set_option maxHeartbeats 4000000 in
theorem of0_any (m : Mg) (v : Value) (w : World) (h : MsgV w v m) : Calls Tryd.prog 48 #[v] w fun e w' => e = .returned (.int .u64 (m.sq : Int)) ∧ Below w.heap.size w w' := by
  obtain ⟨A, cA, T, cT, rfl, hA, hT, l1, l2, l3⟩ := h
  have HB : Hid (Below w.heap.size w (w.alloc (.cells #[.int .i64 m.kd, .int .i64 m.fr, .int .i64 m.to, .int .u64 (m.sq : Int), .int .i64 m.wh, .int .u64 m.k.i, .int .i64 m.k.s, (.slice A m.ns.length cA), (.slice T m.tb.length cT), .int .u64 (m.ep : Int), .int .u64 (m.bo : Int), .int .i64 m.ak, .string m.ts, .int .u64 (m.tn : Int), .bool m.gd] 28))) := Lib.hid ((Below.refl _ _).alloc (Nat.le_refl _) _)
  unfold mvv
  generalize m.kd = kd at *
  generalize m.fr = fr at *
  generalize m.to = tt at *
  generalize m.sq = sq at *
  generalize m.wh = wh at *
  generalize m.k.i = ki at *
  generalize m.k.s = ks at *
  generalize m.ns = ns at *
  generalize m.tb = tb at *
  generalize m.ep = ep at *
  generalize m.bo = bo at *
  generalize m.ak = ak at *
  generalize m.ts = ts at *
  generalize m.tn = tn at *
  generalize m.gd = gd at *
  go_enter Tryd.func48, Tryd.ntmps48
  go_wp2_with fail
  go_ret
  exact ⟨rfl, HB.out⟩
set_option maxRecDepth 100000 in
set_option maxHeartbeats 4000000 in
theorem of5_any (m : Mg) (v : Value) (w : World) (h : MsgV w v m) : Calls Tryd.prog 50 #[v] w fun e w' => e = .returned (.int .u64 (m.ep : Int)) ∧ Below w.heap.size w w' := by
  obtain ⟨A, cA, T, cT, rfl, hA, hT, l1, l2, l3⟩ := h
  have HB : Hid (Below w.heap.size w (w.alloc (.cells #[.int .i64 m.kd, .int .i64 m.fr, .int .i64 m.to, .int .u64 (m.sq : Int), .int .i64 m.wh, .int .u64 m.k.i, .int .i64 m.k.s, (.slice A m.ns.length cA), (.slice T m.tb.length cT), .int .u64 (m.ep : Int), .int .u64 (m.bo : Int), .int .i64 m.ak, .string m.ts, .int .u64 (m.tn : Int), .bool m.gd] 28))) := Lib.hid ((Below.refl _ _).alloc (Nat.le_refl _) _)
  unfold mvv
  generalize m.kd = kd at *
  generalize m.fr = fr at *
  generalize m.to = tt at *
  generalize m.sq = sq at *
  generalize m.wh = wh at *
  generalize m.k.i = ki at *
  generalize m.k.s = ks at *
  generalize m.ns = ns at *
  generalize m.tb = tb at *
  generalize m.ep = ep at *
  generalize m.bo = bo at *
  generalize m.ak = ak at *
  generalize m.ts = ts at *
  generalize m.tn = tn at *
  generalize m.gd = gd at *
  go_enter Tryd.func50, Tryd.ntmps50
  go_wp2_with fail
  go_ret
  exact ⟨rfl, HB.out⟩
set_option maxRecDepth 100000 in
set_option maxHeartbeats 4000000 in
theorem of6_any (m : Mg) (v : Value) (w : World) (h : MsgV w v m) : Calls Tryd.prog 52 #[v] w fun e w' => e = .returned (.int .u64 (m.bo : Int)) ∧ Below w.heap.size w w' := by
  obtain ⟨A, cA, T, cT, rfl, hA, hT, l1, l2, l3⟩ := h
  have HB : Hid (Below w.heap.size w (w.alloc (.cells #[.int .i64 m.kd, .int .i64 m.fr, .int .i64 m.to, .int .u64 (m.sq : Int), .int .i64 m.wh, .int .u64 m.k.i, .int .i64 m.k.s, (.slice A m.ns.length cA), (.slice T m.tb.length cT), .int .u64 (m.ep : Int), .int .u64 (m.bo : Int), .int .i64 m.ak, .string m.ts, .int .u64 (m.tn : Int), .bool m.gd] 28))) := Lib.hid ((Below.refl _ _).alloc (Nat.le_refl _) _)
  unfold mvv
  generalize m.kd = kd at *
  generalize m.fr = fr at *
  generalize m.to = tt at *
  generalize m.sq = sq at *
  generalize m.wh = wh at *
  generalize m.k.i = ki at *
  generalize m.k.s = ks at *
  generalize m.ns = ns at *
  generalize m.tb = tb at *
  generalize m.ep = ep at *
  generalize m.bo = bo at *
  generalize m.ak = ak at *
  generalize m.ts = ts at *
  generalize m.tn = tn at *
  generalize m.gd = gd at *
  go_enter Tryd.func52, Tryd.ntmps52
  go_wp2_with fail
  go_ret
  exact ⟨rfl, HB.out⟩
set_option maxRecDepth 100000 in
set_option maxHeartbeats 4000000 in
theorem of9_any (m : Mg) (v : Value) (w : World) (h : MsgV w v m) : Calls Tryd.prog 54 #[v] w fun e w' => e = .returned (.int .u64 (m.tn : Int)) ∧ Below w.heap.size w w' := by
  obtain ⟨A, cA, T, cT, rfl, hA, hT, l1, l2, l3⟩ := h
  have HB : Hid (Below w.heap.size w (w.alloc (.cells #[.int .i64 m.kd, .int .i64 m.fr, .int .i64 m.to, .int .u64 (m.sq : Int), .int .i64 m.wh, .int .u64 m.k.i, .int .i64 m.k.s, (.slice A m.ns.length cA), (.slice T m.tb.length cT), .int .u64 (m.ep : Int), .int .u64 (m.bo : Int), .int .i64 m.ak, .string m.ts, .int .u64 (m.tn : Int), .bool m.gd] 28))) := Lib.hid ((Below.refl _ _).alloc (Nat.le_refl _) _)
  unfold mvv
  generalize m.kd = kd at *
  generalize m.fr = fr at *
  generalize m.to = tt at *
  generalize m.sq = sq at *
  generalize m.wh = wh at *
  generalize m.k.i = ki at *
  generalize m.k.s = ks at *
  generalize m.ns = ns at *
  generalize m.tb = tb at *
  generalize m.ep = ep at *
  generalize m.bo = bo at *
  generalize m.ak = ak at *
  generalize m.ts = ts at *
  generalize m.tn = tn at *
  generalize m.gd = gd at *
  go_enter Tryd.func54, Tryd.ntmps54
  go_wp2_with fail
  go_ret
  exact ⟨rfl, HB.out⟩
set_option maxRecDepth 100000 in
set_option maxHeartbeats 4000000 in
theorem always_any (m : Mg) (v : Value) (w : World) (h : MsgV w v m) : Calls Tryd.prog 95 #[v] w fun e w' => e = .returned (.bool true) ∧ Below w.heap.size w w' := by
  obtain ⟨A, cA, T, cT, rfl, hA, hT, l1, l2, l3⟩ := h
  have HB : Hid (Below w.heap.size w (w.alloc (.cells #[.int .i64 m.kd, .int .i64 m.fr, .int .i64 m.to, .int .u64 (m.sq : Int), .int .i64 m.wh, .int .u64 m.k.i, .int .i64 m.k.s, (.slice A m.ns.length cA), (.slice T m.tb.length cT), .int .u64 (m.ep : Int), .int .u64 (m.bo : Int), .int .i64 m.ak, .string m.ts, .int .u64 (m.tn : Int), .bool m.gd] 28))) := Lib.hid ((Below.refl _ _).alloc (Nat.le_refl _) _)
  unfold mvv
  generalize m.kd = kd at *
  generalize m.fr = fr at *
  generalize m.to = tt at *
  generalize m.sq = sq at *
  generalize m.wh = wh at *
  generalize m.k.i = ki at *
  generalize m.k.s = ks at *
  generalize m.ns = ns at *
  generalize m.tb = tb at *
  generalize m.ep = ep at *
  generalize m.bo = bo at *
  generalize m.ak = ak at *
  generalize m.ts = ts at *
  generalize m.tn = tn at *
  generalize m.gd = gd at *
  go_enter Tryd.func95, Tryd.ntmps95
  go_wp2_with fail
  go_ret
  exact ⟨rfl, HB.out⟩
set_option maxRecDepth 100000 in
set_option maxHeartbeats 4000000 in
theorem may1_any (m : Mg) (v : Value) (w : World) (h : MsgV w v m) : Calls Tryd.prog 56 #[v] w fun e w' => e = .returned (.bool (mayP 1 m)) ∧ Below w.heap.size w w' := by
  obtain ⟨A, cA, T, cT, rfl, hA, hT, l1, l2, l3⟩ := h
  have HB : Hid (Below w.heap.size w (w.alloc (.cells #[.int .i64 m.kd, .int .i64 m.fr, .int .i64 m.to, .int .u64 (m.sq : Int), .int .i64 m.wh, .int .u64 m.k.i, .int .i64 m.k.s, (.slice A m.ns.length cA), (.slice T m.tb.length cT), .int .u64 (m.ep : Int), .int .u64 (m.bo : Int), .int .i64 m.ak, .string m.ts, .int .u64 (m.tn : Int), .bool m.gd] 28))) := Lib.hid ((Below.refl _ _).alloc (Nat.le_refl _) _)
  have HC := Lib.hid (fun W => isnode_any m.wh W)
  have hR : mayP 1 m = isN m.wh := rfl
  rw [hR]
  clear hR
  generalize isN m.wh = R at *
  unfold mvv
  generalize m.kd = kd at *
  generalize m.fr = fr at *
  generalize m.to = tt at *
  generalize m.sq = sq at *
  generalize m.wh = wh at *
  generalize m.k.i = ki at *
  generalize m.k.s = ks at *
  generalize m.ns = ns at *
  generalize m.tb = tb at *
  generalize m.ep = ep at *
  generalize m.bo = bo at *
  generalize m.ak = ak at *
  generalize m.ts = ts at *
  generalize m.tn = tn at *
  generalize m.gd = gd at *
  go_enter Tryd.func56, Tryd.ntmps56
  go_wp2_with (go_at_call 26; refine (HC.out _).mono ?_; rintro e w2 ⟨rfl, rfl⟩)
  go_ret
  exact ⟨rfl, HB.out⟩
set_option maxRecDepth 100000 in
set_option maxHeartbeats 4000000 in
theorem may2_any (m : Mg) (v : Value) (w : World) (h : MsgV w v m) : Calls Tryd.prog 61 #[v] w fun e w' => e = .returned (.bool (mayP 2 m)) ∧ Below w.heap.size w w' := by
  obtain ⟨A, cA, T, cT, rfl, hA, hT, l1, l2, l3⟩ := h
  have HB : Hid (Below w.heap.size w (w.alloc (.cells #[.int .i64 m.kd, .int .i64 m.fr, .int .i64 m.to, .int .u64 (m.sq : Int), .int .i64 m.wh, .int .u64 m.k.i, .int .i64 m.k.s, (.slice A m.ns.length cA), (.slice T m.tb.length cT), .int .u64 (m.ep : Int), .int .u64 (m.bo : Int), .int .i64 m.ak, .string m.ts, .int .u64 (m.tn : Int), .bool m.gd] 28))) := Lib.hid ((Below.refl _ _).alloc (Nat.le_refl _) _)
  have HK := Lib.hid (fun (W : World) (g : Nat) (h : Bx W g m.k) => check_any (some ⟨g, 0, none⟩) 1 [m.k] W (by simp) (fun j hj => ⟨_, rfl, h.lt, by
    match j, hj with
    | 0, _ => exact ⟨by simpa [Addr.add, kn] using h.1, by simpa [Addr.add, kn] using h.2⟩⟩) (mayP 2 m) (by simp [mayL, mayP]))
  have HB2 : Hid (Below w.heap.size w ((w.alloc (.cells #[.int .i64 m.kd, .int .i64 m.fr, .int .i64 m.to, .int .u64 (m.sq : Int), .int .i64 m.wh, .int .u64 m.k.i, .int .i64 m.k.s, (.slice A m.ns.length cA), (.slice T m.tb.length cT), .int .u64 (m.ep : Int), .int .u64 (m.bo : Int), .int .i64 m.ak, .string m.ts, .int .u64 (m.tn : Int), .bool m.gd] 28)).alloc (.cells #[.int .u64 m.k.i, .int .i64 m.k.s] 24))) := Lib.hid (HB.out.alloc (by simp) _)
  have BX : Hid (Bx ((w.alloc (.cells #[.int .i64 m.kd, .int .i64 m.fr, .int .i64 m.to, .int .u64 (m.sq : Int), .int .i64 m.wh, .int .u64 m.k.i, .int .i64 m.k.s, (.slice A m.ns.length cA), (.slice T m.tb.length cT), .int .u64 (m.ep : Int), .int .u64 (m.bo : Int), .int .i64 m.ak, .string m.ts, .int .u64 (m.tn : Int), .bool m.gd] 28)).alloc (.cells #[.int .u64 m.k.i, .int .i64 m.k.s] 24)) (w.heap.size + 1) m.k) := Lib.hid (by have := Bx.new (w.alloc (.cells #[.int .i64 m.kd, .int .i64 m.fr, .int .i64 m.to, .int .u64 (m.sq : Int), .int .i64 m.wh, .int .u64 m.k.i, .int .i64 m.k.s, (.slice A m.ns.length cA), (.slice T m.tb.length cT), .int .u64 (m.ep : Int), .int .u64 (m.bo : Int), .int .i64 m.ak, .string m.ts, .int .u64 (m.tn : Int), .bool m.gd] 28)) m.k 24; simpa using this)
  have HC := Lib.hid (HK.out _ _ BX.out)
  clear HK BX
  have hO : okE (mayP 2 m) = 0 ↔ mayP 2 m = true := by cases mayP 2 m <;> simp [okE]
  generalize mayP 2 m = R at *
  unfold mvv
  generalize m.kd = kd at *
  generalize m.fr = fr at *
  generalize m.to = tt at *
  generalize m.sq = sq at *
  generalize m.wh = wh at *
  generalize m.k.i = ki at *
  generalize m.k.s = ks at *
  generalize m.ns = ns at *
  generalize m.tb = tb at *
  generalize m.ep = ep at *
  generalize m.bo = bo at *
  generalize m.ak = ak at *
  generalize m.ts = ts at *
  generalize m.tn = tn at *
  generalize m.gd = gd at *
  go_enter Tryd.func61, Tryd.ntmps61
  go_wp2_with (go_at_call 62; refine HC.out.mono ?_; rintro e w2 ⟨rfl, hb⟩)
  go_ret
  exact ⟨ret_bool' (by rw [Bool.eq_iff_iff]; simpa using hO), HB2.out.trans (hb.mono HB2.out.size)⟩
set_option maxRecDepth 100000 in
set_option maxHeartbeats 4000000 in
theorem may3_any (m : Mg) (v : Value) (w : World) (h : MsgV w v m) : Calls Tryd.prog 68 #[v] w fun e w' => e = .returned (.bool (mayP 3 m)) ∧ Below w.heap.size w w' := by
  obtain ⟨A, cA, T, cT, rfl, hA, hT, l1, l2, l3⟩ := h
  have HB : Hid (Below w.heap.size w (w.alloc (.cells #[.int .i64 m.kd, .int .i64 m.fr, .int .i64 m.to, .int .u64 (m.sq : Int), .int .i64 m.wh, .int .u64 m.k.i, .int .i64 m.k.s, (.slice A m.ns.length cA), (.slice T m.tb.length cT), .int .u64 (m.ep : Int), .int .u64 (m.bo : Int), .int .i64 m.ak, .string m.ts, .int .u64 (m.tn : Int), .bool m.gd] 28))) := Lib.hid ((Below.refl _ _).alloc (Nat.le_refl _) _)
  have HC := Lib.hid (fun (W : World) (hb : Below w.heap.size w W) => maynews_any A cA m.ns W l1 (hA.on hb))
  have hR : mayP 3 m = mayNs m.ns := rfl
  rw [hR]
  clear hR hA
  generalize mayNs m.ns = R at *
  unfold mvv
  generalize m.kd = kd at *
  generalize m.fr = fr at *
  generalize m.to = tt at *
  generalize m.sq = sq at *
  generalize m.wh = wh at *
  generalize m.k.i = ki at *
  generalize m.k.s = ks at *
  generalize m.ns = ns at *
  generalize m.tb = tb at *
  generalize m.ep = ep at *
  generalize m.bo = bo at *
  generalize m.ak = ak at *
  generalize m.ts = ts at *
  generalize m.tn = tn at *
  generalize m.gd = gd at *
  go_enter Tryd.func68, Tryd.ntmps68
  go_wp2_with (go_at_call 69; refine (HC.out _ HB.out).mono ?_; rintro e w2 ⟨rfl, hb⟩)
  go_ret
  exact ⟨rfl, HB.out.trans (hb.mono HB.out.size)⟩
set_option maxRecDepth 100000 in
set_option maxHeartbeats 4000000 in
theorem may4_any (m : Mg) (v : Value) (w : World) (h : MsgV w v m) : Calls Tryd.prog 77 #[v] w fun e w' => e = .returned (.bool (mayP 4 m)) ∧ Below w.heap.size w w' := by
  obtain ⟨A, cA, T, cT, rfl, hA, hT, l1, l2, l3⟩ := h
  have HB : Hid (Below w.heap.size w (w.alloc (.cells #[.int .i64 m.kd, .int .i64 m.fr, .int .i64 m.to, .int .u64 (m.sq : Int), .int .i64 m.wh, .int .u64 m.k.i, .int .i64 m.k.s, (.slice A m.ns.length cA), (.slice T m.tb.length cT), .int .u64 (m.ep : Int), .int .u64 (m.bo : Int), .int .i64 m.ak, .string m.ts, .int .u64 (m.tn : Int), .bool m.gd] 28))) := Lib.hid ((Below.refl _ _).alloc (Nat.le_refl _) _)
  have HC := Lib.hid (fun (W : World) (hb : Below w.heap.size w W) => tcheck_any T cT m.tb W l2 (hT.on hb) (mayP 4 m) rfl)
  have hO : okE (mayP 4 m) = 0 ↔ mayP 4 m = true := by cases mayP 4 m <;> simp [okE]
  clear hT
  generalize mayP 4 m = R at *
  unfold mvv
  generalize m.kd = kd at *
  generalize m.fr = fr at *
  generalize m.to = tt at *
  generalize m.sq = sq at *
  generalize m.wh = wh at *
  generalize m.k.i = ki at *
  generalize m.k.s = ks at *
  generalize m.ns = ns at *
  generalize m.tb = tb at *
  generalize m.ep = ep at *
  generalize m.bo = bo at *
  generalize m.ak = ak at *
  generalize m.ts = ts at *
  generalize m.tn = tn at *
  generalize m.gd = gd at *
  go_enter Tryd.func77, Tryd.ntmps77
  go_wp2_with (go_at_call 78; refine (HC.out _ HB.out).mono ?_; rintro e w2 ⟨rfl, hb⟩)
  go_ret
  exact ⟨ret_bool' (by rw [Bool.eq_iff_iff]; simpa using hO), HB.out.trans (hb.mono HB.out.size)⟩
set_option maxRecDepth 100000 in
set_option maxHeartbeats 4000000 in
theorem may7_any (m : Mg) (v : Value) (w : World) (h : MsgV w v m) : Calls Tryd.prog 84 #[v] w fun e w' => e = .returned (.bool (mayP 7 m)) ∧ Below w.heap.size w w' := by
  obtain ⟨A, cA, T, cT, rfl, hA, hT, l1, l2, l3⟩ := h
  have HB : Hid (Below w.heap.size w (w.alloc (.cells #[.int .i64 m.kd, .int .i64 m.fr, .int .i64 m.to, .int .u64 (m.sq : Int), .int .i64 m.wh, .int .u64 m.k.i, .int .i64 m.k.s, (.slice A m.ns.length cA), (.slice T m.tb.length cT), .int .u64 (m.ep : Int), .int .u64 (m.bo : Int), .int .i64 m.ak, .string m.ts, .int .u64 (m.tn : Int), .bool m.gd] 28))) := Lib.hid ((Below.refl _ _).alloc (Nat.le_refl _) _)
  have hR : mayP 7 m = (decide (0 ≤ m.ak) && decide (m.ak ≤ 1099511627776)) := rfl
  rw [hR]
  clear hR
  rcases e0 : decide (0 ≤ m.ak) with _ | _
  · rw [Bool.false_and]
    unfold mvv
    generalize m.kd = kd at *
    generalize m.fr = fr at *
    generalize m.to = tt at *
    generalize m.sq = sq at *
    generalize m.wh = wh at *
    generalize m.k.i = ki at *
    generalize m.k.s = ks at *
    generalize m.ns = ns at *
    generalize m.tb = tb at *
    generalize m.ep = ep at *
    generalize m.bo = bo at *
    generalize m.ak = ak at *
    generalize m.ts = ts at *
    generalize m.tn = tn at *
    generalize m.gd = gd at *
    go_enter Tryd.func84, Tryd.ntmps84
    go_wp2_with fail
    go_ret
    exact ⟨rfl, HB.out⟩
  rw [Bool.true_and]
  unfold mvv
  generalize m.kd = kd at *
  generalize m.fr = fr at *
  generalize m.to = tt at *
  generalize m.sq = sq at *
  generalize m.wh = wh at *
  generalize m.k.i = ki at *
  generalize m.k.s = ks at *
  generalize m.ns = ns at *
  generalize m.tb = tb at *
  generalize m.ep = ep at *
  generalize m.bo = bo at *
  generalize m.ak = ak at *
  generalize m.ts = ts at *
  generalize m.tn = tn at *
  generalize m.gd = gd at *
  go_enter Tryd.func84, Tryd.ntmps84
  go_wp2_with fail
  go_ret
  exact ⟨rfl, HB.out⟩
set_option maxRecDepth 100000 in
set_option maxHeartbeats 4000000 in
theorem may8_any (m : Mg) (v : Value) (w : World) (h : MsgV w v m) : Calls Tryd.prog 89 #[v] w fun e w' => e = .returned (.bool (mayP 8 m)) ∧ Below w.heap.size w w' := by
  obtain ⟨A, cA, T, cT, rfl, hA, hT, l1, l2, l3⟩ := h
  have HB : Hid (Below w.heap.size w (w.alloc (.cells #[.int .i64 m.kd, .int .i64 m.fr, .int .i64 m.to, .int .u64 (m.sq : Int), .int .i64 m.wh, .int .u64 m.k.i, .int .i64 m.k.s, (.slice A m.ns.length cA), (.slice T m.tb.length cT), .int .u64 (m.ep : Int), .int .u64 (m.bo : Int), .int .i64 m.ak, .string m.ts, .int .u64 (m.tn : Int), .bool m.gd] 28))) := Lib.hid ((Below.refl _ _).alloc (Nat.le_refl _) _)
  have HC := Lib.hid (fun (W : World) => name_any m.ts W (by omega))
  have hR : mayP 8 m = nameB m.ts := rfl
  rw [hR]
  clear hR
  generalize nameB m.ts = R at *
  unfold mvv
  generalize m.kd = kd at *
  generalize m.fr = fr at *
  generalize m.to = tt at *
  generalize m.sq = sq at *
  generalize m.wh = wh at *
  generalize m.k.i = ki at *
  generalize m.k.s = ks at *
  generalize m.ns = ns at *
  generalize m.tb = tb at *
  generalize m.ep = ep at *
  generalize m.bo = bo at *
  generalize m.ak = ak at *
  generalize m.ts = ts at *
  generalize m.tn = tn at *
  generalize m.gd = gd at *
  go_enter Tryd.func89, Tryd.ntmps89
  go_wp2_with (go_at_call 15; refine (HC.out _).mono ?_; rintro e w2 ⟨rfl, hb⟩)
  go_ret
  exact ⟨rfl, HB.out.trans (hb.mono HB.out.size)⟩
set_option maxRecDepth 100000 in
set_option maxHeartbeats 4000000 in
theorem zero1_any (m : Mg) (v : Value) (w : World) (h : MsgV w v m) : Calls Tryd.prog 57 #[v] w fun e w' => e = .returned (.bool (zeroP 1 m)) ∧ Below w.heap.size w w' := by
  obtain ⟨A, cA, T, cT, rfl, hA, hT, l1, l2, l3⟩ := h
  have HB : Hid (Below w.heap.size w (w.alloc (.cells #[.int .i64 m.kd, .int .i64 m.fr, .int .i64 m.to, .int .u64 (m.sq : Int), .int .i64 m.wh, .int .u64 m.k.i, .int .i64 m.k.s, (.slice A m.ns.length cA), (.slice T m.tb.length cT), .int .u64 (m.ep : Int), .int .u64 (m.bo : Int), .int .i64 m.ak, .string m.ts, .int .u64 (m.tn : Int), .bool m.gd] 28))) := Lib.hid ((Below.refl _ _).alloc (Nat.le_refl _) _)
  have hR : zeroP 1 m = decide (m.wh = 0) := rfl
  rw [hR]
  clear hR
  unfold mvv
  generalize m.kd = kd at *
  generalize m.fr = fr at *
  generalize m.to = tt at *
  generalize m.sq = sq at *
  generalize m.wh = wh at *
  generalize m.k.i = ki at *
  generalize m.k.s = ks at *
  generalize m.ns = ns at *
  generalize m.tb = tb at *
  generalize m.ep = ep at *
  generalize m.bo = bo at *
  generalize m.ak = ak at *
  generalize m.ts = ts at *
  generalize m.tn = tn at *
  generalize m.gd = gd at *
  go_enter Tryd.func57, Tryd.ntmps57
  go_wp2_with fail
  go_ret
  exact ⟨ret_bool' (by rw [Bool.eq_iff_iff]; simp), HB.out⟩
set_option maxRecDepth 100000 in
set_option maxHeartbeats 4000000 in
theorem zero2_any (m : Mg) (v : Value) (w : World) (h : MsgV w v m) : Calls Tryd.prog 63 #[v] w fun e w' => e = .returned (.bool (zeroP 2 m)) ∧ Below w.heap.size w w' := by
  obtain ⟨A, cA, T, cT, rfl, hA, hT, l1, l2, l3⟩ := h
  have HB : Hid (Below w.heap.size w (w.alloc (.cells #[.int .i64 m.kd, .int .i64 m.fr, .int .i64 m.to, .int .u64 (m.sq : Int), .int .i64 m.wh, .int .u64 m.k.i, .int .i64 m.k.s, (.slice A m.ns.length cA), (.slice T m.tb.length cT), .int .u64 (m.ep : Int), .int .u64 (m.bo : Int), .int .i64 m.ak, .string m.ts, .int .u64 (m.tn : Int), .bool m.gd] 28))) := Lib.hid ((Below.refl _ _).alloc (Nat.le_refl _) _)
  have hR : zeroP 2 m = (decide (m.k.i = 0) && decide (m.k.s = 0)) := by
    show decide (m.k = z0) = _
    rw [Bool.eq_iff_iff, Bool.and_eq_true, decide_eq_true_eq, decide_eq_true_eq, decide_eq_true_eq]
    constructor
    · intro e; rw [e]; exact ⟨rfl, rfl⟩
    · rintro ⟨e1, e2⟩; rcases hk : m.k with ⟨i, s⟩; rw [hk] at e1 e2; simp only at e1 e2; rw [e1, e2]; rfl
  rw [hR]
  clear hR
  unfold mvv
  generalize m.kd = kd at *
  generalize m.fr = fr at *
  generalize m.to = tt at *
  generalize m.sq = sq at *
  generalize m.wh = wh at *
  generalize m.k.i = ki at *
  generalize m.k.s = ks at *
  generalize m.ns = ns at *
  generalize m.tb = tb at *
  generalize m.ep = ep at *
  generalize m.bo = bo at *
  generalize m.ak = ak at *
  generalize m.ts = ts at *
  generalize m.tn = tn at *
  generalize m.gd = gd at *
  by_cases h1 : ki = 0
  · subst h1
    by_cases h2 : ks = 0
    · subst h2
      go_enter Tryd.func63, Tryd.ntmps63
      go_wp2_with fail
      go_ret
      exact ⟨rfl, HB.out⟩
    · go_enter Tryd.func63, Tryd.ntmps63
      go_wp2_with fail
      go_ret
      exact ⟨ret_bool' (by simp [h2]), HB.out⟩
  · go_enter Tryd.func63, Tryd.ntmps63
    go_wp2_with fail
    go_ret
    exact ⟨ret_bool' (by simp [h1]), HB.out⟩
set_option maxRecDepth 100000 in
set_option maxHeartbeats 4000000 in
theorem zero3_any (m : Mg) (v : Value) (w : World) (h : MsgV w v m) : Calls Tryd.prog 70 #[v] w fun e w' => e = .returned (.bool (zeroP 3 m)) ∧ Below w.heap.size w w' := by
  obtain ⟨A, cA, T, cT, rfl, hA, hT, l1, l2, l3⟩ := h
  have HB : Hid (Below w.heap.size w (w.alloc (.cells #[.int .i64 m.kd, .int .i64 m.fr, .int .i64 m.to, .int .u64 (m.sq : Int), .int .i64 m.wh, .int .u64 m.k.i, .int .i64 m.k.s, (.slice A m.ns.length cA), (.slice T m.tb.length cT), .int .u64 (m.ep : Int), .int .u64 (m.bo : Int), .int .i64 m.ak, .string m.ts, .int .u64 (m.tn : Int), .bool m.gd] 28))) := Lib.hid ((Below.refl _ _).alloc (Nat.le_refl _) _)
  have hR : zeroP 3 m = decide (m.ns.length = 0) := by
    show decide (m.ns = []) = _
    rw [Bool.eq_iff_iff, decide_eq_true_eq, decide_eq_true_eq, List.length_eq_zero_iff]
  rw [hR]
  clear hR hA
  generalize m.ns.length = n at *
  unfold mvv
  generalize m.kd = kd at *
  generalize m.fr = fr at *
  generalize m.to = tt at *
  generalize m.sq = sq at *
  generalize m.wh = wh at *
  generalize m.k.i = ki at *
  generalize m.k.s = ks at *
  generalize m.tb = tb at *
  generalize m.ep = ep at *
  generalize m.bo = bo at *
  generalize m.ak = ak at *
  generalize m.ts = ts at *
  generalize m.tn = tn at *
  generalize m.gd = gd at *
  go_enter Tryd.func70, Tryd.ntmps70
  go_wp2_with fail
  go_ret
  exact ⟨ret_bool' (by rw [Bool.eq_iff_iff]; simp), HB.out⟩
set_option maxRecDepth 100000 in
set_option maxHeartbeats 4000000 in
theorem zero4_any (m : Mg) (v : Value) (w : World) (h : MsgV w v m) : Calls Tryd.prog 79 #[v] w fun e w' => e = .returned (.bool (zeroP 4 m)) ∧ Below w.heap.size w w' := by
  obtain ⟨A, cA, T, cT, rfl, hA, hT, l1, l2, l3⟩ := h
  have HB : Hid (Below w.heap.size w (w.alloc (.cells #[.int .i64 m.kd, .int .i64 m.fr, .int .i64 m.to, .int .u64 (m.sq : Int), .int .i64 m.wh, .int .u64 m.k.i, .int .i64 m.k.s, (.slice A m.ns.length cA), (.slice T m.tb.length cT), .int .u64 (m.ep : Int), .int .u64 (m.bo : Int), .int .i64 m.ak, .string m.ts, .int .u64 (m.tn : Int), .bool m.gd] 28))) := Lib.hid ((Below.refl _ _).alloc (Nat.le_refl _) _)
  have hR : zeroP 4 m = decide (m.tb.length = 0) := by
    show decide (m.tb = []) = _
    rw [Bool.eq_iff_iff, decide_eq_true_eq, decide_eq_true_eq, List.length_eq_zero_iff]
  rw [hR]
  clear hR hT
  generalize m.tb.length = n at *
  unfold mvv
  generalize m.kd = kd at *
  generalize m.fr = fr at *
  generalize m.to = tt at *
  generalize m.sq = sq at *
  generalize m.wh = wh at *
  generalize m.k.i = ki at *
  generalize m.k.s = ks at *
  generalize m.ns = ns at *
  generalize m.ep = ep at *
  generalize m.bo = bo at *
  generalize m.ak = ak at *
  generalize m.ts = ts at *
  generalize m.tn = tn at *
  generalize m.gd = gd at *
  go_enter Tryd.func79, Tryd.ntmps79
  go_wp2_with fail
  go_ret
  exact ⟨ret_bool' (by rw [Bool.eq_iff_iff]; simp), HB.out⟩
set_option maxRecDepth 100000 in
set_option maxHeartbeats 4000000 in
theorem zero7_any (m : Mg) (v : Value) (w : World) (h : MsgV w v m) : Calls Tryd.prog 85 #[v] w fun e w' => e = .returned (.bool (zeroP 7 m)) ∧ Below w.heap.size w w' := by
  obtain ⟨A, cA, T, cT, rfl, hA, hT, l1, l2, l3⟩ := h
  have HB : Hid (Below w.heap.size w (w.alloc (.cells #[.int .i64 m.kd, .int .i64 m.fr, .int .i64 m.to, .int .u64 (m.sq : Int), .int .i64 m.wh, .int .u64 m.k.i, .int .i64 m.k.s, (.slice A m.ns.length cA), (.slice T m.tb.length cT), .int .u64 (m.ep : Int), .int .u64 (m.bo : Int), .int .i64 m.ak, .string m.ts, .int .u64 (m.tn : Int), .bool m.gd] 28))) := Lib.hid ((Below.refl _ _).alloc (Nat.le_refl _) _)
  have hR : zeroP 7 m = decide (m.ak = 0) := rfl
  rw [hR]
  clear hR
  unfold mvv
  generalize m.kd = kd at *
  generalize m.fr = fr at *
  generalize m.to = tt at *
  generalize m.sq = sq at *
  generalize m.wh = wh at *
  generalize m.k.i = ki at *
  generalize m.k.s = ks at *
  generalize m.ns = ns at *
  generalize m.tb = tb at *
  generalize m.ep = ep at *
  generalize m.bo = bo at *
  generalize m.ak = ak at *
  generalize m.ts = ts at *
  generalize m.tn = tn at *
  generalize m.gd = gd at *
  go_enter Tryd.func85, Tryd.ntmps85
  go_wp2_with fail
  go_ret
  exact ⟨ret_bool' (by rw [Bool.eq_iff_iff]; simp), HB.out⟩
set_option maxRecDepth 100000 in
set_option maxHeartbeats 4000000 in
theorem zero8_any (m : Mg) (v : Value) (w : World) (h : MsgV w v m) : Calls Tryd.prog 90 #[v] w fun e w' => e = .returned (.bool (zeroP 8 m)) ∧ Below w.heap.size w w' := by
  obtain ⟨A, cA, T, cT, rfl, hA, hT, l1, l2, l3⟩ := h
  have HB : Hid (Below w.heap.size w (w.alloc (.cells #[.int .i64 m.kd, .int .i64 m.fr, .int .i64 m.to, .int .u64 (m.sq : Int), .int .i64 m.wh, .int .u64 m.k.i, .int .i64 m.k.s, (.slice A m.ns.length cA), (.slice T m.tb.length cT), .int .u64 (m.ep : Int), .int .u64 (m.bo : Int), .int .i64 m.ak, .string m.ts, .int .u64 (m.tn : Int), .bool m.gd] 28))) := Lib.hid ((Below.refl _ _).alloc (Nat.le_refl _) _)
  have hR : zeroP 8 m = decide (m.ts = ⟨#[]⟩) := rfl
  rw [hR]
  clear hR
  unfold mvv
  generalize m.kd = kd at *
  generalize m.fr = fr at *
  generalize m.to = tt at *
  generalize m.sq = sq at *
  generalize m.wh = wh at *
  generalize m.k.i = ki at *
  generalize m.k.s = ks at *
  generalize m.ns = ns at *
  generalize m.tb = tb at *
  generalize m.ep = ep at *
  generalize m.bo = bo at *
  generalize m.ak = ak at *
  generalize m.ts = ts at *
  generalize m.tn = tn at *
  generalize m.gd = gd at *
  go_enter Tryd.func90, Tryd.ntmps90
  go_wp2_with fail
  go_ret
  exact ⟨ret_bool' (by rw [Bool.eq_iff_iff]; simp [str_nil]), HB.out⟩
set_option maxRecDepth 100000 in
set_option maxHeartbeats 4000000 in
theorem zero10_any (m : Mg) (v : Value) (w : World) (h : MsgV w v m) : Calls Tryd.prog 96 #[v] w fun e w' => e = .returned (.bool (zeroP 10 m)) ∧ Below w.heap.size w w' := by
  obtain ⟨A, cA, T, cT, rfl, hA, hT, l1, l2, l3⟩ := h
  have HB : Hid (Below w.heap.size w (w.alloc (.cells #[.int .i64 m.kd, .int .i64 m.fr, .int .i64 m.to, .int .u64 (m.sq : Int), .int .i64 m.wh, .int .u64 m.k.i, .int .i64 m.k.s, (.slice A m.ns.length cA), (.slice T m.tb.length cT), .int .u64 (m.ep : Int), .int .u64 (m.bo : Int), .int .i64 m.ak, .string m.ts, .int .u64 (m.tn : Int), .bool m.gd] 28))) := Lib.hid ((Below.refl _ _).alloc (Nat.le_refl _) _)
  have hR : zeroP 10 m = !m.gd := rfl
  rw [hR]
  clear hR
  unfold mvv
  generalize m.kd = kd at *
  generalize m.fr = fr at *
  generalize m.to = tt at *
  generalize m.sq = sq at *
  generalize m.wh = wh at *
  generalize m.k.i = ki at *
  generalize m.k.s = ks at *
  generalize m.ns = ns at *
  generalize m.tb = tb at *
  generalize m.ep = ep at *
  generalize m.bo = bo at *
  generalize m.ak = ak at *
  generalize m.ts = ts at *
  generalize m.tn = tn at *
  generalize m.gd = gd at *
  go_enter Tryd.func96, Tryd.ntmps96
  go_wp2_with fail
  go_ret
  exact ⟨rfl, HB.out⟩
set_option maxRecDepth 100000 in
set_option maxHeartbeats 4000000 in
theorem zeronum_any (f g n : Nat) (m : Mg) (v : Value) (w : World) (h : MsgV w v m) (hg : w.cell? ⟨g, 0, none⟩ = some (.func (.func f) #[] #[])) (hf : Enters Tryd.prog f)
    (hc : ∀ W : World, MsgV W v m → Calls Tryd.prog f #[v] W fun e w' => e = .returned (.int .u64 (n : Int)) ∧ Below W.heap.size W w') :
    Calls Tryd.prog 104 #[v, .pointer (some ⟨g, 0, none⟩)] w fun e w' => e = .returned (.bool (decide (n = 0))) ∧ Below w.heap.size w w' := by
  have hm := h
  obtain ⟨A, cA, T, cT, rfl, hA, hT, l1, l2, l3⟩ := h
  have HB : Hid (Below w.heap.size w (w.alloc (.cells #[.int .i64 m.kd, .int .i64 m.fr, .int .i64 m.to, .int .u64 (m.sq : Int), .int .i64 m.wh, .int .u64 m.k.i, .int .i64 m.k.s, (.slice A m.ns.length cA), (.slice T m.tb.length cT), .int .u64 (m.ep : Int), .int .u64 (m.bo : Int), .int .i64 m.ak, .string m.ts, .int .u64 (m.tn : Int), .bool m.gd] 28))) := Lib.hid ((Below.refl _ _).alloc (Nat.le_refl _) _)
  have hg2 : (w.alloc (.cells #[.int .i64 m.kd, .int .i64 m.fr, .int .i64 m.to, .int .u64 (m.sq : Int), .int .i64 m.wh, .int .u64 m.k.i, .int .i64 m.k.s, (.slice A m.ns.length cA), (.slice T m.tb.length cT), .int .u64 (m.ep : Int), .int .u64 (m.bo : Int), .int .i64 m.ak, .string m.ts, .int .u64 (m.tn : Int), .bool m.gd] 28)).cell? ⟨g, 0, none⟩ = some (.func (.func f) #[] #[]) := (HB.out.cell (World.block_lt_of_cell? w _ hg)).trans hg
  have HC := Lib.hid (hc _ (hm.on HB.out))
  have hf' : ∀ (args : Array Value) (w : World), (callFunc f args).run Tryd.prog w = .ok (.enter f args) w := hf
  clear hf
  clear hA hT hm hc hg
  unfold mvv at *
  generalize m.kd = kd at *
  generalize m.fr = fr at *
  generalize m.to = tt at *
  generalize m.sq = sq at *
  generalize m.wh = wh at *
  generalize m.k.i = ki at *
  generalize m.k.s = ks at *
  generalize m.ns = ns at *
  generalize m.tb = tb at *
  generalize m.ep = ep at *
  generalize m.bo = bo at *
  generalize m.ak = ak at *
  generalize m.ts = ts at *
  generalize m.tn = tn at *
  generalize m.gd = gd at *
  go_enter Tryd.func104, Tryd.ntmps104
  go_wp2_with (go_at_fn f; refine HC.out.mono ?_; rintro e w2 ⟨rfl, hb⟩)
  go_ret
  exact ⟨ret_bool' (by rw [Bool.eq_iff_iff]; simp), HB.out.trans (hb.mono HB.out.size)⟩
end Go.Proofs.YtjeepmdklbfgeaaDoor
