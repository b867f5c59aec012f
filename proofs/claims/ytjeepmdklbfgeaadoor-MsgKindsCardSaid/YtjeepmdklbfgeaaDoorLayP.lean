/-
  The walks of the closures that lay a part of a message down.
-/
import Derived.Test.YtjeepmdklbfgeaaDoorPart
namespace Go.Proofs.YtjeepmdklbfgeaaDoor
open Go.Sort Go.RowKit Go.Proofs.YtjeepmdklbfgeaaDoor.Pure Go.Proofs.YtjeepmdklbfgeaaDoor.W Go.Proofs.YtjeepmdklbfgeaaDoor.W.Pure

set_option maxRecDepth 100000 in
set_option maxHeartbeats 4000000 in
theorem lay1_any (m : Mg) (v : Value) (w : World) (h : MsgV w v m) (_hw : Wf m) (hm : mayP 1 m = true) : Calls Tryd.prog 58 #[v] w fun e w' => e = .returned (.string (tx (layP 1 m))) ∧ Below w.heap.size w w' := by
  obtain ⟨A, cA, T, cT, rfl, hA, hT, l1, l2, l3⟩ := h
  have HB : Hid (Below w.heap.size w (w.alloc (.cells #[.int .i64 m.kd, .int .i64 m.fr, .int .i64 m.to, .int .u64 (m.sq : Int), .int .i64 m.wh, .int .u64 m.k.i, .int .i64 m.k.s, (.slice A m.ns.length cA), (.slice T m.tb.length cT), .int .u64 (m.ep : Int), .int .u64 (m.bo : Int), .int .i64 m.ak, .string m.ts, .int .u64 (m.tn : Int), .bool m.gd] 28))) := Lib.hid ((Below.refl _ _).alloc (Nat.le_refl _) _)
  obtain ⟨n, hn⟩ : ∃ n : Nat, m.wh = (n : Int) := ⟨m.wh.toNat, (nat_of (by have := (isN_iff m.wh).1 hm; omega)).symm⟩
  have hR : layP 1 m = num n := by show num m.wh.toNat = _; rw [hn]; rfl
  have hbd : n < 1099511627777 := by have := (isN_iff m.wh).1 hm; omega
  rw [hR]
  rw [hn] at HB
  have hcv : IntKind.u64.wrap (n : Int) = (n : Int) := IntWalk.u64_in _ ⟨by omega, by omega⟩
  have HC := Lib.hid (fun (W : World) (g : Nat) => tnum1 n g W (by omega))
  clear hR hm
  generalize tx (num n) = R at *
  unfold mvv
  rw [hn]
  clear hn
  generalize m.kd = kd at *
  generalize m.fr = fr at *
  generalize m.to = tt at *
  generalize m.sq = sq at *
  generalize m.k.i = ki at *
  generalize m.k.s = ks at *
  generalize m.ns = ns at *
  generalize m.tb = tb at *
  generalize m.ep = ep at *
  generalize m.bo = bo at *
  generalize m.ak = ak at *
  generalize m.ts = ts at *
  generalize m.tn = tn at *
  generalize m.gd = gd at *
  go_enter Tryd.func58, Tryd.ntmps58
  go_wp2_with (go_at_call 22; refine (HC.out _ _ (by simp) (by go_simp)).mono ?_; rintro e w2 ⟨rfl, hb⟩)
  go_ret
  exact ⟨rfl, (HB.out.alloc (by simp) _).trans (hb.mono (by simp; omega))⟩
set_option maxRecDepth 100000 in
set_option maxHeartbeats 4000000 in
theorem lay7_any (m : Mg) (v : Value) (w : World) (h : MsgV w v m) (_hw : Wf m) (hm : mayP 7 m = true) : Calls Tryd.prog 86 #[v] w fun e w' => e = .returned (.string (tx (layP 7 m))) ∧ Below w.heap.size w w' := by
  obtain ⟨A, cA, T, cT, rfl, hA, hT, l1, l2, l3⟩ := h
  have HB : Hid (Below w.heap.size w (w.alloc (.cells #[.int .i64 m.kd, .int .i64 m.fr, .int .i64 m.to, .int .u64 (m.sq : Int), .int .i64 m.wh, .int .u64 m.k.i, .int .i64 m.k.s, (.slice A m.ns.length cA), (.slice T m.tb.length cT), .int .u64 (m.ep : Int), .int .u64 (m.bo : Int), .int .i64 m.ak, .string m.ts, .int .u64 (m.tn : Int), .bool m.gd] 28))) := Lib.hid ((Below.refl _ _).alloc (Nat.le_refl _) _)
  obtain ⟨n, hn⟩ : ∃ n : Nat, m.ak = (n : Int) := ⟨m.ak.toNat, (nat_of (by have := (show 0 ≤ m.ak ∧ m.ak ≤ 1099511627776 by simpa [mayP] using hm); omega)).symm⟩
  have hR : layP 7 m = num n := by show num m.ak.toNat = _; rw [hn]; rfl
  have hbd : n < 1099511627777 := by have := (show 0 ≤ m.ak ∧ m.ak ≤ 1099511627776 by simpa [mayP] using hm); omega
  rw [hR]
  rw [hn] at HB
  have hcv : IntKind.u64.wrap (n : Int) = (n : Int) := IntWalk.u64_in _ ⟨by omega, by omega⟩
  have HC := Lib.hid (fun (W : World) (g : Nat) => tnum1 n g W (by omega))
  clear hR hm
  generalize tx (num n) = R at *
  unfold mvv
  rw [hn]
  clear hn
  generalize m.kd = kd at *
  generalize m.fr = fr at *
  generalize m.to = tt at *
  generalize m.sq = sq at *
  generalize m.wh = wh at *
  generalize m.k.i = ki at *
  generalize m.k.s = ks at *
  generalize m.ns = ns at *
  generalize m.tb = tb at *
  generalize m.ep = ep at *
  generalize m.bo = bo at *
  generalize m.ts = ts at *
  generalize m.tn = tn at *
  generalize m.gd = gd at *
  go_enter Tryd.func86, Tryd.ntmps86
  go_wp2_with (go_at_call 22; refine (HC.out _ _ (by simp) (by go_simp)).mono ?_; rintro e w2 ⟨rfl, hb⟩)
  go_ret
  exact ⟨rfl, (HB.out.alloc (by simp) _).trans (hb.mono (by simp; omega))⟩
set_option maxRecDepth 100000 in
set_option maxHeartbeats 4000000 in
theorem lay2_any (m : Mg) (v : Value) (w : World) (h : MsgV w v m) (hw : Wf m) (hm : mayP 2 m = true) : Calls Tryd.prog 64 #[v] w fun e w' => e = .returned (.string (tx (layP 2 m))) ∧ Below w.heap.size w w' := by
  obtain ⟨A, cA, T, cT, rfl, hA, hT, l1, l2, l3⟩ := h
  have HB : Hid (Below w.heap.size w (w.alloc (.cells #[.int .i64 m.kd, .int .i64 m.fr, .int .i64 m.to, .int .u64 (m.sq : Int), .int .i64 m.wh, .int .u64 m.k.i, .int .i64 m.k.s, (.slice A m.ns.length cA), (.slice T m.tb.length cT), .int .u64 (m.ep : Int), .int .u64 (m.bo : Int), .int .i64 m.ak, .string m.ts, .int .u64 (m.tn : Int), .bool m.gd] 28))) := Lib.hid ((Below.refl _ _).alloc (Nat.le_refl _) _)
  have HC := Lib.hid (fun (W : World) => layknow_any m.k W hw.k hm)
  have hR : layP 2 m = layK m.k := rfl
  rw [hR]
  clear hR hm
  generalize tx (layK m.k) = R at *
  unfold mvv
  generalize m.kd = kd at *
  generalize m.fr = fr at *
  generalize m.to = tt at *
  generalize m.sq = sq at *
  generalize m.wh = wh at *
  generalize m.k.i = ki at *
  generalize m.k.s = ks at *
  generalize m.ns = ns at *
  generalize m.tb = tb at *
  generalize m.ep = ep at *
  generalize m.bo = bo at *
  generalize m.ak = ak at *
  generalize m.ts = ts at *
  generalize m.tn = tn at *
  generalize m.gd = gd at *
  go_enter Tryd.func64, Tryd.ntmps64
  go_wp2_with (go_at_call 65; refine (HC.out _).mono ?_; rintro e w2 ⟨rfl, hb⟩)
  go_ret
  exact ⟨rfl, HB.out.trans (hb.mono HB.out.size)⟩
set_option maxRecDepth 100000 in
set_option maxHeartbeats 4000000 in
theorem lay3_any (m : Mg) (v : Value) (w : World) (h : MsgV w v m) (hw : Wf m) (hm : mayP 3 m = true) : Calls Tryd.prog 71 #[v] w fun e w' => e = .returned (.string (tx (layP 3 m))) ∧ Below w.heap.size w w' := by
  obtain ⟨A, cA, T, cT, rfl, hA, hT, l1, l2, l3⟩ := h
  have HB : Hid (Below w.heap.size w (w.alloc (.cells #[.int .i64 m.kd, .int .i64 m.fr, .int .i64 m.to, .int .u64 (m.sq : Int), .int .i64 m.wh, .int .u64 m.k.i, .int .i64 m.k.s, (.slice A m.ns.length cA), (.slice T m.tb.length cT), .int .u64 (m.ep : Int), .int .u64 (m.bo : Int), .int .i64 m.ak, .string m.ts, .int .u64 (m.tn : Int), .bool m.gd] 28))) := Lib.hid ((Below.refl _ _).alloc (Nat.le_refl _) _)
  have hm' : m.ns.length ≤ 8 ∧ ∀ y ∈ m.ns, oneB y = true := by simpa [mayP, mayNs] using hm
  have HC := Lib.hid (fun (W : World) (hb : Below w.heap.size w W) => laylist_News A cA m.ns W (by omega) (hA.on hb) hw.ns hm'.2)
  have hR : layP 3 m = num m.ns.length ++ m.ns.flatMap layN := rfl
  rw [hR]
  clear hR hm hm' hA
  generalize tx (num m.ns.length ++ m.ns.flatMap layN) = R at *
  unfold mvv
  generalize m.kd = kd at *
  generalize m.fr = fr at *
  generalize m.to = tt at *
  generalize m.sq = sq at *
  generalize m.wh = wh at *
  generalize m.k.i = ki at *
  generalize m.k.s = ks at *
  generalize m.ns = ns at *
  generalize m.tb = tb at *
  generalize m.ep = ep at *
  generalize m.bo = bo at *
  generalize m.ak = ak at *
  generalize m.ts = ts at *
  generalize m.tn = tn at *
  generalize m.gd = gd at *
  go_enter Tryd.func71, Tryd.ntmps71
  go_wp2_with (go_at_call 72; refine (HC.out _ HB.out).mono ?_; rintro e w2 ⟨rfl, hb⟩)
  go_ret
  exact ⟨rfl, HB.out.trans (hb.mono HB.out.size)⟩
set_option maxRecDepth 100000 in
set_option maxHeartbeats 4000000 in
theorem lay4_any (m : Mg) (v : Value) (w : World) (h : MsgV w v m) (hw : Wf m) (hm : mayP 4 m = true) : Calls Tryd.prog 80 #[v] w fun e w' => e = .returned (.string (tx (layP 4 m))) ∧ Below w.heap.size w w' := by
  obtain ⟨A, cA, T, cT, rfl, hA, hT, l1, l2, l3⟩ := h
  have HB : Hid (Below w.heap.size w (w.alloc (.cells #[.int .i64 m.kd, .int .i64 m.fr, .int .i64 m.to, .int .u64 (m.sq : Int), .int .i64 m.wh, .int .u64 m.k.i, .int .i64 m.k.s, (.slice A m.ns.length cA), (.slice T m.tb.length cT), .int .u64 (m.ep : Int), .int .u64 (m.bo : Int), .int .i64 m.ak, .string m.ts, .int .u64 (m.tn : Int), .bool m.gd] 28))) := Lib.hid ((Below.refl _ _).alloc (Nat.le_refl _) _)
  have hm' : 1 ≤ m.tb.length ∧ m.tb.length ≤ 64 ∧ mayL m.tb = true := (mayT_iff m.tb).1 hm
  have hm2 : ∀ y ∈ m.tb, mayK y = true := by simpa [mayL] using hm'.2.2
  have HC := Lib.hid (fun (W : World) (hb : Below w.heap.size w W) => laylist_Know T cT m.tb W hm'.2.1 (hT.on hb) hw.tb hm2)
  have hR : layP 4 m = num m.tb.length ++ m.tb.flatMap layK := rfl
  rw [hR]
  clear hR hm hm' hm2 hT
  generalize tx (num m.tb.length ++ m.tb.flatMap layK) = R at *
  unfold mvv
  generalize m.kd = kd at *
  generalize m.fr = fr at *
  generalize m.to = tt at *
  generalize m.sq = sq at *
  generalize m.wh = wh at *
  generalize m.k.i = ki at *
  generalize m.k.s = ks at *
  generalize m.ns = ns at *
  generalize m.tb = tb at *
  generalize m.ep = ep at *
  generalize m.bo = bo at *
  generalize m.ak = ak at *
  generalize m.ts = ts at *
  generalize m.tn = tn at *
  generalize m.gd = gd at *
  go_enter Tryd.func80, Tryd.ntmps80
  go_wp2_with (go_at_call 81; refine (HC.out _ HB.out).mono ?_; rintro e w2 ⟨rfl, hb⟩)
  go_ret
  exact ⟨rfl, HB.out.trans (hb.mono HB.out.size)⟩
set_option maxRecDepth 100000 in
set_option maxHeartbeats 4000000 in
theorem lay8_any (m : Mg) (v : Value) (w : World) (h : MsgV w v m) (_hw : Wf m) (hm : mayP 8 m = true) : Calls Tryd.prog 91 #[v] w fun e w' => e = .returned (.string (tx (layP 8 m))) ∧ Below w.heap.size w w' := by
  obtain ⟨A, cA, T, cT, rfl, hA, hT, l1, l2, l3⟩ := h
  have HB : Hid (Below w.heap.size w (w.alloc (.cells #[.int .i64 m.kd, .int .i64 m.fr, .int .i64 m.to, .int .u64 (m.sq : Int), .int .i64 m.wh, .int .u64 m.k.i, .int .i64 m.k.s, (.slice A m.ns.length cA), (.slice T m.tb.length cT), .int .u64 (m.ep : Int), .int .u64 (m.bo : Int), .int .i64 m.ak, .string m.ts, .int .u64 (m.tn : Int), .bool m.gd] 28))) := Lib.hid ((Below.refl _ _).alloc (Nat.le_refl _) _)
  have hm' : m.ts.size ≤ 20 := by simp [mayP, nameB] at hm; exact hm.2.2
  have HC := Lib.hid (fun (W : World) => laytext_any m.ts W (by omega))
  have hR : layP 8 m = num m.ts.size ++ m.ts.data.toList := rfl
  rw [hR]
  clear hR hm hm'
  generalize tx (num m.ts.size ++ m.ts.data.toList) = R at *
  unfold mvv
  generalize m.kd = kd at *
  generalize m.fr = fr at *
  generalize m.to = tt at *
  generalize m.sq = sq at *
  generalize m.wh = wh at *
  generalize m.k.i = ki at *
  generalize m.k.s = ks at *
  generalize m.ns = ns at *
  generalize m.tb = tb at *
  generalize m.ep = ep at *
  generalize m.bo = bo at *
  generalize m.ak = ak at *
  generalize m.ts = ts at *
  generalize m.tn = tn at *
  generalize m.gd = gd at *
  go_enter Tryd.func91, Tryd.ntmps91
  go_wp2_with (go_at_call 92; refine (HC.out _).mono ?_; rintro e w2 ⟨rfl, hb⟩)
  go_ret
  exact ⟨rfl, HB.out.trans (hb.mono HB.out.size)⟩
set_option maxRecDepth 100000 in
set_option maxHeartbeats 4000000 in
theorem lay10_any (m : Mg) (v : Value) (w : World) (h : MsgV w v m) (_hw : Wf m) (_hm : mayP 10 m = true) : Calls Tryd.prog 97 #[v] w fun e w' => e = .returned (.string (tx (layP 10 m))) ∧ Below w.heap.size w w' := by
  obtain ⟨A, cA, T, cT, rfl, hA, hT, l1, l2, l3⟩ := h
  have HB : Hid (Below w.heap.size w (w.alloc (.cells #[.int .i64 m.kd, .int .i64 m.fr, .int .i64 m.to, .int .u64 (m.sq : Int), .int .i64 m.wh, .int .u64 m.k.i, .int .i64 m.k.s, (.slice A m.ns.length cA), (.slice T m.tb.length cT), .int .u64 (m.ep : Int), .int .u64 (m.bo : Int), .int .i64 m.ak, .string m.ts, .int .u64 (m.tn : Int), .bool m.gd] 28))) := Lib.hid ((Below.refl _ _).alloc (Nat.le_refl _) _)
  have HC := Lib.hid (fun (W : World) => laygood_any m.gd W)
  have hR : layP 10 m = num (if m.gd = true then 1 else 0) := rfl
  rw [hR]
  clear hR
  generalize tx (num (if m.gd = true then 1 else 0)) = R at *
  unfold mvv
  generalize m.kd = kd at *
  generalize m.fr = fr at *
  generalize m.to = tt at *
  generalize m.sq = sq at *
  generalize m.wh = wh at *
  generalize m.k.i = ki at *
  generalize m.k.s = ks at *
  generalize m.ns = ns at *
  generalize m.tb = tb at *
  generalize m.ep = ep at *
  generalize m.bo = bo at *
  generalize m.ak = ak at *
  generalize m.ts = ts at *
  generalize m.tn = tn at *
  generalize m.gd = gd at *
  go_enter Tryd.func97, Tryd.ntmps97
  go_wp2_with (go_at_call 98; refine (HC.out _).mono ?_; rintro e w2 ⟨rfl, hb⟩)
  go_ret
  exact ⟨rfl, HB.out.trans (hb.mono HB.out.size)⟩
set_option maxRecDepth 100000 in
set_option maxHeartbeats 4000000 in
theorem laynum_any (f g n : Nat) (m : Mg) (v : Value) (w : World) (h : MsgV w v m) (hn : n < 2 ^ 64) (hg : w.cell? ⟨g, 0, none⟩ = some (.func (.func f) #[] #[])) (hf : Enters Tryd.prog f)
    (hc : ∀ W : World, MsgV W v m → Calls Tryd.prog f #[v] W fun e w' => e = .returned (.int .u64 (n : Int)) ∧ Below W.heap.size W w') :
    Calls Tryd.prog 105 #[v, .pointer (some ⟨g, 0, none⟩)] w fun e w' => e = .returned (.string (tx (num n))) ∧ Below w.heap.size w w' := by
  have hm := h
  obtain ⟨A, cA, T, cT, rfl, hA, hT, l1, l2, l3⟩ := h
  have HB : Hid (Below w.heap.size w (w.alloc (.cells #[.int .i64 m.kd, .int .i64 m.fr, .int .i64 m.to, .int .u64 (m.sq : Int), .int .i64 m.wh, .int .u64 m.k.i, .int .i64 m.k.s, (.slice A m.ns.length cA), (.slice T m.tb.length cT), .int .u64 (m.ep : Int), .int .u64 (m.bo : Int), .int .i64 m.ak, .string m.ts, .int .u64 (m.tn : Int), .bool m.gd] 28))) := Lib.hid ((Below.refl _ _).alloc (Nat.le_refl _) _)
  have hg2 : (w.alloc (.cells #[.int .i64 m.kd, .int .i64 m.fr, .int .i64 m.to, .int .u64 (m.sq : Int), .int .i64 m.wh, .int .u64 m.k.i, .int .i64 m.k.s, (.slice A m.ns.length cA), (.slice T m.tb.length cT), .int .u64 (m.ep : Int), .int .u64 (m.bo : Int), .int .i64 m.ak, .string m.ts, .int .u64 (m.tn : Int), .bool m.gd] 28)).cell? ⟨g, 0, none⟩ = some (.func (.func f) #[] #[]) := (HB.out.cell (World.block_lt_of_cell? w _ hg)).trans hg
  have HC := Lib.hid (hc _ (hm.on HB.out))
  have HN := Lib.hid (fun (W : World) (g : Nat) => tnum1 n g W hn)
  have hf' : ∀ (args : Array Value) (w : World), (callFunc f args).run Tryd.prog w = .ok (.enter f args) w := hf
  clear hA hT hm hc hg hf
  generalize tx (num n) = R at *
  unfold mvv at *
  generalize m.kd = kd at *
  generalize m.fr = fr at *
  generalize m.to = tt at *
  generalize m.sq = sq at *
  generalize m.wh = wh at *
  generalize m.k.i = ki at *
  generalize m.k.s = ks at *
  generalize m.ns = ns at *
  generalize m.tb = tb at *
  generalize m.ep = ep at *
  generalize m.bo = bo at *
  generalize m.ak = ak at *
  generalize m.ts = ts at *
  generalize m.tn = tn at *
  generalize m.gd = gd at *
  go_enter Tryd.func105, Tryd.ntmps105
  go_wp2_with (first | (go_at_fn f; refine HC.out.mono ?_; rintro e w2 ⟨rfl, hb⟩) | (go_at_call 22; refine (HN.out _ _ (by simp) (by go_simp)).mono ?_; rintro e w3 ⟨rfl, hb3⟩))
  go_ret
  have h2 : Below w.heap.size w w2 := HB.out.trans (hb.mono HB.out.size)
  exact ⟨rfl, (h2.alloc h2.size _).trans (hb3.mono (by have := h2.size; simp; omega))⟩
end Go.Proofs.YtjeepmdklbfgeaaDoor
