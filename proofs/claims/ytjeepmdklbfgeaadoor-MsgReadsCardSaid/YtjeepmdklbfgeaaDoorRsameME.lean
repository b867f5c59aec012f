/-
  The walk of the document's Same. (5)
-/
import Derived.Test.YtjeepmdklbfgeaaDoorKeeps
import Derived.Test.YtjeepmdklbfgeaaDoorSameN
namespace Go.Proofs.YtjeepmdklbfgeaaDoor
open Go.Sort Go.RowKit Go.Proofs.YtjeepmdklbfgeaaDoor.Pure Go.Proofs.YtjeepmdklbfgeaaDoor.W Go.Proofs.YtjeepmdklbfgeaaDoor.W.Pure

set_option maxRecDepth 100000 in
set_option maxHeartbeats 4000000 in
theorem rsame_msg_13 (a b : Mg) (u v : Value) (w : World) (h : MsgV w u a) (h' : MsgV w v b) (h0 : a.kd = b.kd) (h1 : a.fr = b.fr) (h2 : a.to = b.to) (h3 : a.sq = b.sq) (h4 : a.wh = b.wh) (h5 : a.k = b.k) (h6 : a.ns = b.ns) (h7 : a.tb = b.tb) (h8 : a.ep = b.ep) (h9 : a.bo = b.bo) (h10 : a.ak = b.ak) (h11 : a.ts = b.ts) (h12 : a.tn = b.tn) (hj : ¬ a.gd = b.gd) : Calls Tryd.prog 14 #[u, v] w fun e w' => e = .returned (.bool false) ∧ Below w.heap.size w w' := by
  obtain ⟨A, cA, T, cT, rfl, hA, hT, l1, l2, l3⟩ := h
  obtain ⟨A', cA', T', cT', rfl, hA', hT', l1', l2', l3'⟩ := h'
  have hb1 : Below w.heap.size w (w.alloc (.cells #[.int .i64 a.kd, .int .i64 a.fr, .int .i64 a.to, .int .u64 (a.sq : Int), .int .i64 a.wh, .int .u64 a.k.i, .int .i64 a.k.s, (.slice A a.ns.length cA), (.slice T a.tb.length cT), .int .u64 (a.ep : Int), .int .u64 (a.bo : Int), .int .i64 a.ak, .string a.ts, .int .u64 (a.tn : Int), .bool a.gd] 28)) := (Below.refl _ _).alloc (Nat.le_refl _) _
  have hb2 : Below w.heap.size w ((w.alloc (.cells #[.int .i64 a.kd, .int .i64 a.fr, .int .i64 a.to, .int .u64 (a.sq : Int), .int .i64 a.wh, .int .u64 a.k.i, .int .i64 a.k.s, (.slice A a.ns.length cA), (.slice T a.tb.length cT), .int .u64 (a.ep : Int), .int .u64 (a.bo : Int), .int .i64 a.ak, .string a.ts, .int .u64 (a.tn : Int), .bool a.gd] 28)).alloc (.cells #[.int .i64 b.kd, .int .i64 b.fr, .int .i64 b.to, .int .u64 (b.sq : Int), .int .i64 b.wh, .int .u64 b.k.i, .int .i64 b.k.s, (.slice A' b.ns.length cA'), (.slice T' b.tb.length cT'), .int .u64 (b.ep : Int), .int .u64 (b.bo : Int), .int .i64 b.ak, .string b.ts, .int .u64 (b.tn : Int), .bool b.gd] 28)) := hb1.alloc hb1.size _
  have HB2 := Lib.hid hb2
  have hR1 : Row ((w.alloc (.cells #[.int .i64 a.kd, .int .i64 a.fr, .int .i64 a.to, .int .u64 (a.sq : Int), .int .i64 a.wh, .int .u64 a.k.i, .int .i64 a.k.s, (.slice A a.ns.length cA), (.slice T a.tb.length cT), .int .u64 (a.ep : Int), .int .u64 (a.bo : Int), .int .i64 a.ak, .string a.ts, .int .u64 (a.tn : Int), .bool a.gd] 28)).alloc (.cells #[.int .i64 b.kd, .int .i64 b.fr, .int .i64 b.to, .int .u64 (b.sq : Int), .int .i64 b.wh, .int .u64 b.k.i, .int .i64 b.k.s, (.slice A' b.ns.length cA'), (.slice T' b.tb.length cT'), .int .u64 (b.ep : Int), .int .u64 (b.bo : Int), .int .i64 b.ak, .string b.ts, .int .u64 (b.tn : Int), .bool b.gd] 28)) w.heap.size [.int .i64 a.kd, .int .i64 a.fr, .int .i64 a.to, .int .u64 (a.sq : Int), .int .i64 a.wh, .int .u64 a.k.i, .int .i64 a.k.s, (.slice A a.ns.length cA), (.slice T a.tb.length cT), .int .u64 (a.ep : Int), .int .u64 (a.bo : Int), .int .i64 a.ak, .string a.ts, .int .u64 (a.tn : Int), .bool a.gd] := (Row.new w _ _).on ((Below.refl _ _).alloc (Nat.le_refl _) _) (show 0 < 15 by decide)
  have hR2 : Row ((w.alloc (.cells #[.int .i64 a.kd, .int .i64 a.fr, .int .i64 a.to, .int .u64 (a.sq : Int), .int .i64 a.wh, .int .u64 a.k.i, .int .i64 a.k.s, (.slice A a.ns.length cA), (.slice T a.tb.length cT), .int .u64 (a.ep : Int), .int .u64 (a.bo : Int), .int .i64 a.ak, .string a.ts, .int .u64 (a.tn : Int), .bool a.gd] 28)).alloc (.cells #[.int .i64 b.kd, .int .i64 b.fr, .int .i64 b.to, .int .u64 (b.sq : Int), .int .i64 b.wh, .int .u64 b.k.i, .int .i64 b.k.s, (.slice A' b.ns.length cA'), (.slice T' b.tb.length cT'), .int .u64 (b.ep : Int), .int .u64 (b.bo : Int), .int .i64 b.ak, .string b.ts, .int .u64 (b.tn : Int), .bool b.gd] 28)) (w.heap.size + 1) [.int .i64 b.kd, .int .i64 b.fr, .int .i64 b.to, .int .u64 (b.sq : Int), .int .i64 b.wh, .int .u64 b.k.i, .int .i64 b.k.s, (.slice A' b.ns.length cA'), (.slice T' b.tb.length cT'), .int .u64 (b.ep : Int), .int .u64 (b.bo : Int), .int .i64 b.ak, .string b.ts, .int .u64 (b.tn : Int), .bool b.gd] := by
    have := Row.new (w.alloc (.cells #[.int .i64 a.kd, .int .i64 a.fr, .int .i64 a.to, .int .u64 (a.sq : Int), .int .i64 a.wh, .int .u64 a.k.i, .int .i64 a.k.s, (.slice A a.ns.length cA), (.slice T a.tb.length cT), .int .u64 (a.ep : Int), .int .u64 (a.bo : Int), .int .i64 a.ak, .string a.ts, .int .u64 (a.tn : Int), .bool a.gd] 28)) #[.int .i64 b.kd, .int .i64 b.fr, .int .i64 b.to, .int .u64 (b.sq : Int), .int .i64 b.wh, .int .u64 b.k.i, .int .i64 b.k.s, (.slice A' b.ns.length cA'), (.slice T' b.tb.length cT'), .int .u64 (b.ep : Int), .int .u64 (b.bo : Int), .int .i64 b.ak, .string b.ts, .int .u64 (b.tn : Int), .bool b.gd] 28
    simpa using this
  have HR1 := Lib.hid hR1
  have HR2 := Lib.hid hR2
  have HN := Lib.hid (fun W (hb : Below w.heap.size w W) => rsame_nw A A' cA cA' a.ns b.ns W l1 (hA.on hb) (hA'.on hb) true (decide_eq_true h6))
  have HK := Lib.hid (fun W (hb : Below w.heap.size w W) => rsame_any T T' cT cT' a.tb b.tb W l2 (hT.on hb) (hT'.on hb) true (decide_eq_true h7))
  clear hb1 hb2 hR1 hR2 hA hT hA' hT' l1 l2 l3 l1' l2' l3' h6 h7
  unfold mvv
  obtain ⟨a_kd, a_fr, a_tt, a_sq, a_wh, ⟨a_ki, a_ks⟩, a_ns, a_tb, a_ep, a_bo, a_ak, a_ts, a_tn, a_gd⟩ := a
  obtain ⟨b_kd, b_fr, b_tt, b_sq, b_wh, ⟨b_ki, b_ks⟩, b_ns, b_tb, b_ep, b_bo, b_ak, b_ts, b_tn, b_gd⟩ := b
  simp only [] at *
  subst h0
  subst h1
  subst h2
  subst h3
  subst h4
  obtain ⟨rfl, rfl⟩ : a_ki = b_ki ∧ a_ks = b_ks := by injection h5 with e1 e2; exact ⟨e1, e2⟩
  clear h5
  subst h8
  subst h9
  subst h10
  subst h11
  subst h12
  generalize a_ns.length = nA at *
  generalize b_ns.length = nB at *
  generalize a_tb.length = tA at *
  generalize b_tb.length = tB at *
  go_enter Tryd.func14, Tryd.ntmps14
  go_upto_region 1 with (fail)
  generalize (w.alloc (.cells #[.int .i64 a_kd, .int .i64 a_fr, .int .i64 a_tt, .int .u64 (a_sq : Int), .int .i64 a_wh, .int .u64 a_ki, .int .i64 a_ks, (.slice A nA cA), (.slice T tA cT), .int .u64 (a_ep : Int), .int .u64 (a_bo : Int), .int .i64 a_ak, .string a_ts, .int .u64 (a_tn : Int), .bool a_gd] 28)).alloc (.cells #[.int .i64 a_kd, .int .i64 a_fr, .int .i64 a_tt, .int .u64 (a_sq : Int), .int .i64 a_wh, .int .u64 a_ki, .int .i64 a_ks, (.slice A' nB cA'), (.slice T' tB cT'), .int .u64 (a_ep : Int), .int .u64 (a_bo : Int), .int .i64 a_ak, .string a_ts, .int .u64 (a_tn : Int), .bool b_gd] 28) = w2 at *
  have HNx := Lib.hid (HN.out _ HB2.out)
  clear HN
  have HKx := Lib.hid (fun W (hb : Below w2.heap.size w2 W) => HK.out W (HB2.out.trans (hb.mono HB2.out.size)))
  clear HK
  have x0 := HR1.out.at_ 0 _ rfl
  have y0 := HR2.out.at_ 0 _ rfl
  have x1 := HR1.out.at_ 1 _ rfl
  have y1 := HR2.out.at_ 1 _ rfl
  have x2 := HR1.out.at_ 2 _ rfl
  have y2 := HR2.out.at_ 2 _ rfl
  have x3 := HR1.out.at_ 3 _ rfl
  have y3 := HR2.out.at_ 3 _ rfl
  have x4 := HR1.out.at_ 4 _ rfl
  have y4 := HR2.out.at_ 4 _ rfl
  have x5 := HR1.out.at_ 5 _ rfl
  have y5 := HR2.out.at_ 5 _ rfl
  have x6 := HR1.out.at_ 6 _ rfl
  have y6 := HR2.out.at_ 6 _ rfl
  have x7 := HR1.out.at_ 7 _ rfl
  have y7 := HR2.out.at_ 7 _ rfl
  have x8 := HR1.out.at_ 8 _ rfl
  have y8 := HR2.out.at_ 8 _ rfl
  have x9 := HR1.out.at_ 9 _ rfl
  have y9 := HR2.out.at_ 9 _ rfl
  have x10 := HR1.out.at_ 10 _ rfl
  have y10 := HR2.out.at_ 10 _ rfl
  have x11 := HR1.out.at_ 11 _ rfl
  have y11 := HR2.out.at_ 11 _ rfl
  have x12 := HR1.out.at_ 12 _ rfl
  have y12 := HR2.out.at_ 12 _ rfl
  have x13 := HR1.out.at_ 13 _ rfl
  have y13 := HR2.out.at_ 13 _ rfl
  have x14 := HR1.out.at_ 14 _ rfl
  have y14 := HR2.out.at_ 14 _ rfl
  clear HR1 HR2
  rcases a_gd with _ | _ <;> rcases b_gd with _ | _ <;> first | exact absurd rfl hj | skip
  all_goals
    clear hj
    go_wp2_with (first | (go_at_call 34; refine HNx.out.mono ?_; rintro e w3 ⟨rfl, hb3⟩; replace x8 := (hb3.cell (World.block_lt_of_cell? _ _ x8)).trans x8; replace y8 := (hb3.cell (World.block_lt_of_cell? _ _ y8)).trans y8; replace x9 := (hb3.cell (World.block_lt_of_cell? _ _ x9)).trans x9; replace y9 := (hb3.cell (World.block_lt_of_cell? _ _ y9)).trans y9; replace x10 := (hb3.cell (World.block_lt_of_cell? _ _ x10)).trans x10; replace y10 := (hb3.cell (World.block_lt_of_cell? _ _ y10)).trans y10; replace x11 := (hb3.cell (World.block_lt_of_cell? _ _ x11)).trans x11; replace y11 := (hb3.cell (World.block_lt_of_cell? _ _ y11)).trans y11; replace x12 := (hb3.cell (World.block_lt_of_cell? _ _ x12)).trans x12; replace y12 := (hb3.cell (World.block_lt_of_cell? _ _ y12)).trans y12; replace x13 := (hb3.cell (World.block_lt_of_cell? _ _ x13)).trans x13; replace y13 := (hb3.cell (World.block_lt_of_cell? _ _ y13)).trans y13; replace x14 := (hb3.cell (World.block_lt_of_cell? _ _ x14)).trans x14; replace y14 := (hb3.cell (World.block_lt_of_cell? _ _ y14)).trans y14) | (go_at_call 35; refine (HKx.out _ hb3).mono ?_; rintro e w4 ⟨rfl, hb4⟩; replace x9 := (hb4.cell (World.block_lt_of_cell? _ _ x9)).trans x9; replace y9 := (hb4.cell (World.block_lt_of_cell? _ _ y9)).trans y9; replace x10 := (hb4.cell (World.block_lt_of_cell? _ _ x10)).trans x10; replace y10 := (hb4.cell (World.block_lt_of_cell? _ _ y10)).trans y10; replace x11 := (hb4.cell (World.block_lt_of_cell? _ _ x11)).trans x11; replace y11 := (hb4.cell (World.block_lt_of_cell? _ _ y11)).trans y11; replace x12 := (hb4.cell (World.block_lt_of_cell? _ _ x12)).trans x12; replace y12 := (hb4.cell (World.block_lt_of_cell? _ _ y12)).trans y12; replace x13 := (hb4.cell (World.block_lt_of_cell? _ _ x13)).trans x13; replace y13 := (hb4.cell (World.block_lt_of_cell? _ _ y13)).trans y13; replace x14 := (hb4.cell (World.block_lt_of_cell? _ _ x14)).trans x14; replace y14 := (hb4.cell (World.block_lt_of_cell? _ _ y14)).trans y14))
    go_ret
    exact ⟨rfl, (HB2.out.trans (hb3.mono HB2.out.size)).trans (hb4.mono (HB2.out.trans (hb3.mono HB2.out.size)).size)⟩
set_option maxRecDepth 100000 in
set_option maxHeartbeats 4000000 in
theorem rsame_msg_14 (a b : Mg) (u v : Value) (w : World) (h : MsgV w u a) (h' : MsgV w v b) (h0 : a.kd = b.kd) (h1 : a.fr = b.fr) (h2 : a.to = b.to) (h3 : a.sq = b.sq) (h4 : a.wh = b.wh) (h5 : a.k = b.k) (h6 : a.ns = b.ns) (h7 : a.tb = b.tb) (h8 : a.ep = b.ep) (h9 : a.bo = b.bo) (h10 : a.ak = b.ak) (h11 : a.ts = b.ts) (h12 : a.tn = b.tn) (h13 : a.gd = b.gd) : Calls Tryd.prog 14 #[u, v] w fun e w' => e = .returned (.bool true) ∧ Below w.heap.size w w' := by
  obtain ⟨A, cA, T, cT, rfl, hA, hT, l1, l2, l3⟩ := h
  obtain ⟨A', cA', T', cT', rfl, hA', hT', l1', l2', l3'⟩ := h'
  have hb1 : Below w.heap.size w (w.alloc (.cells #[.int .i64 a.kd, .int .i64 a.fr, .int .i64 a.to, .int .u64 (a.sq : Int), .int .i64 a.wh, .int .u64 a.k.i, .int .i64 a.k.s, (.slice A a.ns.length cA), (.slice T a.tb.length cT), .int .u64 (a.ep : Int), .int .u64 (a.bo : Int), .int .i64 a.ak, .string a.ts, .int .u64 (a.tn : Int), .bool a.gd] 28)) := (Below.refl _ _).alloc (Nat.le_refl _) _
  have hb2 : Below w.heap.size w ((w.alloc (.cells #[.int .i64 a.kd, .int .i64 a.fr, .int .i64 a.to, .int .u64 (a.sq : Int), .int .i64 a.wh, .int .u64 a.k.i, .int .i64 a.k.s, (.slice A a.ns.length cA), (.slice T a.tb.length cT), .int .u64 (a.ep : Int), .int .u64 (a.bo : Int), .int .i64 a.ak, .string a.ts, .int .u64 (a.tn : Int), .bool a.gd] 28)).alloc (.cells #[.int .i64 b.kd, .int .i64 b.fr, .int .i64 b.to, .int .u64 (b.sq : Int), .int .i64 b.wh, .int .u64 b.k.i, .int .i64 b.k.s, (.slice A' b.ns.length cA'), (.slice T' b.tb.length cT'), .int .u64 (b.ep : Int), .int .u64 (b.bo : Int), .int .i64 b.ak, .string b.ts, .int .u64 (b.tn : Int), .bool b.gd] 28)) := hb1.alloc hb1.size _
  have HB2 := Lib.hid hb2
  have hR1 : Row ((w.alloc (.cells #[.int .i64 a.kd, .int .i64 a.fr, .int .i64 a.to, .int .u64 (a.sq : Int), .int .i64 a.wh, .int .u64 a.k.i, .int .i64 a.k.s, (.slice A a.ns.length cA), (.slice T a.tb.length cT), .int .u64 (a.ep : Int), .int .u64 (a.bo : Int), .int .i64 a.ak, .string a.ts, .int .u64 (a.tn : Int), .bool a.gd] 28)).alloc (.cells #[.int .i64 b.kd, .int .i64 b.fr, .int .i64 b.to, .int .u64 (b.sq : Int), .int .i64 b.wh, .int .u64 b.k.i, .int .i64 b.k.s, (.slice A' b.ns.length cA'), (.slice T' b.tb.length cT'), .int .u64 (b.ep : Int), .int .u64 (b.bo : Int), .int .i64 b.ak, .string b.ts, .int .u64 (b.tn : Int), .bool b.gd] 28)) w.heap.size [.int .i64 a.kd, .int .i64 a.fr, .int .i64 a.to, .int .u64 (a.sq : Int), .int .i64 a.wh, .int .u64 a.k.i, .int .i64 a.k.s, (.slice A a.ns.length cA), (.slice T a.tb.length cT), .int .u64 (a.ep : Int), .int .u64 (a.bo : Int), .int .i64 a.ak, .string a.ts, .int .u64 (a.tn : Int), .bool a.gd] := (Row.new w _ _).on ((Below.refl _ _).alloc (Nat.le_refl _) _) (show 0 < 15 by decide)
  have hR2 : Row ((w.alloc (.cells #[.int .i64 a.kd, .int .i64 a.fr, .int .i64 a.to, .int .u64 (a.sq : Int), .int .i64 a.wh, .int .u64 a.k.i, .int .i64 a.k.s, (.slice A a.ns.length cA), (.slice T a.tb.length cT), .int .u64 (a.ep : Int), .int .u64 (a.bo : Int), .int .i64 a.ak, .string a.ts, .int .u64 (a.tn : Int), .bool a.gd] 28)).alloc (.cells #[.int .i64 b.kd, .int .i64 b.fr, .int .i64 b.to, .int .u64 (b.sq : Int), .int .i64 b.wh, .int .u64 b.k.i, .int .i64 b.k.s, (.slice A' b.ns.length cA'), (.slice T' b.tb.length cT'), .int .u64 (b.ep : Int), .int .u64 (b.bo : Int), .int .i64 b.ak, .string b.ts, .int .u64 (b.tn : Int), .bool b.gd] 28)) (w.heap.size + 1) [.int .i64 b.kd, .int .i64 b.fr, .int .i64 b.to, .int .u64 (b.sq : Int), .int .i64 b.wh, .int .u64 b.k.i, .int .i64 b.k.s, (.slice A' b.ns.length cA'), (.slice T' b.tb.length cT'), .int .u64 (b.ep : Int), .int .u64 (b.bo : Int), .int .i64 b.ak, .string b.ts, .int .u64 (b.tn : Int), .bool b.gd] := by
    have := Row.new (w.alloc (.cells #[.int .i64 a.kd, .int .i64 a.fr, .int .i64 a.to, .int .u64 (a.sq : Int), .int .i64 a.wh, .int .u64 a.k.i, .int .i64 a.k.s, (.slice A a.ns.length cA), (.slice T a.tb.length cT), .int .u64 (a.ep : Int), .int .u64 (a.bo : Int), .int .i64 a.ak, .string a.ts, .int .u64 (a.tn : Int), .bool a.gd] 28)) #[.int .i64 b.kd, .int .i64 b.fr, .int .i64 b.to, .int .u64 (b.sq : Int), .int .i64 b.wh, .int .u64 b.k.i, .int .i64 b.k.s, (.slice A' b.ns.length cA'), (.slice T' b.tb.length cT'), .int .u64 (b.ep : Int), .int .u64 (b.bo : Int), .int .i64 b.ak, .string b.ts, .int .u64 (b.tn : Int), .bool b.gd] 28
    simpa using this
  have HR1 := Lib.hid hR1
  have HR2 := Lib.hid hR2
  have HN := Lib.hid (fun W (hb : Below w.heap.size w W) => rsame_nw A A' cA cA' a.ns b.ns W l1 (hA.on hb) (hA'.on hb) true (decide_eq_true h6))
  have HK := Lib.hid (fun W (hb : Below w.heap.size w W) => rsame_any T T' cT cT' a.tb b.tb W l2 (hT.on hb) (hT'.on hb) true (decide_eq_true h7))
  clear hb1 hb2 hR1 hR2 hA hT hA' hT' l1 l2 l3 l1' l2' l3' h6 h7
  unfold mvv
  obtain ⟨a_kd, a_fr, a_tt, a_sq, a_wh, ⟨a_ki, a_ks⟩, a_ns, a_tb, a_ep, a_bo, a_ak, a_ts, a_tn, a_gd⟩ := a
  obtain ⟨b_kd, b_fr, b_tt, b_sq, b_wh, ⟨b_ki, b_ks⟩, b_ns, b_tb, b_ep, b_bo, b_ak, b_ts, b_tn, b_gd⟩ := b
  simp only [] at *
  subst h0
  subst h1
  subst h2
  subst h3
  subst h4
  obtain ⟨rfl, rfl⟩ : a_ki = b_ki ∧ a_ks = b_ks := by injection h5 with e1 e2; exact ⟨e1, e2⟩
  clear h5
  subst h8
  subst h9
  subst h10
  subst h11
  subst h12
  subst h13
  generalize a_ns.length = nA at *
  generalize b_ns.length = nB at *
  generalize a_tb.length = tA at *
  generalize b_tb.length = tB at *
  go_enter Tryd.func14, Tryd.ntmps14
  go_upto_region 1 with (fail)
  generalize (w.alloc (.cells #[.int .i64 a_kd, .int .i64 a_fr, .int .i64 a_tt, .int .u64 (a_sq : Int), .int .i64 a_wh, .int .u64 a_ki, .int .i64 a_ks, (.slice A nA cA), (.slice T tA cT), .int .u64 (a_ep : Int), .int .u64 (a_bo : Int), .int .i64 a_ak, .string a_ts, .int .u64 (a_tn : Int), .bool a_gd] 28)).alloc (.cells #[.int .i64 a_kd, .int .i64 a_fr, .int .i64 a_tt, .int .u64 (a_sq : Int), .int .i64 a_wh, .int .u64 a_ki, .int .i64 a_ks, (.slice A' nB cA'), (.slice T' tB cT'), .int .u64 (a_ep : Int), .int .u64 (a_bo : Int), .int .i64 a_ak, .string a_ts, .int .u64 (a_tn : Int), .bool a_gd] 28) = w2 at *
  have HNx := Lib.hid (HN.out _ HB2.out)
  clear HN
  have HKx := Lib.hid (fun W (hb : Below w2.heap.size w2 W) => HK.out W (HB2.out.trans (hb.mono HB2.out.size)))
  clear HK
  have x0 := HR1.out.at_ 0 _ rfl
  have y0 := HR2.out.at_ 0 _ rfl
  have x1 := HR1.out.at_ 1 _ rfl
  have y1 := HR2.out.at_ 1 _ rfl
  have x2 := HR1.out.at_ 2 _ rfl
  have y2 := HR2.out.at_ 2 _ rfl
  have x3 := HR1.out.at_ 3 _ rfl
  have y3 := HR2.out.at_ 3 _ rfl
  have x4 := HR1.out.at_ 4 _ rfl
  have y4 := HR2.out.at_ 4 _ rfl
  have x5 := HR1.out.at_ 5 _ rfl
  have y5 := HR2.out.at_ 5 _ rfl
  have x6 := HR1.out.at_ 6 _ rfl
  have y6 := HR2.out.at_ 6 _ rfl
  have x7 := HR1.out.at_ 7 _ rfl
  have y7 := HR2.out.at_ 7 _ rfl
  have x8 := HR1.out.at_ 8 _ rfl
  have y8 := HR2.out.at_ 8 _ rfl
  have x9 := HR1.out.at_ 9 _ rfl
  have y9 := HR2.out.at_ 9 _ rfl
  have x10 := HR1.out.at_ 10 _ rfl
  have y10 := HR2.out.at_ 10 _ rfl
  have x11 := HR1.out.at_ 11 _ rfl
  have y11 := HR2.out.at_ 11 _ rfl
  have x12 := HR1.out.at_ 12 _ rfl
  have y12 := HR2.out.at_ 12 _ rfl
  have x13 := HR1.out.at_ 13 _ rfl
  have y13 := HR2.out.at_ 13 _ rfl
  have x14 := HR1.out.at_ 14 _ rfl
  have y14 := HR2.out.at_ 14 _ rfl
  clear HR1 HR2
  go_wp2_with (first | (go_at_call 34; refine HNx.out.mono ?_; rintro e w3 ⟨rfl, hb3⟩; replace x8 := (hb3.cell (World.block_lt_of_cell? _ _ x8)).trans x8; replace y8 := (hb3.cell (World.block_lt_of_cell? _ _ y8)).trans y8; replace x9 := (hb3.cell (World.block_lt_of_cell? _ _ x9)).trans x9; replace y9 := (hb3.cell (World.block_lt_of_cell? _ _ y9)).trans y9; replace x10 := (hb3.cell (World.block_lt_of_cell? _ _ x10)).trans x10; replace y10 := (hb3.cell (World.block_lt_of_cell? _ _ y10)).trans y10; replace x11 := (hb3.cell (World.block_lt_of_cell? _ _ x11)).trans x11; replace y11 := (hb3.cell (World.block_lt_of_cell? _ _ y11)).trans y11; replace x12 := (hb3.cell (World.block_lt_of_cell? _ _ x12)).trans x12; replace y12 := (hb3.cell (World.block_lt_of_cell? _ _ y12)).trans y12; replace x13 := (hb3.cell (World.block_lt_of_cell? _ _ x13)).trans x13; replace y13 := (hb3.cell (World.block_lt_of_cell? _ _ y13)).trans y13; replace x14 := (hb3.cell (World.block_lt_of_cell? _ _ x14)).trans x14; replace y14 := (hb3.cell (World.block_lt_of_cell? _ _ y14)).trans y14) | (go_at_call 35; refine (HKx.out _ hb3).mono ?_; rintro e w4 ⟨rfl, hb4⟩; replace x9 := (hb4.cell (World.block_lt_of_cell? _ _ x9)).trans x9; replace y9 := (hb4.cell (World.block_lt_of_cell? _ _ y9)).trans y9; replace x10 := (hb4.cell (World.block_lt_of_cell? _ _ x10)).trans x10; replace y10 := (hb4.cell (World.block_lt_of_cell? _ _ y10)).trans y10; replace x11 := (hb4.cell (World.block_lt_of_cell? _ _ x11)).trans x11; replace y11 := (hb4.cell (World.block_lt_of_cell? _ _ y11)).trans y11; replace x12 := (hb4.cell (World.block_lt_of_cell? _ _ x12)).trans x12; replace y12 := (hb4.cell (World.block_lt_of_cell? _ _ y12)).trans y12; replace x13 := (hb4.cell (World.block_lt_of_cell? _ _ x13)).trans x13; replace y13 := (hb4.cell (World.block_lt_of_cell? _ _ y13)).trans y13; replace x14 := (hb4.cell (World.block_lt_of_cell? _ _ x14)).trans x14; replace y14 := (hb4.cell (World.block_lt_of_cell? _ _ y14)).trans y14))
  go_ret
  exact ⟨rfl, (HB2.out.trans (hb3.mono HB2.out.size)).trans (hb4.mono (HB2.out.trans (hb3.mono HB2.out.size)).size)⟩
end Go.Proofs.YtjeepmdklbfgeaaDoor
