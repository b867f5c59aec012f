/-
  The state of the document's Read: a reader, a message that is being taken, and the result's block.
-/
import Derived.Test.YtjeepmdklbfgeaaDoorTakesP
import Derived.Test.YtjeepmdklbfgeaaDoorRefNum
import Derived.Test.YtjeepmdklbfgeaaDoorReadsP
import Derived.Test.YtjeepmdklbfgeaaDoorReadRef
import Derived.Test.YtjeepmdklbfgeaaDoorRowLd
namespace Go.Proofs.YtjeepmdklbfgeaaDoor
open Go.Sort Go.RowKit Go.Proofs.YtjeepmdklbfgeaaDoor.Pure Go.Proofs.YtjeepmdklbfgeaaDoor.W Go.Proofs.YtjeepmdklbfgeaaDoor.W.Pure

def zcs : List Value := [.int .i64 0, .int .i64 0, .int .i64 0, .int .u64 0, .int .i64 0, .int .u64 0, .int .i64 0, .slice none 0 0, .slice none 0 0, .int .u64 0, .int .u64 0, .int .i64 0, .string ⟨#[]⟩, .int .u64 0, .bool false]
/-- The document's num, as it is called. -/
theorem num_at {s : ByteArray} {t t2 : Tk} {most n : Nat} (M : Int) (hM : M = (most : Int)) (hR : tnum s most t = (n, t2)) (hs : s.size ≤ 140737488351232) (hp : t.p ≤ s.size) (W : World) :
    Calls Tryd.prog 45 #[.agg #[.string s, .int .i64 (t.p : Int), .bool (!t.b)], .int .u64 M] W fun e w' => e = .returned (.tuple #[.int .u64 (n : Int), .agg #[.string s, .int .i64 (t2.p : Int), .bool (!t2.b)]]) ∧ Below W.heap.size W w' := by
  have h := refnum_any s t most W hs hp
  rw [hR] at h
  rw [hM]
  exact h
theorem Var.other {w : World} {b : Nat} {v : Value} (h : Var w b v) {p : Addr} (hp : b ≠ p.block) (u : Value) : Var (w.setCell p u) b v := h.blk (Below.heap_setCell w p u b (fun e => hp e))
structure Sto (w0 w : World) (r bt bm : Nat) (s : ByteArray) (x : Mg × Tk) (nv tv : Value) : Prop where
  t : Row w bt [.string s, .int .i64 (x.2.p : Int), .bool (!x.2.b)]
  m : MD w bm x.1 nv tv
  rr : Var w r (.agg zcs.toArray)
  k : Below w0.heap.size w0 w
  o : w0.heap.size ≤ r ∧ r < bt ∧ bt < bm
  y : x.1.ns = [] → nv = .slice none 0 0
  z : x.1.tb = [] → tv = .slice none 0 0
section
variable {w0 w w' : World} {r bt bm : Nat} {s : ByteArray} {x : Mg × Tk} {m m' : Mg} {t t' : Tk} {nv tv : Value}
theorem Sto.on (h : Sto w0 w r bt bm s x nv tv) (hb : Below w.heap.size w w') : Sto w0 w' r bt bm s x nv tv :=
  ⟨h.t.on hb (show 0 < 3 by decide), ⟨h.m.1.on hb (show 0 < 15 by decide), h.m.2.1.on hb, h.m.2.2.on hb⟩, h.rr.on hb, h.k.trans (hb.mono h.k.size), h.o, h.y, h.z⟩
/-- The reader goes on. -/
theorem Sto.setR (h : Sto w0 w r bt bm s (m, t) nv tv) (t' : Tk) : Sto w0 (((w.setCell ⟨bt, 0, none⟩ (.string s)).setCell ⟨bt, 1, none⟩ (.int .i64 (t'.p : Int))).setCell ⟨bt, 2, none⟩ (.bool (!t'.b))) r bt bm s (m, t') nv tv := by
  obtain ⟨ht, ⟨m1, m2, m3⟩, hr, hk, ⟨o1, o2, o3⟩, hy, hz⟩ := h
  refine ⟨((ht.set 0 (show 0 < 3 by decide) (.string s)).set 1 (show 1 < 3 by decide) (.int .i64 (t'.p : Int))).set 2 (show 2 < 3 by decide) (.bool (!t'.b)), ⟨?_, ?_, ?_⟩, ?_, ?_, ⟨o1, o2, o3⟩, hy, hz⟩
  · exact ((m1.other (show bm ≠ bt by omega) _).other (show bm ≠ bt by omega) _).other (show bm ≠ bt by omega) _
  · exact ((m2.cellFar (by omega)).cellFar (by omega)).cellFar (by omega)
  · exact ((m3.cellFar (by omega)).cellFar (by omega)).cellFar (by omega)
  · exact ((hr.other (show r ≠ bt by omega) _).other (show r ≠ bt by omega) _).other (show r ≠ bt by omega) _
  · exact ((hk.setCell (p := ⟨bt, 0, none⟩) (by show _ ≤ bt; omega) _).setCell (p := ⟨bt, 1, none⟩) (by show _ ≤ bt; omega) _).setCell (p := ⟨bt, 2, none⟩) (by show _ ≤ bt; omega) _
/-- The reader's place alone. -/
theorem Sto.setP (h : Sto w0 w r bt bm s (m, t) nv tv) (p : Nat) : Sto w0 (w.setCell ⟨bt, 1, none⟩ (.int .i64 (p : Int))) r bt bm s (m, ⟨p, t.b⟩) nv tv := by
  obtain ⟨ht, ⟨m1, m2, m3⟩, hr, hk, ⟨o1, o2, o3⟩, hy, hz⟩ := h
  refine ⟨ht.set 1 (show 1 < 3 by decide) (.int .i64 (p : Int)), ⟨m1.other (show bm ≠ bt by omega) _, m2.cellFar (by omega), m3.cellFar (by omega)⟩, hr.other (show r ≠ bt by omega) _, hk.setCell (p := ⟨bt, 1, none⟩) (by show _ ≤ bt; omega) _, ⟨o1, o2, o3⟩, hy, hz⟩
/-- A part of the message is laid. -/
theorem Sto.setM (h : Sto w0 w r bt bm s (m, t) nv tv) (j : Nat) (v : Value) (hj : j < 15) (hc : (mcs m nv tv).set j v = mcs m' nv tv) (hn : m'.ns = m.ns) (ht' : m'.tb = m.tb) : Sto w0 (w.setCell ⟨bm, j, none⟩ v) r bt bm s (m', t) nv tv := by
  obtain ⟨ht, ⟨m1, m2, m3⟩, hr, hk, ⟨o1, o2, o3⟩, hy, hz⟩ := h
  refine ⟨ht.other (show bt ≠ bm by omega) _, ⟨hc ▸ m1.set j hj v, ?_, ?_⟩, hr.other (show r ≠ bm by omega) _, hk.setCell (p := ⟨bm, j, none⟩) (by show _ ≤ bm; omega) _, ⟨o1, o2, o3⟩, fun e => hy (by rw [← e]; exact hn.symm), fun e => hz (by rw [← e]; exact ht'.symm)⟩
  · show OwnN _ _ _ m'.ns
    rw [hn]; exact m2.cellFar (by omega)
  · show Own _ _ _ m'.tb
    rw [ht']; exact m3.cellFar (by omega)
theorem own_nil (w : World) (B : Nat) : Own w B (.slice none 0 0) [] := Own.nil w B
/-- One more of the news. -/
theorem Sto.news (h : Sto w0 w r bt bm s (m, t) nv tv) (hz : m.tb = []) {o : Obj} {w3 : World} {v' : Value} {y : Nw} (hg : (w.alloc o).grownBy w3 nv.ownBlock) (hN : OwnN w3 (bm + 1) v' (m.ns ++ [y])) :
    Sto w0 (w3.setCell ⟨bm, 7, none⟩ v') r bt bm s ({ m with ns := m.ns ++ [y] }, t) v' tv := by
  have h' := h.on ((Below.refl _ _).alloc (Nat.le_refl _) o)
  have hge := h.m.2.1.ge
  have hsz := h.m.lt
  obtain ⟨ht, ⟨m1, m2, m3⟩, hr, hk, ⟨o1, o2, o3⟩, hy, hzz⟩ := h'
  have htv := hzz hz
  have hne : ∀ b, b ≤ bm → b < w.heap.size → w3.heap[b]? = (w.alloc o).heap[b]? := fun b hb hb' => hg.block b (by simp; omega) (fun e => by have := (hge b (by rw [← e])).1; omega)
  have hB : Below w0.heap.size w0 w3 := hk.grown hg (by simp; have := h.k.size; omega) (fun j e => by have := (hge j e).1; omega)
  refine ⟨(ht.blk (hne bt (by omega) (by omega))).other (show bt ≠ bm by omega) _, ⟨?_, hN.cellFar (by omega), ?_⟩, (hr.blk (hne r (by omega) (by omega))).other (show r ≠ bm by omega) _, hB.setCell (p := ⟨bm, 7, none⟩) (by show _ ≤ bm; omega) _, ⟨o1, o2, o3⟩, fun e => by simp at e, hzz⟩
  · exact (m1.blk (hne bm (Nat.le_refl _) hsz)).set 7 (show 7 < 15 by decide) v'
  · show Own _ _ _ m.tb
    rw [hz, htv]; exact own_nil _ _
/-- One more of the table. -/
theorem Sto.tab (h : Sto w0 w r bt bm s (m, t) nv tv) (hz : m.ns = []) {o : Obj} {w3 : World} {v' : Value} {y : Kn} (hg : (w.alloc o).grownBy w3 tv.ownBlock) (hN : Own w3 (bm + 1) v' (m.tb ++ [y])) :
    Sto w0 (w3.setCell ⟨bm, 8, none⟩ v') r bt bm s ({ m with tb := m.tb ++ [y] }, t) nv v' := by
  have h' := h.on ((Below.refl _ _).alloc (Nat.le_refl _) o)
  have hge := h.m.2.2.ge
  have hsz := h.m.lt
  obtain ⟨ht, ⟨m1, m2, m3⟩, hr, hk, ⟨o1, o2, o3⟩, hy, hzz⟩ := h'
  have htv := hy hz
  have hne : ∀ b, b ≤ bm → b < w.heap.size → w3.heap[b]? = (w.alloc o).heap[b]? := fun b hb hb' => hg.block b (by simp; omega) (fun e => by have := (hge b (by rw [← e])).1; omega)
  have hB : Below w0.heap.size w0 w3 := hk.grown hg (by simp; have := h.k.size; omega) (fun j e => by have := (hge j e).1; omega)
  refine ⟨(ht.blk (hne bt (by omega) (by omega))).other (show bt ≠ bm by omega) _, ⟨?_, ?_, hN.cellFar (by omega)⟩, (hr.blk (hne r (by omega) (by omega))).other (show r ≠ bm by omega) _, hB.setCell (p := ⟨bm, 8, none⟩) (by show _ ≤ bm; omega) _, ⟨o1, o2, o3⟩, hy, fun e => by simp at e⟩
  · exact (m1.blk (hne bm (Nat.le_refl _) hsz)).set 8 (show 8 < 15 by decide) v'
  · show OwnN _ _ _ m.ns
    rw [hz, htv]; exact OwnN.nil _ _
end
theorem var_cells {w : World} {b : Nat} {x0 x1 x2 x3 x4 x5 x6 x7 x8 x9 x10 x11 x12 x13 x14 : Value} (h : Var w b (.agg #[x0, x1, x2, x3, x4, x5, x6, x7, x8, x9, x10, x11, x12, x13, x14])) : w.cell? ⟨b, 0, none⟩ = some x0 ∧ w.cell? ⟨b, 1, none⟩ = some x1 ∧ w.cell? ⟨b, 2, none⟩ = some x2 ∧ w.cell? ⟨b, 3, none⟩ = some x3 ∧ w.cell? ⟨b, 4, none⟩ = some x4 ∧ w.cell? ⟨b, 5, none⟩ = some x5 ∧ w.cell? ⟨b, 6, none⟩ = some x6 ∧ w.cell? ⟨b, 7, none⟩ = some x7 ∧ w.cell? ⟨b, 8, none⟩ = some x8 ∧ w.cell? ⟨b, 9, none⟩ = some x9 ∧ w.cell? ⟨b, 10, none⟩ = some x10 ∧ w.cell? ⟨b, 11, none⟩ = some x11 ∧ w.cell? ⟨b, 12, none⟩ = some x12 ∧ w.cell? ⟨b, 13, none⟩ = some x13 ∧ w.cell? ⟨b, 14, none⟩ = some x14 := by
  obtain ⟨cs, h1, h2, hc, hf⟩ := h.cell
  injection h1 with h1
  subst h1
  exact ⟨hc 0 (by decide), hc 1 (by decide), hc 2 (by decide), hc 3 (by decide), hc 4 (by decide), hc 5 (by decide), hc 6 (by decide), hc 7 (by decide), hc 8 (by decide), hc 9 (by decide), hc 10 (by decide), hc 11 (by decide), hc 12 (by decide), hc 13 (by decide), hc 14 (by decide)⟩
theorem just_kp {b : Nat} {w w' : World} (h : Just b w w') : Kp w.heap.size [b] w w' := ⟨h.1, h.2.1, h.2.2.1, Nat.le_of_eq h.2.2.2.1.symm, fun k _ hk => h.2.2.2.2 k (by simpa using hk)⟩
theorem zm_v : Mv (.agg zcs.toArray) := ⟨_, rfl, rfl, by simp [zcs, Value.oneCell']⟩
theorem mcs_v (m : Mg) (A T : Option Addr) (n c n' c' : Nat) : Mv (.agg (mcs m (.slice A n c) (.slice T n' c')).toArray) := mv_mvv m A T n c n' c'
theorem mcs_cells {w : World} {b : Nat} {m : Mg} {nv tv : Value} (h : Row w b (mcs m nv tv)) : w.cell? ⟨b, 0, none⟩ = some (.int .i64 m.kd) ∧ w.cell? ⟨b, 1, none⟩ = some (.int .i64 m.fr) ∧ w.cell? ⟨b, 2, none⟩ = some (.int .i64 m.to) ∧ w.cell? ⟨b, 3, none⟩ = some (.int .u64 (m.sq : Int)) ∧ w.cell? ⟨b, 4, none⟩ = some (.int .i64 m.wh) ∧ w.cell? ⟨b, 5, none⟩ = some (.int .u64 m.k.i) ∧ w.cell? ⟨b, 6, none⟩ = some (.int .i64 m.k.s) ∧ w.cell? ⟨b, 7, none⟩ = some (nv) ∧ w.cell? ⟨b, 8, none⟩ = some (tv) ∧ w.cell? ⟨b, 9, none⟩ = some (.int .u64 (m.ep : Int)) ∧ w.cell? ⟨b, 10, none⟩ = some (.int .u64 (m.bo : Int)) ∧ w.cell? ⟨b, 11, none⟩ = some (.int .i64 m.ak) ∧ w.cell? ⟨b, 12, none⟩ = some (.string m.ts) ∧ w.cell? ⟨b, 13, none⟩ = some (.int .u64 (m.tn : Int)) ∧ w.cell? ⟨b, 14, none⟩ = some (.bool m.gd) ∧ ∀ o : Nat, w.frozen? ⟨b, o, none⟩ = false :=
  ⟨h.at_ 0 _ rfl, h.at_ 1 _ rfl, h.at_ 2 _ rfl, h.at_ 3 _ rfl, h.at_ 4 _ rfl, h.at_ 5 _ rfl, h.at_ 6 _ rfl, h.at_ 7 _ rfl, h.at_ 8 _ rfl, h.at_ 9 _ rfl, h.at_ 10 _ rfl, h.at_ 11 _ rfl, h.at_ 12 _ rfl, h.at_ 13 _ rfl, h.at_ 14 _ rfl, h.2⟩
theorem OwnN.shape {w : World} {B : Nat} {v : Value} {xs : List Nw} (h : OwnN w B v xs) : ∃ (A : Option Addr) (n c : Nat), v = .slice A n c := by
  obtain ⟨A, c, e, _⟩ := h.lst
  exact ⟨A, _, c, e⟩
theorem Own.shape {w : World} {B : Nat} {v : Value} {xs : List Kn} (h : Own w B v xs) : ∃ (A : Option Addr) (n c : Nat), v = .slice A n c := by
  obtain ⟨A, c, e, _⟩ := h.lst
  exact ⟨A, _, c, e⟩
theorem ns_nil {m : Mg} (h : m.ns = []) : ({ m with ns := [] } : Mg) = m := by
  obtain ⟨kd, fr, tt, sq, wh, k, ns, tb, ep, bo, ak, ts, tn, gd⟩ := m
  simp only at h
  subst h; rfl
theorem tb_nil {m : Mg} (h : m.tb = []) : ({ m with tb := [] } : Mg) = m := by
  obtain ⟨kd, fr, tt, sq, wh, k, ns, tb, ep, bo, ak, ts, tn, gd⟩ := m
  simp only at h
  subst h; rfl
theorem Sto.grownM {w0 w w3 : World} {r bt bm : Nat} {s : ByteArray} {x : Mg × Tk} {nv tv : Value} (h : Sto w0 w r bt bm s x nv tv) {o : Obj} {row : Option Nat} (hg : (w.alloc o).grownBy w3 row) (hr : ∀ k, row = some k → bm + 1 ≤ k) : Row w3 bm (mcs x.1 nv tv) := by
  have h1 := (h.on ((Below.refl _ _).alloc (Nat.le_refl _) o)).m.1
  have h2 := h.m.lt
  exact h1.blk (hg.block bm (by simp; omega) (fun e => by have := hr bm e.symm; omega))
theorem upto_tb (s : ByteArray) : (upto s 3).1.tb = [] := by
  have h : ∀ i (x : Mg × Tk), i ≠ 4 → x.1.tb = [] → (stp s i x).1.tb = [] := by
    intro i x hi hx
    unfold stp
    split
    · unfold takeP
      split <;> first | exact hx | (exfalso; exact hi rfl)
    · exact hx
  exact h 2 _ (by decide) (h 1 _ (by decide) (h 0 _ (by decide) rfl))
theorem upto_ns3 (s : ByteArray) : (upto s 3).1.ns = [] := by
  have h : ∀ i (x : Mg × Tk), i ≠ 3 → x.1.ns = [] → (stp s i x).1.ns = [] := by
    intro i x hi hx
    unfold stp
    split
    · unfold takeP
      split <;> first | exact hx | (exfalso; exact hi rfl)
    · exact hx
  exact h 2 _ (by decide) (h 1 _ (by decide) (h 0 _ (by decide) rfl))
theorem take3_tb (s : ByteArray) (x : Mg) (t : Tk) : (takeP s 3 x t).1.tb = x.tb := rfl
theorem upto_tb4 (s : ByteArray) : (upto s 4).1.tb = [] := by
  have h := upto_tb s
  rw [show upto s 4 = stp s 3 (upto s 3) from upto_succ s 3]
  generalize upto s 3 = x at *
  unfold stp
  split
  · rw [take3_tb]; exact h
  · exact h
theorem c_nine (s : ByteArray) : (pof (decH s).1.kd).contains 9 = (pof (decH s).1.kd).contains 8 := by
  have hk := kinds (decH s).1.kd
  generalize (decH s).1.kd = k at *
  rcases hk with (rfl | rfl | rfl | rfl | rfl | rfl | rfl | rfl | rfl | rfl | rfl | rfl) | ⟨_, hp⟩
  case inr => rw [hp]; rfl
  all_goals rfl
theorem upto_ns (s : ByteArray) (h4 : (pof (decH s).1.kd).contains 4 = true) : (upto s 4).1.ns = [] := by
  have hk := kinds (decH s).1.kd
  have hkd := upto_kd s
  have h : ∀ i (x : Mg × Tk), (pof x.1.kd).contains i = false → stp s i x = x := by
    intro i x hx
    unfold stp
    rw [if_neg (by rw [hx]; decide)]
  have e : ∀ i, (pof (decH s).1.kd).contains i = false → upto s (i + 1) = upto s i := fun i hi => h i _ (by rw [hkd]; exact hi)
  generalize hK : (decH s).1.kd = k at *
  rcases hk with (rfl | rfl | rfl | rfl | rfl | rfl | rfl | rfl | rfl | rfl | rfl | rfl) | ⟨_, hp⟩
  case inr => rw [hp] at h4; cases h4
  all_goals first
    | (exfalso; revert h4; decide)
    | (rw [e 3 rfl, e 2 rfl, e 1 rfl, e 0 rfl]; rfl)
end Go.Proofs.YtjeepmdklbfgeaaDoor
