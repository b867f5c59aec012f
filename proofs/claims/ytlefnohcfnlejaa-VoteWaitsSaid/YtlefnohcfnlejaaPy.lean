/-
  All grants of a vote, step by step: what each step makes of it: as mathematics, over whole contracts.
-/
import Derived.Test.YtlefnohcfnlejaaRg
import Derived.Test.YtlefnohcfnlejaaPlanC
namespace Go.Proofs.Ytlefnohcfnlejaa
open Go.Sort Go.RowKit Go.Proofs.Ytlefnohcfnlejaa.Pure

/-- A step as it is taken. -/
def stp (r : Rs) : Sp := ⟨r.f % 4, r.e % 16, r.l % 16, r.a⟩
theorem stp_O {r : Rs} (h : FitR r) : SpO (stp r) := by
  obtain ⟨h1, h2, h3⟩ := h
  exact ⟨by show 0 ≤ r.f % 4; omega, by show r.f % 4 < 4; omega, by show 0 ≤ r.e % 16; omega, by show r.e % 16 < 16; omega, by show 0 ≤ r.l % 16; omega, by show r.l % 16 < 16; omega⟩
theorem stp_at {l : List Rs} {k : Nat} (h : k < l.length) : sp (l.map stp) k = stp (rs l k) := by
  rw [sp_lt _ (by simpa using h)]
  simp [rs, List.getD, h]
theorem stp_all {l : List Rs} (h : ∀ j, j < l.length → FitR (rs l j)) : ∀ s ∈ l.map stp, SpO s := by
  intro s hs
  obtain ⟨j, hj, rfl⟩ := List.getElem_of_mem hs
  have hj' : j < l.length := by simpa using hj
  have e : (l.map stp)[j] = stp (rs l j) := by simp [rs, List.getD, hj']
  rw [e]
  exact stp_O (h j hj')
/-- So far. -/
def pyF (x : Tm) (l : List Rs) (k : Nat) : Py := plyP x.t (l.map stp) k
theorem played_facts {x : Tm} {l : List Rs} {k : Nat} (hz : ¬ holdF x = 0) (hf : ∀ j, j < l.length → FitR (rs l j)) (hk : k < l.length) (h60 : k < 60) :
    (0 ≤ (pyF x l k).n ∧ (pyF x l k).n ≤ 900) ∧ (0 ≤ (pyF x l k).v.e ∧ (pyF x l k).v.e < 16) ∧
    ((rs l k).a = true → rsE x (pyF x l k).v.t ((pyF x l k).n + (rs l k).l % 16) = 0 ∧ rsR x (pyF x l k).v.e (pyF x l k).v.t ((pyF x l k).n + (rs l k).l % 16) = (pyF x l (k + 1)).v ∧ (pyF x l (k + 1)).n = (pyF x l k).n + (rs l k).l % 16 ∧ (pyF x l (k + 1)).o = (pyF x l k).o ∧ (pyF x l (k + 1)).a = (pyF x l k).a ++ [(pyF x l k).n + (rs l k).l % 16]) ∧
    ((rs l k).a = false → akE x (pyF x l k).v ((rs l k).f % 4) ((pyF x l k).n + (rs l k).l % 16) = 0 ∧ akR x (pyF x l k).v ((rs l k).f % 4) ((rs l k).e % 16) ((pyF x l k).n + (rs l k).l % 16) = (pyF x l (k + 1)).v ∧ (pyF x l (k + 1)).n = (pyF x l k).n + (rs l k).l % 16 ∧ (pyF x l (k + 1)).a = (pyF x l k).a ∧
      (akB x (pyF x l k).v ((rs l k).f % 4) ((rs l k).e % 16) ((pyF x l k).n + (rs l k).l % 16) = true → (pyF x l (k + 1)).o = (pyF x l k).o ++ [⟨(pyF x l (k + 1)).v.e, (pyF x l (k + 1)).v.t, (pyF x l k).n + (rs l k).l % 16⟩]) ∧
      (akB x (pyF x l k).v ((rs l k).f % 4) ((rs l k).e % 16) ((pyF x l k).n + (rs l k).l % 16) = false → (pyF x l (k + 1)).o = (pyF x l k).o ∧ (pyF x l (k + 1)).v = (pyF x l k).v)) := by
  obtain ⟨hb, h1, h2, _⟩ := hold_pos hz
  obtain ⟨b1, b2, _⟩ := (tmB_iff x).1 hb
  have hall := stp_all hf
  have hI := pyI_all (T := x.t) (by omega) hall k (by simp; omega)
  have hn := plyP_now (T := x.t) hall k (by simp; omega)
  have hs := stp_O (hf k hk)
  have hsp := stp_at hk
  have hd := hs.d0; have hd16 := hs.d16
  have hd' : (stp (rs l k)).d = (rs l k).l % 16 := rfl
  rw [hd'] at hd hd16
  have e0 : pyF x l (k + 1) = stepP x.t (pyF x l k) (stp (rs l k)) := by unfold pyF; rw [plyP_succ, hsp]
  have hI' : PyI x.t (pyF x l k) := hI
  have hn' : (pyF x l k).n ≤ 15 * (k : Int) := hn
  have n0 := hI'.n0; have ee0 := hI'.e0; have ee1 := hI'.e16; have ht := hI'.t; have hu := hI'.u; have hw := hI'.w
  generalize pyF x l k = p at *
  have hm : momB (p.n + (rs l k).l % 16) = true := (mom_iff _).2 (by omega)
  refine ⟨⟨n0, by omega⟩, ⟨ee0, ee1⟩, fun ha => ?_, fun ha => ?_⟩
  · have e1 : rsE x p.v.t (p.n + (rs l k).l % 16) = 0 := rs_is hz (by
      unfold toB nodeV
      simp only [Bool.or_eq_true, Bool.and_eq_true, decide_eq_true_eq]
      omega) hm
    rw [e0]
    have e2 : stepP x.t p (stp (rs l k)) = ⟨resV x.t p.v.e p.v.t (p.n + (rs l k).l % 16), p.n + (rs l k).l % 16, p.o, p.a ++ [p.n + (rs l k).l % 16]⟩ := by
      unfold stepP
      rw [if_pos (show (stp (rs l k)).ag = true from ha)]
      rfl
    rw [e2]
    exact ⟨e1, by unfold rsR; rw [if_pos e1], rfl, rfl, rfl⟩
  · have hma : mayV p.v = true := (mayV_iff _).2 ⟨by omega, by omega, by omega, by omega, by omega⟩
    have e1 : akE x p.v ((rs l k).f % 4) (p.n + (rs l k).l % 16) = 0 := ak_is hz hma ((node_iff _).2 (by omega)) hm
    obtain ⟨k1, k2⟩ := ak_b (e := (rs l k).e % 16) e1
    rw [e0]
    have e2 : stepP x.t p (stp (rs l k)) = ⟨askV x.t p.v ((rs l k).f % 4) ((rs l k).e % 16) (p.n + (rs l k).l % 16), p.n + (rs l k).l % 16, if grB p.v ((rs l k).f % 4) ((rs l k).e % 16) (p.n + (rs l k).l % 16) = true then p.o ++ [⟨(rs l k).e % 16, (rs l k).f % 4, p.n + (rs l k).l % 16⟩] else p.o, p.a⟩ := by
      unfold stepP
      rw [if_neg (show ¬ (stp (rs l k)).ag = true from fun h => by have h2 : (rs l k).a = true := h; rw [ha] at h2; cases h2)]
      rfl
    rw [e2]
    refine ⟨e1, k2, rfl, rfl, fun hB => ?_, fun hB => ?_⟩
    · rw [k1] at hB
      simp only [if_pos hB, askV_yes hB]
    · rw [k1] at hB
      simp only [if_neg (show ¬ grB p.v ((rs l k).f % 4) ((rs l k).e % 16) (p.n + (rs l k).l % 16) = true from fun h => by rw [hB] at h; cases h), askV_no hB]
      exact ⟨trivial, trivial⟩
/-! ### memory -/
theorem TmA.heap {w w' : World} {g : Nat} {x : Tm} (h : TmA w g x) (e : w'.heap[g]? = w.heap[g]?) : TmA w' g x :=
  ⟨(World.cell?_of_block e).trans h.1, (World.cell?_of_block e).trans h.2.1, (World.cell?_of_block e).trans h.2.2⟩
theorem VtW.heap {w w' : World} {g : Nat} {v : Vt} (h : VtW w g v) (e : w'.heap[g]? = w.heap[g]?) : VtW w' g v :=
  ⟨⟨(World.cell?_of_block e).trans h.1.1, (World.cell?_of_block e).trans h.1.2.1, (World.cell?_of_block e).trans h.1.2.2.1, (World.cell?_of_block e).trans h.1.2.2.2⟩, fun k => (World.frozen?_of_block (a := ⟨g, k, none⟩) e).trans (h.2 k)⟩
theorem VtA.heap {w w' : World} {g : Nat} {v : Vt} (h : VtA w g v) (e : w'.heap[g]? = w.heap[g]?) : VtA w' g v :=
  ⟨(World.cell?_of_block e).trans h.1, (World.cell?_of_block e).trans h.2.1, (World.cell?_of_block e).trans h.2.2.1, (World.cell?_of_block e).trans h.2.2.2⟩
/-- A step, where it lies. -/
def RIt (w : World) (a : Addr) (x : Rs) : Prop := w.cell? a = some (.int .u8 x.f) ∧ w.cell? ⟨a.block, a.off + 1, none⟩ = some (.int .u8 x.e) ∧ w.cell? ⟨a.block, a.off + 2, none⟩ = some (.int .u8 x.l) ∧ w.cell? ⟨a.block, a.off + 3, none⟩ = some (.bool x.a)
theorem RIt.on {w w' : World} {a : Addr} {x : Rs} (h : RIt w a x) (hb : Below w.heap.size w w') : RIt w' a x := by
  have hl : a.block < w.heap.size := World.block_lt_of_cell? w _ h.1
  exact ⟨(hb.cell hl).trans h.1, (hb.cell (p := ⟨a.block, a.off + 1, none⟩) hl).trans h.2.1, (hb.cell (p := ⟨a.block, a.off + 2, none⟩) hl).trans h.2.2.1, (hb.cell (p := ⟨a.block, a.off + 3, none⟩) hl).trans h.2.2.2⟩
/-- A store into a block below both rows. -/
theorem set_heap {w : World} {g k : Nat} (h : k ≠ g) (v0 v1 v2 v3 : Value) : ((((w.setCell ⟨g, 0, none⟩ v0).setCell ⟨g, 1, none⟩ v1).setCell ⟨g, 2, none⟩ v2).setCell ⟨g, 3, none⟩ v3).heap[k]? = w.heap[k]? := by
  rw [Below.heap_setCell _ _ _ _ h, Below.heap_setCell _ _ _ _ h, Below.heap_setCell _ _ _ _ h, Below.heap_setCell _ _ _ _ h]
end Go.Proofs.Ytlefnohcfnlejaa
