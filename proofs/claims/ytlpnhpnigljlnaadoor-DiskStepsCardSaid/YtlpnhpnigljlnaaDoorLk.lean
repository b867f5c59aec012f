/-
  The walk of look.
-/
import Derived.Test.YtlpnhpnigljlnaaDoorPar
namespace Go.Proofs.YtlpnhpnigljlnaaDoor
open Go.Sort Go.RowKit Go.Proofs.YtlpnhpnigljlnaaDoor.Pure

/-- What is found, and a disk, in a block that may be written. -/
def FdW (w : World) (g : Nat) (o : Bool) (s : Sv) : Prop := FdA w g o s ∧ ∀ k : Nat, w.frozen? ⟨g, k, none⟩ = false
def DkW (w : World) (g : Nat) (d : Dk) : Prop := DkA w g d ∧ ∀ k : Nat, w.frozen? ⟨g, k, none⟩ = false
section
variable {w w' : World} {g : Nat} {s : Sv} {d : Dk} {o : Bool}
theorem FdW.lt (h : FdW w g o s) : g < w.heap.size := h.1.lt
theorem DkW.lt (h : DkW w g d) : g < w.heap.size := h.1.lt
theorem FdW.on (h : FdW w g o s) (hb : Below w.heap.size w w') : FdW w' g o s := ⟨h.1.on hb, fun k => (World.frozen?_of_block (a := ⟨g, k, none⟩) (hb.block g h.lt)).trans (h.2 k)⟩
theorem DkW.on (h : DkW w g d) (hb : Below w.heap.size w w') : DkW w' g d := ⟨h.1.on hb, fun k => (World.frozen?_of_block (a := ⟨g, k, none⟩) (hb.block g h.lt)).trans (h.2 k)⟩
theorem FdW.new (w : World) (o : Bool) (s : Sv) (t : TypeId) : FdW (w.alloc (.cells #[.bool o, .int .u64 s.q, .int .u64 s.b, .int .u64 s.i, .int .u64 s.e, .int .i64 s.u] t)) w.heap.size o s := ⟨FdA.new w o s t, fun k => World.frozen?_alloc_new w _ _ k⟩
theorem FdW.set (h : FdW w g o s) (o2 : Bool) (s2 : Sv) : FdW ((((((w.setCell ⟨g, 0, none⟩ (.bool o2)).setCell ⟨g, 1, none⟩ (.int .u64 s2.q)).setCell ⟨g, 2, none⟩ (.int .u64 s2.b)).setCell ⟨g, 3, none⟩ (.int .u64 s2.i)).setCell ⟨g, 4, none⟩ (.int .u64 s2.e)).setCell ⟨g, 5, none⟩ (.int .i64 s2.u)) g o2 s2 := by
  obtain ⟨⟨h0, h1, h2, h3, h4, h5⟩, hf⟩ := h
  exact ⟨⟨by go_simp, by go_simp, by go_simp, by go_simp, by go_simp, by go_simp⟩, fun k => by go_simp⟩
theorem DkW.set (h : DkW w g d) (d2 : Dk) : DkW ((w.setCell ⟨g, 0, none⟩ (.string d2.a)).setCell ⟨g, 1, none⟩ (.string d2.b)) g d2 := by
  obtain ⟨⟨h0, h1⟩, hf⟩ := h
  exact ⟨⟨by go_simp, by go_simp⟩, fun k => by go_simp⟩
theorem SvW.set (h : SvW w g s) (s2 : Sv) : SvW (((((w.setCell ⟨g, 0, none⟩ (.int .u64 s2.q)).setCell ⟨g, 1, none⟩ (.int .u64 s2.b)).setCell ⟨g, 2, none⟩ (.int .u64 s2.i)).setCell ⟨g, 3, none⟩ (.int .u64 s2.e)).setCell ⟨g, 4, none⟩ (.int .i64 s2.u)) g s2 := by
  obtain ⟨⟨h0, h1, h2, h3, h4⟩, hf⟩ := h
  exact ⟨⟨by go_simp, by go_simp, by go_simp, by go_simp, by go_simp⟩, fun k => by go_simp⟩
theorem below_set6 {B : Nat} {a w : World} (h : Below B a w) {g : Nat} (hg : B ≤ g) (v0 v1 v2 v3 v4 v5 : Value) : Below B a ((((((w.setCell ⟨g, 0, none⟩ v0).setCell ⟨g, 1, none⟩ v1).setCell ⟨g, 2, none⟩ v2).setCell ⟨g, 3, none⟩ v3).setCell ⟨g, 4, none⟩ v4).setCell ⟨g, 5, none⟩ v5) :=
  (((((h.setCell hg _).setCell hg _).setCell hg _).setCell hg _).setCell hg _).setCell hg _
theorem below_set5 {B : Nat} {a w : World} (h : Below B a w) {g : Nat} (hg : B ≤ g) (v0 v1 v2 v3 v4 : Value) : Below B a (((((w.setCell ⟨g, 0, none⟩ v0).setCell ⟨g, 1, none⟩ v1).setCell ⟨g, 2, none⟩ v2).setCell ⟨g, 3, none⟩ v3).setCell ⟨g, 4, none⟩ v4) :=
  ((((h.setCell hg _).setCell hg _).setCell hg _).setCell hg _).setCell hg _
theorem below_set2 {B : Nat} {a w : World} (h : Below B a w) {g : Nat} (hg : B ≤ g) (v0 v1 : Value) : Below B a ((w.setCell ⟨g, 0, none⟩ v0).setCell ⟨g, 1, none⟩ v1) := (h.setCell hg _).setCell hg _
theorem DkW.new (w : World) (d : Dk) (t : TypeId) : DkW (w.alloc (.cells #[.string d.a, .string d.b] t)) w.heap.size d := ⟨DkA.new w d t, fun k => World.frozen?_alloc_new w _ _ k⟩
end
/-- What is found of a text. -/
noncomputable def okP (t : ByteArray) : Bool := (parC t).isSome
theorem okP_iff (t : ByteArray) : okP t = (parE t == 0) := by
  unfold okP
  cases h : parC t with
  | none => simpa using parE_none h
  | some s => rw [parE_some h]; rfl
set_option maxRecDepth 100000 in
set_option maxHeartbeats 4000000 in
theorem look_any (t : ByteArray) (w : World) (hs : t.size ≤ 140737488351232) (ht : Tab w) : Calls Tryd.prog 34 #[.string t] w fun e w' => e = .returned (.agg #[.bool (okP t), .int .u64 (parS t).q, .int .u64 (parS t).b, .int .u64 (parS t).i, .int .u64 (parS t).e, .int .i64 (parS t).u]) ∧ Below w.heap.size w w' := by
  have HP := Lib.hid (fun (W : World) (hT : Tab W) => parse_any t W hs hT)
  have HR1 := Lib.hid (FdW.new w false nilD 64)
  have HB1 : Hid (Below w.heap.size w (w.alloc (.cells #[.bool false, .int .u64 0, .int .u64 0, .int .u64 0, .int .u64 0, .int .i64 0] 64))) := Lib.hid ((Below.refl _ _).alloc (Nat.le_refl _) _)
  have HT1 := Lib.hid (ht.on HB1.out)
  rw [okP_iff]
  generalize parS t = S at *
  obtain ⟨E, hE⟩ : ∃ E, parE t = E := ⟨_, rfl⟩
  rw [hE] at HP ⊢
  clear hE ht
  have he : ((E : Int) == 0) = (E == 0) := by rcases E with _ | E <;> simp <;> omega
  generalize (E == 0) = Z at *
  obtain ⟨q, b, i, e, u⟩ := S
  simp only at HP ⊢
  simp only [nilD] at HR1
  go_enter Tryd.func34, Tryd.ntmps34
  go_upto_region 1 with (fail)
  generalize w.alloc (.cells #[.bool false, .int .u64 0, .int .u64 0, .int .u64 0, .int .u64 0, .int .i64 0] 64) = w1 at *
  go_wp2_with fail
  refine (HP.out _ HT1.out).mono ?_
  rintro e w2 ⟨rfl, hb2⟩
  have HB2 := Lib.hid (HB1.out.trans (hb2.mono HB1.out.size))
  obtain ⟨⟨r0, r1, r2, r3, r4, r5⟩, rf⟩ := HR1.out.on hb2
  simp only at r0 r1 r2 r3 r4 r5
  have hz2 := HB2.out.size
  have HR2 := Lib.hid (HR1.out.on hb2)
  have hn := HR2.out.lt
  clear hb2 HR1 HB1 HT1 HP
  go_wp2_with fail
  have HF := Lib.hid ((HR2.out.set Z ⟨q, b, i, e, u⟩).on ((Below.refl _ _).alloc (Nat.le_refl _) (.cells #[.int .u64 q, .int .u64 b, .int .u64 i, .int .u64 e, .int .i64 u] 26)))
  have HBf := Lib.hid ((below_set6 HB2.out (Nat.le_refl _) (.bool Z) (.int .u64 q) (.int .u64 b) (.int .u64 i) (.int .u64 e) (.int .i64 u)).alloc (by simpa using hz2) (.cells #[.int .u64 q, .int .u64 b, .int .u64 i, .int .u64 e, .int .i64 u] 26))
  simp only at HF
  clear r0 r1 r2 r3 r4 r5 rf
  generalize hwf : World.alloc (World.setCell _ _ _) _ = wf
  rw [hwf] at HF HBf
  obtain ⟨⟨r0, r1, r2, r3, r4, r5⟩, rf⟩ := HF.out
  simp only at r0 r1 r2 r3 r4 r5
  exact bodyPost_ret (v := .agg #[.bool Z, .int .u64 q, .int .u64 b, .int .u64 i, .int .u64 e, .int .i64 u]) (by simp [results, Tryd.results34, go_sem, r0, r1, r2, r3, r4, r5]) rfl ⟨rfl, HBf.out⟩
end Go.Proofs.YtlpnhpnigljlnaaDoor
