/-
  The walk of a shuffle's work.
-/
import Derived.Test.YtphcmjhphoacgaaClone
namespace Go.Proofs.Ytphcmjhphoacgaa
open Go.RowKit Go.Proofs.Ytphcmjhphoacgaa.Pure

/-- Block b holds the numbers xs, and may be written. -/
def Row (w : World) (b : Nat) (xs : List Int) : Prop := ∀ j, j < xs.length → w.cell? ⟨b, j, none⟩ = some (.int .i64 (xs.getD j 0)) ∧ w.frozen? ⟨b, j, none⟩ = false

section
variable {w w' : World} {b : Nat} {xs : List Int}
theorem Row.keep (h : Row w b xs) (hk : w'.heap[b]? = w.heap[b]?) : Row w' b xs := fun j hj =>
  ⟨(World.cell?_of_block (a := ⟨b, j, none⟩) hk).trans (h j hj).1, (World.frozen?_of_block (a := ⟨b, j, none⟩) hk).trans (h j hj).2⟩
theorem Row.far (h : Row w b xs) {p : Addr} (hp : b ≠ p.block) (u : Value) : Row (w.setCell p u) b xs := h.keep (Below.heap_setCell w p u b hp)
theorem Row.alloc (h : Row w b xs) (hb : b < w.heap.size) (o : Obj) : Row (w.alloc o) b xs := h.keep (Below.heap_alloc w o b hb)
theorem Row.drew (h : Row w b xs) : Row w.drew b xs := h
theorem Row.set (h : Row w b xs) (i : Nat) (hi : i < xs.length) (y : Int) : Row (w.setCell ⟨b, i, none⟩ (.int .i64 y)) b (xs.set i y) := fun j hj => by
  have hj' : j < xs.length := by simpa using hj
  refine ⟨?_, by rw [World.frozen?_setCell]; exact (h j hj').2⟩
  by_cases e : i = j
  · subst e
    rw [World.cell?_setCell_same w _ _ (h i hi).1]
    simp [List.getD, hi]
  · rw [World.cell?_setCell_other w _ _ _ (by intro h; injection h with _ h; exact e h), (h j hj').1]
    simp [List.getD, e]
theorem Row.swap (h : Row w b xs) (i j : Nat) (hi : i < xs.length) (hj : j < xs.length) :
    Row ((w.setCell ⟨b, i, none⟩ (.int .i64 (xs.getD j 0))).setCell ⟨b, j, none⟩ (.int .i64 (xs.getD i 0))) b (Pure.swap xs i j) :=
  (h.set i hi _).set j (by simpa using hj) _
theorem Row.has (h : Row w b xs) {lo : Nat} (hlo : lo ≤ b) (hb : b < w.heap.size) : Has w lo w.heap.size (some ⟨b, 0, none⟩) xs := fun j hj => ⟨_, rfl, hlo, hb, by
  have : (⟨b, 0, none⟩ : Addr).add j = ⟨b, j, none⟩ := by unfold Addr.add; split <;> simp_all
  rw [this]
  exact (h j hj).1⟩
theorem Own.row {B cap : Nat} (h : Own w B (.slice (some ⟨b, 0, none⟩) xs.length cap) xs) : Row w b xs := fun j hj => by
  refine ⟨?_, World.ownsRow.frozenAt (w := w) h j⟩
  rw [World.ownsRow.cellAt (w := w) h j (by simpa using hj)]
  simp [ints, List.getD, hj]
end

set_option maxRecDepth 100000 in
set_option maxHeartbeats 2000000 in
theorem shuffled_many (s : ByteArray) (a g c lo hi : Nat) (A : Option Addr) (xs : List Int) (w : World) (hs : s.size ≤ 1000) (ha : a ≤ s.size) (h2 : 2 ≤ xs.length) (hn : xs.length ≤ 256)
    (hr : Roll w g s a) (hc : Has w lo hi A xs) (hh : hi ≤ w.heap.size) :
    Calls Try.prog 32 #[.slice A xs.length c, .func (.func 33) #[.pointer (some ⟨g, 0, none⟩)] #[]] w fun e w' =>
      ∃ b c', e = .returned (.slice (some ⟨b, 0, none⟩) xs.length c') ∧ xs.length ≤ c' ∧ w.heap.size ≤ b ∧ b < w'.heap.size ∧ Row w' b (shufAll s.data.toList a xs).1 ∧ Roll w' g s (shufAll s.data.toList a xs).2 ∧ w.grownBy w' (some g) := by
  have HC := Lib.hid (clone_any A c xs lo hi w (by omega) hc hh)
  have HR := Lib.hid hr
  have HN : Hid (s.data.toList.length = s.size) := Lib.hid (by simp)
  clear hc hr
  go_enter Try.func32, Try.ntmps32
  go_wp2_with fail
  refine HC.out.mono ?_
  rintro e w1 ⟨v, rfl, hown, hb1⟩
  obtain ⟨hlen, ⟨rfl, h0⟩ | ⟨b, cap, cur, rfl, hgb, hheap, hcap, hmx, hsz, htk⟩⟩ := hown
  · omega
  have HO : Hid (Own w1 w.heap.size (.slice (some ⟨b, 0, none⟩) xs.length cap) xs) := Lib.hid ⟨hlen, .inr ⟨b, cap, cur, rfl, hgb, hheap, hcap, hmx, hsz, htk⟩⟩
  have hblt : b < w1.heap.size := (World.ownsRow.lt (w := w1) (v := .slice (some ⟨b, 0, none⟩) xs.length cap) HO.out b rfl).2
  have hgw := HR.out.lt
  have HR1 := Lib.hid (HR.out.on hb1)
  have HG1 : Hid (w.grownBy w1 (some g)) := Lib.hid (grown_below (World.grownBy.refl _ _) hb1)
  clear hlen hheap hsz htk hb1 hmx HC HR
  have hne : g ≠ b := by omega
  go_wp2_with fail
  go_loopw [6] (fun i wr => ∃ (k : Nat) (ys : List Int) (p : Nat), i = .int .i64 k ∧ k + 1 ≤ xs.length ∧ p ≤ s.size ∧ Hid (ys.length = xs.length) ∧ Hid (shuf s.data.toList k (ys, p) = shufAll s.data.toList a xs) ∧ Hid (Row wr b ys) ∧ Hid (Roll wr g s p) ∧ Hid (w.grownBy wr (some g)) ∧ b < wr.heap.size) (fun i _ => (intOf i).toNat)
  case atStart => exact ⟨xs.length - 1, xs, a, by go_num, by omega, ha, Lib.hid rfl, Lib.hid rfl, Lib.hid HO.out.row, HR1, HG1, hblt⟩
  case round =>
    obtain ⟨k, ys, p, rfl, hk, hp, hyl, hsh, hrow, hroll, hgr, hbw⟩ := hrel
    clear HO HR1 HG1
    by_cases h1 : 1 ≤ k
    · have hy := hyl.out
      have HCall := Lib.hid (fun (W : World) (h : Roll W g s p) => roll_any s p (k + 1) g W hs hp (by omega) (by omega) h)
      rw [show ((k + 1 : Nat) : Int) = (k : Int) + 1 by simp] at HCall
      have hd : drawn s.data.toList p (k + 1) < k + 1 := drawn_lt _ _ _ (by omega)
      have HSW : Hid (shuf s.data.toList (k - 1) (Pure.swap ys k (drawn s.data.toList p (k + 1)), next s.data.toList p) = shufAll s.data.toList a xs) := by
        have := hsh.out
        obtain ⟨k', rfl⟩ : ∃ k', k = k' + 1 := ⟨k - 1, by omega⟩
        rw [shuf] at this
        exact Lib.hid this
      have HNX := Lib.hid (next_le s.data.toList p (by rw [HN.out]; exact hp))
      rw [HN.out] at HNX
      generalize drawn s.data.toList p (k + 1) = d at *
      clear hy
      go_wp2_with fail
      refine (HCall.out _ hroll.out).mono ?_
      rintro e w2 ⟨rfl, hr2, hg2⟩
      have hrow2 := hrow.out.keep (hg2.block b hbw (by simp; omega))
      have HG2 := Lib.hid (grown_trans hgr.out hg2)
      have hsz2 := hg2.size
      have HR2 := Lib.hid hr2
      obtain ⟨ck, fk⟩ := hrow2 k (by rw [hyl.out]; omega)
      obtain ⟨cd, fd⟩ := hrow2 d (by rw [hyl.out]; omega)
      have HW2 := Lib.hid hrow2
      clear hg2 hr2 hrow2 hroll hgr hrow
      have i0 : (0 : Int) ≤ (k : Int) := by omega
      have i1 : (k : Int) < (xs.length : Int) := by omega
      have j0 : (0 : Int) ≤ (d : Int) := by omega
      have j1 : (d : Int) < (xs.length : Int) := by omega
      generalize hyk : ys.getD k 0 = yk at *
      generalize hyd : ys.getD d 0 = yd at *
      have HYK := Lib.hid hyk
      have HYD := Lib.hid hyd
      clear hyk hyd
      obtain ⟨u, hu⟩ := cell?_setCell_some (w := w2) (p := ⟨b, k, none⟩) (x := .int .i64 yd) (q := ⟨b, d, none⟩) (v := .int .i64 yd) (by go_simp)
      go_wp2_with fail
      go_region
      all_goals
        go_wp2
        go_roundw
        case rel =>
          have HS := HW2.out.swap k d (by rw [hyl.out]; omega) (by rw [hyl.out]; omega)
          rw [HYK.out, HYD.out] at HS
          exact ⟨k - 1, _, _, by go_num, by omega, HNX.out.2.1, Lib.hid ((swap_len _ _ _).trans hyl.out), HSW, Lib.hid HS.drew, Lib.hid (((HR2.out.far hne _).far hne _).drew),
            Lib.hid (grown_drew (grown_set (grown_set HG2.out (.inr hgb) _) (.inr hgb) _)), by simp [World.setCell, World.drew]; omega⟩
        case measure => simp [intOf]; omega
    · obtain rfl : k = 0 := by omega
      go_wp2
      go_ret
      have := hsh.out
      rw [shuf] at this
      rw [← this]
      exact ⟨b, cap, rfl, hcap, hgb, hbw, hrow.out, hroll.out, hgr.out⟩

set_option maxRecDepth 100000 in
set_option maxHeartbeats 1000000 in
theorem shuffled_few (g c lo hi : Nat) (A : Option Addr) (xs : List Int) (w : World) (h2 : xs.length < 2) (hc : Has w lo hi A xs) (hh : hi ≤ w.heap.size) :
    Calls Try.prog 32 #[.slice A xs.length c, .func (.func 33) #[.pointer (some ⟨g, 0, none⟩)] #[]] w fun e w' =>
      ∃ A' c', e = .returned (.slice A' xs.length c') ∧ xs.length ≤ c' ∧ Has w' w.heap.size w'.heap.size A' xs ∧ Below w.heap.size w w' := by
  have HC := Lib.hid (clone_any A c xs lo hi w (by omega) hc hh)
  clear hc
  go_enter Try.func32, Try.ntmps32
  go_wp2_with fail
  refine HC.out.mono ?_
  rintro e w1 ⟨v, rfl, hown, hb1⟩
  obtain ⟨A', c', rfl, hcap, hhas⟩ := hown.has
  have H1 := Lib.hid hhas
  clear hown hhas HC
  go_wp2_with fail
  go_loop [6] (fun i => ∃ k : Int, k < 1 ∧ i = .int .i64 k) (fun _ => 0)
  case atStart => exact ⟨_, by omega, rfl⟩
  case round =>
    obtain ⟨k, hk, rfl⟩ := hrel
    go_wp2
    go_ret
    exact ⟨A', c', rfl, hcap, H1.out, hb1⟩
end Go.Proofs.Ytphcmjhphoacgaa
