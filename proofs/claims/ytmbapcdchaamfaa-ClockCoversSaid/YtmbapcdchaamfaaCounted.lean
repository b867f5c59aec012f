/-
  The walks of the library's Clone, and of counted.
-/
import Derived.Test.YtmbapcdchaamfaaCheck
import Derived.Laws.MakeOwn
namespace Go.Proofs.Ytmbapcdchaamfaa
open Go.Sort Go.RowKit Go.Proofs.Ytmbapcdchaamfaa.Pure

theorem Try.infoCt : (Try.prog.info? 53).map (fun i => (i.zero, i.size, i.bytes)) = some (some (.agg #[.int .i64 0, .int .i64 0, .bool false]), 3, 24) := by kernel_rfl
theorem Try.infoRow : (Try.prog.info? 54).map (fun i => (i.zero, i.size, i.bytes)) = some (some (.slice none 0 0), 1, 24) := by kernel_rfl

theorem cts_zero (n : Nat) : (madeCells #[Value.int .i64 0, .int .i64 0, .bool false] (n * 3)).toList = cts (List.replicate n zc) := by
  apply List.ext_getElem?
  intro j
  by_cases hj : j < n * 3
  · have e : j / 3 * 3 + j % 3 = j := by omega
    have hr : j % 3 < 3 := by omega
    have hl : j / 3 < n := by omega
    have h2 := cts_at (List.replicate n zc) (j / 3) (j % 3) (by simpa using hl) hr
    rw [e] at h2
    rw [h2]
    have h3 : nth (List.replicate n zc) (j / 3) = zc := by simp [nth, List.getD, hl]
    rw [h3]
    have h4 : (madeCells #[Value.int .i64 0, .int .i64 0, .bool false] (n * 3)).toList[j]? = some (#[Value.int .i64 0, .int .i64 0, .bool false][j % 3]!) := by
      simp [madeCells, hj]
    rw [h4]
    generalize j % 3 = r at *
    match r, hr with
    | 0, _ => rfl
    | 1, _ => rfl
    | 2, _ => rfl
  · have h1 : (madeCells #[Value.int .i64 0, .int .i64 0, .bool false] (n * 3)).toList.length = n * 3 := by simp [size_madeCells]
    rw [List.getElem?_eq_none (by omega), List.getElem?_eq_none (by simp [cts_len]; omega)]
theorem rowL_zero (n : Nat) (l : List Bt) : rowL n l 0 = List.replicate n zc := by
  unfold rowL
  rw [List.eq_replicate_iff]
  exact ⟨by simp, fun b hb => by
    obtain ⟨v, _, rfl⟩ := List.mem_map.1 hb
    rfl⟩

/-- A row of counts lies in block b. -/
def RowAt (w : World) (b n : Nat) (cs : List Ct) : Prop := b < w.heap.size ∧ cs.length = n ∧ ∀ v, v < n → CAt w b (v * 3) (nth cs v)
theorem RowAt.on {w w' : World} {b n : Nat} {cs : List Ct} (h : RowAt w b n cs) (hb : Below w.heap.size w w') : RowAt w' b n cs :=
  ⟨by have := hb.size; have := h.1; omega, h.2.1, fun v hv => (h.2.2 v hv).keep (hb.block b h.1)⟩
theorem RowAt.keep {w w' : World} {b n : Nat} {cs : List Ct} (h : RowAt w b n cs) (hs : w.heap.size ≤ w'.heap.size) (hb : w'.heap[b]? = w.heap[b]?) : RowAt w' b n cs :=
  ⟨by have := h.1; omega, h.2.1, fun v hv => (h.2.2 v hv).keep hb⟩
theorem Own.row {e : TypeId} {w : World} {B b n c : Nat} {cs : List Ct} (h : Own e w B (.slice (some ⟨b, 0, none⟩) n c) cs) : RowAt w b n cs :=
  ⟨(h.ge b rfl).2, h.len.symm, fun v hv => h.at_ v hv⟩
theorem RowAt.cells {w : World} {b n : Nat} {cs : List Ct} (h : RowAt w b n cs) (j : Nat) (u : Value) (hu : (cts cs)[j]? = some u) : w.cell? ((⟨b, 0, none⟩ : Addr).add j) = some u := by
  have hl := (List.getElem?_eq_some_iff.1 hu).1
  rw [cts_len] at hl
  have e2 : j / 3 * 3 + j % 3 = j := by omega
  have hr : j % 3 < 3 := by omega
  have ha := h.2.2 (j / 3) (by have := h.2.1; omega)
  have h2 := cts_at cs (j / 3) (j % 3) (by omega) hr
  rw [e2, hu] at h2
  have e3 : (⟨b, 0, none⟩ : Addr).add j = ⟨b, j, none⟩ := by unfold Addr.add; split <;> simp_all
  rw [e3, ← e2, h2]
  generalize j % 3 = r at *
  match r, hr with
  | 0, _ => exact ha.1
  | 1, _ => exact ha.2.1
  | 2, _ => exact ha.2.2

set_option maxRecDepth 100000 in
set_option maxHeartbeats 1000000 in
theorem clone_any (b n c : Nat) (cs : List Ct) (w : World) (hn1 : 1 ≤ n) (hn : n ≤ 1000) (h : RowAt w b n cs) :
    Calls Try.prog 33 #[.slice (some ⟨b, 0, none⟩) n c] w fun e w' => ∃ b' c', e = .returned (.slice (some ⟨b', 0, none⟩) n c') ∧ Own 53 w' w.heap.size (.slice (some ⟨b', 0, none⟩) n c') cs ∧ Below w.heap.size w w' := by
  obtain ⟨i0, hi0, hz0, hz1, hz2⟩ := info_parts Try.infoCt
  have q : ∀ (w : World) (a : Option Addr) (n c n' c' : Nat), (binOp .eql 54 (.slice a n c) (.slice none n' c')).run Try.prog w = .ok (.bool a.isNone) w := fun w a n c n' c' => Lib.run_eql_slice_nil w _ _ a n c n' c' Try.underlying54
  have HC := Lib.hid (h.on ((Below.refl _ _).alloc (Nat.le_refl _) (.cells #[] 53)))
  have hl := h.2.1
  clear h
  subst hl
  go_enter Try.func33, Try.ntmps33
  go_wp2_with (at_builtin; refine wpList_append_own _ rfl _ _ 54 rfl w.heap.size 53 i0 (.agg #[.int .i64 0, .int .i64 0, .bool false]) 3 24 Try.underlying54 hi0 hz0 hz1 hz2 rfl (by decide) _ _ _ rfl (World.ownsRow_made w #[] 0 (Nat.le_refl _) (Nat.zero_le _) rfl) ⟨b, 0, none⟩ cs.length c (cts cs) rfl ?c1 ?c2 ?c3 ?c4 ?c5 ?c6 ?_)
  case c1 => exact cts_len cs
  case c2 => exact HC.out.cells
  case c3 => exact cts_one cs
  case c4 => unfold maxLen; omega
  case c5 => omega
  case c6 => simp
  intro v' w1 hown hgrow hnil
  have ho : Own 53 w1 w.heap.size v' cs := by simpa [Own] using hown
  have hv' : ∃ b' c', v' = .slice (some ⟨b', 0, none⟩) cs.length c' := by
    rcases ho.2 with ⟨_, h0⟩ | ⟨g, cap, cur, e, _⟩
    · omega
    · exact ⟨g, cap, e⟩
  obtain ⟨b', c', rfl⟩ := hv'
  have HE : Hid (_ ∧ _) := Lib.hid (And.intro ho (((Below.refl _ w).alloc (Nat.le_refl _) (.cells #[] 53)).grown hgrow (by simp) (by intro k hk; simp [Value.ownBlock] at hk; omega)))
  clear hown hgrow hnil ho
  go_wp2
  go_ret
  exact ⟨b', c', rfl, HE.out⟩

/-- Rows of counts, place by place, of a slice of the call's own. -/
structure RowsO (w : World) (B n : Nat) (l : List Bt) (m : Nat) (v : Value) (vals : List Value) : Prop where
  own : w.ownsRow B 54 1 v m vals
  row : ∀ i, i < m → ∃ b c, vals[i]? = some (.slice (some ⟨b, 0, none⟩) n c) ∧ B ≤ b ∧ v.ownBlock ≠ some b ∧ RowAt w b n (rowL n l i)
theorem RowsO.len {w : World} {B n m : Nat} {l : List Bt} {v : Value} {vals : List Value} (h : RowsO w B n l m v vals) : vals.length = m := by have := h.own.1; omega
theorem RowsO.on {w w' : World} {B n m : Nat} {l : List Bt} {v : Value} {vals : List Value} (h : RowsO w B n l m v vals) (hb : Below w.heap.size w w') : RowsO w' B n l m v vals := by
  refine ⟨?_, fun i hi => ?_⟩
  · refine ⟨h.own.1, ?_⟩
    rcases h.own.2 with h | ⟨g, cap, cur, rfl, h2, h3, h4⟩
    · exact .inl h
    · exact .inr ⟨g, cap, cur, rfl, h2, (hb.block g (World.ownsRow.lt (w := w) h.own g rfl).2).trans h3, h4⟩
  · obtain ⟨b, c, h1, h2, h3, h4⟩ := h.row i hi
    exact ⟨b, c, h1, h2, h3, h4.on hb⟩
/-- Rows of counts that may be read: the slice at block g has m of them. -/
structure Grid (w : World) (B n : Nat) (l : List Bt) (m g cap : Nat) : Prop where
  ge : B ≤ g
  lt : g < w.heap.size
  cap : m ≤ cap ∧ cap ≤ maxLen
  row : ∀ i, i < m → ∃ b c, w.cell? ⟨g, i, none⟩ = some (.slice (some ⟨b, 0, none⟩) n c) ∧ B ≤ b ∧ RowAt w b n (rowL n l i)
theorem Grid.on {w w' : World} {B n m g cap : Nat} {l : List Bt} (h : Grid w B n l m g cap) (hb : Below w.heap.size w w') : Grid w' B n l m g cap :=
  ⟨h.ge, by have := hb.size; have := h.lt; omega, h.cap, fun i hi => by
    obtain ⟨b, c, h1, h2, h3⟩ := h.row i hi
    exact ⟨b, c, (hb.cell (p := ⟨g, i, none⟩) h.lt).trans h1, h2, h3.on hb⟩⟩
theorem Grid.less {w : World} {B n m m' g cap : Nat} {l : List Bt} (h : Grid w B n l m g cap) (hm : m' ≤ m) : Grid w B n l m' g cap :=
  ⟨h.ge, h.lt, ⟨by have := h.cap.1; omega, h.cap.2⟩, fun i hi => h.row i (by omega)⟩
theorem RowsO.some_ {w : World} {B n m : Nat} {l : List Bt} {v : Value} {vals : List Value} (h : RowsO w B n l m v vals) (hm : 0 < m) : ∃ g cap, v = .slice (some ⟨g, 0, none⟩) m cap ∧ Grid w B n l m g cap := by
  have ho := h.own
  rcases ho.2 with ⟨_, h0⟩ | ⟨g, cap, cur, rfl, hb, hg, hc, hm, _⟩
  · omega
  · refine ⟨g, cap, rfl, ⟨hb, (World.ownsRow.lt (w := w) ho g rfl).2, ⟨hc, hm⟩, fun i hi => ?_⟩⟩
    obtain ⟨b, c, h1, h2, _, h4⟩ := h.row i hi
    refine ⟨b, c, ?_, h2, h4⟩
    have := World.ownsRow.cellAt (w := w) ho i (by omega)
    rw [this, h1]

/-- The first row. -/
theorem rows_first (w : World) (B b n c : Nat) (l : List Bt) (hB : B ≤ w.heap.size) (hb : B ≤ b) (h : RowAt w b n (rowL n l 0)) :
    RowsO (w.alloc (.cells #[.slice (some ⟨b, 0, none⟩) n c] 54)) B n l 1 (.slice (some ⟨w.heap.size, 0, none⟩) 1 1) [.slice (some ⟨b, 0, none⟩) n c] := by
  refine ⟨⟨rfl, .inr ⟨w.heap.size, 1, #[.slice (some ⟨b, 0, none⟩) n c], rfl, hB, heap_alloc_new w _, Nat.le_refl _, by unfold maxLen; omega, rfl, rfl⟩⟩, fun i hi => ?_⟩
  obtain rfl : i = 0 := by omega
  exact ⟨b, c, rfl, hb, by simp [Value.ownBlock]; have := h.1; omega, h.on ((Below.refl _ _).alloc (Nat.le_refl _) _)⟩
/-- A row more. -/
theorem RowsO.more {w w' : World} {B n m b c : Nat} {l : List Bt} {v v' : Value} {vals : List Value} (h : RowsO w B n l m v vals)
    (hown : w'.ownsRow B 54 1 v' (m + 1) (vals ++ [.slice (some ⟨b, 0, none⟩) n c])) (hg : w.grownBy w' v.ownBlock) (hat : v'.ownBlock = v.ownBlock ∨ v'.ownBlock = some w.heap.size)
    (hb : B ≤ b) (hne : v.ownBlock ≠ some b) (hr : RowAt w b n (rowL n l m)) : RowsO w' B n l (m + 1) v' (vals ++ [.slice (some ⟨b, 0, none⟩) n c]) := by
  have key : ∀ (b : Nat) (cs : List Ct), v.ownBlock ≠ some b → RowAt w b n cs → v'.ownBlock ≠ some b ∧ RowAt w' b n cs := by
    intro b cs hne hr
    refine ⟨?_, hr.keep hg.size (hg.block b hr.1 (fun e => hne e.symm))⟩
    rcases hat with e | e
    · rw [e]; exact hne
    · rw [e]
      intro e2
      have := Option.some.inj e2
      have := hr.1
      omega
  refine ⟨hown, fun i hi => ?_⟩
  rcases Nat.lt_or_ge i m with hlt | hge
  · obtain ⟨b', c', h1, h2, h3, h4⟩ := h.row i hlt
    obtain ⟨h5, h6⟩ := key b' _ h3 h4
    exact ⟨b', c', by rw [List.getElem?_append_left (by rw [h.len]; exact hlt)]; exact h1, h2, h5, h6⟩
  · obtain rfl : i = m := by omega
    obtain ⟨h5, h6⟩ := key b _ hne hr
    exact ⟨b, c, by rw [List.getElem?_append_right (by rw [h.len]; exact Nat.le_refl _), h.len]; simp, hb, h5, h6⟩

/-- What counted answers: rows of counts, place by place. -/
def Counts (w : World) (n : Nat) (l : List Bt) (e : Ending) (w' : World) : Prop :=
  ∃ g cap, e = .returned (.slice (some ⟨g, 0, none⟩) (l.length + 1) cap) ∧ Grid w' w.heap.size n l (l.length + 1) g cap ∧ Below w.heap.size w w'

set_option maxRecDepth 100000 in
set_option maxHeartbeats 4000000 in
theorem counted_any (A : Option Addr) (c n : Nat) (l : List Bt) (w : World) (hl : l.length ≤ 400) (hn1 : 1 ≤ n) (hn : n ≤ 64) (hk : ∀ i, i < l.length → okAt n l i = true) (h : Lst w A l) :
    Calls Try.prog 21 #[.int .i64 n, .slice A l.length c] w (Counts w n l) := by
  obtain ⟨i0, hi0, hz0, hz1, hz2⟩ := info_parts Try.infoCt
  obtain ⟨j0, hj0, hy0, hy1, hy2⟩ := info_parts Try.infoRow
  have H := Lib.hid h
  have HK := Lib.hid hk
  clear h hk
  go_enter Try.func21, Try.ntmps21
  go_wp2_with (refine wpList_make_full _ rfl _ _ 54 rfl w.heap.size 53 i0 _ 3 Try.underlying54 hi0 hz0 hz1 .i64 .i64 _ _ n rfl rfl rfl rfl ?c1 ?c2 (Nat.le_refl _) ?_)
  case c1 => rw [hz2]; omega
  case c2 => unfold maxLen; omega
  intro w1 hown hgrow
  rw [cts_zero] at hown
  have ho1 : Own 53 w1 w.heap.size (.slice (some ⟨w.heap.size, 0, none⟩) n n) (rowL n l 0) := by
    rw [rowL_zero]
    unfold Own
    rw [List.length_replicate]
    exact hown
  have hb1 : Below w.heap.size w w1 := (Below.refl _ _).grown hgrow (Nat.le_refl _) (by intro k hk; cases hk)
  have HR : Hid (RowsO _ _ n l 1 _ _) := Lib.hid (rows_first w1 w.heap.size w.heap.size n n l hb1.size (Nat.le_refl _) ho1.row)
  have HB : Hid (Below w.heap.size w (w1.alloc (.cells #[.slice (some ⟨w.heap.size, 0, none⟩) n n] 54))) := Lib.hid (hb1.alloc hb1.size _)
  clear hown hgrow ho1 hb1
  go_wp2_with fail
  go_loopw [5, 14] (fun v i wr => ∃ (k : Nat) (vals : List Value), i = .int .i64 k ∧ k ≤ l.length ∧ Hid (RowsO wr w.heap.size n l (k + 1) v vals) ∧ Hid (Below w.heap.size w wr)) (fun _ i _ => l.length - (intOf i).toNat)
  case atStart => exact ⟨0, _, by go_num, Nat.zero_le _, HR, HB⟩
  case round =>
    clear HR HB
    obtain ⟨k, vals, rfl, hkl, hro, hb⟩ := hrel
    obtain ⟨g, cap, rfl, hgr⟩ := hro.out.some_ (Nat.succ_pos k)
    have HG := Lib.hid hgr
    clear hgr
    by_cases hlt : k < l.length
    · have hlw := H.out.on hb.out
      obtain ⟨ad, rfl, hlo, h1⟩ := hlw k hlt
      obtain ⟨a0, a1⟩ := h1.flat
      have hok := (okAt_iff n l k).1 (HK.out k hlt)
      have HSU := Lib.hid (fun v => rowL_succ n l k v)
      have hcs := fun v => cnt_small l v k
      have HNT : Hid (∀ v : Nat, v < n → nth (rowL n l k) v = cntAt l k v) := Lib.hid (fun v hv => rowL_at n l k v hv)
      generalize hxn : (bt l k).n = xn at *
      generalize hxk : (bt l k).k = xk at *
      obtain ⟨v, rfl⟩ := Int.eq_ofNat_of_zero_le hok.1
      have hv : v < n := by omega
      have HSU' := Lib.hid (HSU.out v rfl hv)
      have hcv := hcs v
      have HNT' := Lib.hid (HNT.out v hv)
      clear h1 hxn hxk hlw hok HSU hcs HNT
      generalize hcc : cntAt l k v = cc at *
      clear hcc
      obtain ⟨ct, cf, cd⟩ := cc
      simp only at hcv
      have k0 : (0 : Int) ≤ (k : Int) := by omega
      have k1 : (k : Int) < (l.length : Int) := by omega
      have hsz := hb.out.size
      go_upto_region 5 with (fail)
      have HB1 : Hid (Below w.heap.size w (wr.alloc (.cells #[.int .i64 v, .int .i64 xk] 59))) := Lib.hid (hb.out.alloc hsz _)
      have hbw1 : Below wr.heap.size wr (wr.alloc (.cells #[.int .i64 v, .int .i64 xk] 59)) := (Below.refl _ _).alloc (Nat.le_refl _) _
      have HR1 := Lib.hid (hro.out.on hbw1)
      have HG1 := Lib.hid (HG.out.on hbw1)
      have c0 : (wr.alloc (.cells #[.int .i64 v, .int .i64 xk] 59)).cell? ⟨wr.heap.size, 0, none⟩ = some (.int .i64 v) := by go_simp
      have c1 : (wr.alloc (.cells #[.int .i64 v, .int .i64 xk] 59)).cell? ⟨wr.heap.size, 1, none⟩ = some (.int .i64 xk) := by go_simp
      clear hbw1 hro HG hb hsz a0 a1
      generalize wr.alloc (.cells #[.int .i64 v, .int .i64 xk] 59) = w1 at *
      generalize wr.heap.size = nb at *
      obtain ⟨rb, rc, hrow, hrb, hra⟩ := HG1.out.row k (Nat.lt_succ_self k)
      have HCL := Lib.hid (clone_any rb n rc (rowL n l k) w1 hn1 (by omega) hra)
      have HGL := Lib.hid HG1.out.lt
      clear hra
      go_wp2_with fail
      refine HCL.out.mono ?_
      rintro e w2 ⟨b', c', rfl, ho2, hb2⟩
      have HO2 := Lib.hid ho2
      have HB2 := Lib.hid hb2
      have HR2 := Lib.hid (HR1.out.on hb2)
      have HBW2 : Hid (Below w.heap.size w w2) := Lib.hid (HB1.out.trans (hb2.mono HB1.out.size))
      have c0' := (hb2.cell (p := ⟨nb, 0, none⟩) (World.block_lt_of_cell? w1 _ c0)).trans c0
      have c1' := (hb2.cell (p := ⟨nb, 1, none⟩) (World.block_lt_of_cell? w1 _ c1)).trans c1
      obtain ⟨m0, m1, m2⟩ := ho2.at_ v hv
      rw [HNT'.out] at m0 m1 m2
      simp only at m0 m1 m2
      have f0 := ho2.frozen (v * 3)
      have f1 := ho2.frozen (v * 3 + 1)
      have f2 := ho2.frozen (v * 3 + 2)
      clear ho2 hb2 HCL hrow c0 c1
      have HWT : Hid (∀ W : World, Calls Try.prog 26 #[.agg #[.int .i64 ct, .int .i64 cf, .bool cd], .int .i64 xk] W fun e w' => e = .returned (.agg #[.int .i64 (wth ⟨ct, cf, cd⟩ xk).t, .int .i64 (wth ⟨ct, cf, cd⟩ xk).f, .bool (wth ⟨ct, cf, cd⟩ xk).d]) ∧ Below W.heap.size W w') :=
        Lib.hid (fun W : World => with_any ct cf cd xk W (by omega) (by omega))
      have HPUT := Lib.hid (fun (W : World) (hW : Below w2.heap.size w2 W) => (HO2.out.on hW).put v hv (wth ⟨ct, cf, cd⟩ xk))
      generalize wth ⟨ct, cf, cd⟩ xk = x at *
      obtain ⟨xt, xf, xd⟩ := x
      have v0 : (0 : Int) ≤ (v : Int) := by omega
      have v1 : (v : Int) < (n : Int) := by omega
      go_upto_region 6 with (fail)
      have C0 := fun d os => cell_regrown c0' d os
      have C1 := fun d os => cell_regrown c1' d os
      have M0 := fun d os => cell_regrown m0 d os
      have M1 := fun d os => cell_regrown m1 d os
      have M2 := fun d os => cell_regrown m2 d os
      refine t_region 12 (by kernel_rfl) (by kernel_rfl) ?_
      simp only [List.take_succ_cons, List.take_zero, List.drop_succ_cons, List.drop_zero]
      iterate 12 (refine q_step ?_; intro K hK; go_simp; first | (refine hK _ ?_; clear hK K) | (refine ⟨_, fun p => Calls.regrown_of (HWT.out _), hK _ ?_⟩; clear hK K))
      refine q_nil ?_
      intro wy hby
      have m0' := (hby.cell (p := ⟨b', v * 3, none⟩) (World.block_lt_of_cell? w2 _ m0)).trans m0
      have m1' := (hby.cell (p := ⟨b', v * 3 + 1, none⟩) (World.block_lt_of_cell? w2 _ m1)).trans m1
      have m2' := (hby.cell (p := ⟨b', v * 3 + 2, none⟩) (World.block_lt_of_cell? w2 _ m2)).trans m2
      have g0 := (HO2.out.on hby).frozen (v * 3)
      have g1 := (HO2.out.on hby).frozen (v * 3 + 1)
      have g2 := (HO2.out.on hby).frozen (v * 3 + 2)
      have HP := HPUT.out wy hby
      rw [← HSU'.out] at HP
      have HP' : Hid (_ ∧ _) := Lib.hid HP
      have HBY : Hid (Below w2.heap.size w2 wy) := Lib.hid hby
      clear C0 C1 M0 M1 M2 c0' c1' m0 m1 m2 f0 f1 f2 hby HP HPUT HWT HSU'
      go_upto_region 7 with (fail)
      have HO3 := Lib.hid HP'.out.1
      have HGW := Lib.hid HP'.out.2
      clear HP' m0' m1' m2' g0 g1 g2
      generalize ((wy.setCell ⟨b', v * 3, none⟩ (.int .i64 xt)).setCell ⟨b', v * 3 + 1, none⟩ (.int .i64 xf)).setCell ⟨b', v * 3 + 2, none⟩ (.bool xd) = w3 at *
      have hbb : w1.heap.size ≤ b' := (HO2.out.ge b' rfl).1
      have hlt1 : g < w1.heap.size := HGL.out
      have hb13 : Below w1.heap.size w1 w3 := (HB2.out.trans (HBY.out.mono HB2.out.size)).grown HGW.out (by have h1 := HB2.out.size; have h2 := HBY.out.size; omega) (fun k h => by cases h; exact hbb)
      have HB13 := Lib.hid hb13
      have HR3 := Lib.hid ((HR1.out.on hb13).on ((Below.refl _ _).alloc (Nat.le_refl _) (.cells #[.slice (some ⟨b', 0, none⟩) n c'] 54)))
      have HRW := Lib.hid (HO3.out.row.on ((Below.refl _ _).alloc (Nat.le_refl _) (.cells #[.slice (some ⟨b', 0, none⟩) n c'] 54)))
      clear hb13 HO2 HB2 HBY HR2 HBW2 HG1 HR1
      go_wp2_with (at_builtin; refine wpList_append_own_at _ rfl _ _ 50 rfl w.heap.size 54 j0 (.slice none 0 0) 1 24 Try.underlying50 hj0 hy0 hy1 hy2 rfl (by decide) _ _ _ rfl HR3.out.own ⟨w3.heap.size, 0, none⟩ 1 1 [.slice (some ⟨b', 0, none⟩) n c'] rfl ?d1 ?d2 ?d3 ?d4 ?d5 ?d6 ?_)
      case d1 => rfl
      case d2 => exact cell_one_new _ _ _
      case d3 => intro u hu; simp at hu; subst hu; rfl
      case d4 => unfold maxLen; omega
      case d5 => omega
      case d6 => have h1 := HB1.out.size; have h2 := HB13.out.size; simp; omega
      intro v' w4 hown hgrow hnil hat
      have HR4 : Hid (RowsO w4 w.heap.size n l (k + 1 + 1) v' (vals ++ [.slice (some ⟨b', 0, none⟩) n c'])) := Lib.hid (HR3.out.more hown hgrow (by rw [World.size_alloc]; exact hat) (by have := HB1.out.size; omega) (by
        intro e
        have := Option.some.inj e
        simp at this
        omega) HRW.out)
      have HB4 : Hid (Below w.heap.size w w4) := Lib.hid (((HB1.out.trans (HB13.out.mono HB1.out.size)).alloc (by have h1 := HB1.out.size; have h2 := HB13.out.size; omega) _).grown hgrow (by have h1 := HB1.out.size; have h2 := HB13.out.size; simp; omega) (fun k hk => (World.ownsRow.lt HR3.out.own k hk).1))
      clear hown hgrow hnil hat
      go_wp2_with fail
      go_roundw
      case rel => exact ⟨k + 1, vals ++ [.slice (some ⟨b', 0, none⟩) n c'], by go_num, by omega, HR4, HB4⟩
      case measure => simp [intOf]; omega
    · obtain rfl : k = l.length := by omega
      go_wp2_with fail
      go_ret
      exact ⟨g, cap, rfl, HG.out, hb.out⟩
end Go.Proofs.Ytmbapcdchaamfaa
