/-
  The table of the parts: what may be done with each of its entries; the walk of what makes it.
-/
import Derived.Test.YtjeepmdklbfgeaaDoorKeeps
import Derived.Test.YtjeepmdklbfgeaaDoorBase
import Derived.Maps.OwnSet
import Derived.Maps.RangeWalk
import Derived.Laws.EntriesVeiled
namespace Go.Proofs.YtjeepmdklbfgeaaDoor
open Go.Sort Go.RowKit Go.Proofs.YtjeepmdklbfgeaaDoor.Pure Go.Proofs.YtjeepmdklbfgeaaDoor.W Go.Proofs.YtjeepmdklbfgeaaDoor.W.Pure

theorem ret_u64 {a b : Int} (h : a = b) : Ending.returned (.int .u64 a) = .returned (.int .u64 b) := by rw [h]
theorem below_of {P : Program} {f : FuncId} {args : Array Value} {w : World} {v : Value} (h : Calls P f args w fun e w' => e = .returned v ∧ w = w') : Calls P f args w fun e w' => e = .returned v ∧ Below w.heap.size w w' :=
  h.mono fun _ _ h => ⟨h.1, h.2 ▸ Below.refl _ _⟩
theorem took_go {w wz : World} {b : Nat} {s : ByteArray} {t : Tk} (h : TkAt w b s t) (hb : Below w.heap.size w wz) (n : Nat) : Took w b s ⟨n, t.b⟩ (wz.setCell ⟨b, 1, none⟩ (.int .i64 (n : Int))) :=
  ⟨(h.on hb).go n, (Kp.of hb).set (.inl (by simp)) _⟩
theorem took_bad {w wz : World} {b : Nat} {s : ByteArray} {t : Tk} (h : TkAt w b s t) (hb : Below w.heap.size w wz) : Took w b s ⟨t.p, true⟩ (wz.setCell ⟨b, 2, none⟩ (.bool true)) :=
  ⟨(h.on hb).bad, (Kp.of hb).set (.inl (by simp)) _⟩
theorem Took.trans {w w1 w2 : World} {b : Nat} {s : ByteArray} {t t' : Tk} (h : Took w b s t w1) (k : Took w1 b s t' w2) : Took w b s t' w2 :=
  ⟨k.1, h.2.trans (k.2.mono h.2.size (fun _ _ h => h))⟩
set_option maxRecDepth 100000 in
set_option maxHeartbeats 4000000 in
theorem number_any (b most : Nat) (s : ByteArray) (t : Tk) (w : World) (hs : s.size ≤ 140737488351232) (ht : t.p ≤ s.size) (h : TkAt w b s t) :
    Calls Tryd.prog 88 #[.pointer (some ⟨b, 0, none⟩), .int .u64 (most : Int)] w fun e w' => e = .returned (.int .u64 ((tnum s most t).1 : Int)) ∧ Took w b s (tnum s most t).2 w' := by
  obtain ⟨n, p, k, hr⟩ : ∃ n p k, takeL (s.data.toList.drop t.p) 0 0 = (n, p, k) := ⟨_, _, _, rfl⟩
  have HV : Hid (k = 0 → n < 2 ^ 64 ∧ t.p + p ≤ s.size) := Lib.hid (fun hk => by
    subst hk
    have h1 := (takeL_fits (s.data.toList.drop t.p) 0 0 (by rw [hr])).1
    rw [hr, List.length_drop, size_list] at h1
    exact ⟨take_small _ _ _ hr, by simp only [] at h1; omega⟩)
  have HT := Lib.hid (fun W => below_of (take_in s t.p W (by unfold maxLen; omega) ht))
  have HN : Hid (tnum s most t = if k ≠ 0 ∨ most < n then (0, ⟨t.p, true⟩) else (n, ⟨t.p + p, t.b⟩)) := Lib.hid (by unfold tnum; rw [hr])
  have HG := Lib.hid (fun (wz : World) (hb : Below w.heap.size w wz) (q : Nat) => took_go h hb q)
  have HBad := Lib.hid (fun (wz : World) (hb : Below w.heap.size w wz) => took_bad h hb)
  obtain ⟨c0, c1, c2, hf⟩ := h.cells
  have hlt := h.lt
  clear h
  rw [hr] at HT
  clear hr
  obtain ⟨a, x⟩ := t
  simp only [] at *
  by_cases hk : k = 0
  · subst hk
    obtain ⟨hn, hp⟩ := HV.out rfl
    have eV : takeV a (n, p, 0) = .tuple #[.int .u64 (n : Int), .int .i64 ((a + p : Nat) : Int), .int .i64 0] := rfl
    rw [eV] at HT
    clear HV eV
    by_cases hmn : most < n
    · rw [show tnum s most ⟨a, x⟩ = (0, ⟨a, true⟩) by rw [HN.out, if_pos (.inr hmn)]]
      have e1 : decide ((most : Int) < (n : Int)) = true := by simp; omega
      have e1' : decide (most < n) = true := by simpa using hmn
      generalize a + p = q at *
      go_enter Tryd.func88, Tryd.ntmps88
      go_upto_region 1 with (fail)
      have C0 : ∀ pq : Regrown, (grow (redrawn w pq.d) pq.os).cell? ⟨b, 0, none⟩ = some (.string s) := fun pq => cell_regrown c0 pq.d pq.os
      have C1 : ∀ pq : Regrown, (grow (redrawn w pq.d) pq.os).cell? ⟨b, 1, none⟩ = some (.int .i64 (a : Int)) := fun pq => cell_regrown c1 pq.d pq.os
      have HC : Hid (∀ pq : Regrown, Calls Tryd.prog 108 #[.string s, .int .i64 (a : Int)] (grow (redrawn w pq.d) pq.os) fun e w' => e = .returned (.tuple #[.int .u64 (n : Int), .int .i64 (q : Int), .int .i64 0]) ∧ Below (grow (redrawn w pq.d) pq.os).heap.size (grow (redrawn w pq.d) pq.os) w') := Lib.hid (fun pq => HT.out (grow (redrawn w pq.d) pq.os))
      refine q_enter (by kernel_rfl) (by kernel_rfl) ?_
      iterate 16 (refine q_step ?_; intro K hK; go_simp; first | (refine hK _ ?_; clear hK K) | (refine ⟨_, fun pq => Calls.regrown_of (by with_reducible exact HC.out pq), hK _ ?_⟩; clear hK K))
      refine q_nil ?_
      intro wz hbz
      clear C0 C1 HC HT
      have HF := Lib.hid (HBad.out wz hbz)
      have z2 := (hbz.cell (p := ⟨b, 2, none⟩) hlt).trans c2
      have zf := fun o => (World.frozen?_of_block (a := ⟨b, o, none⟩) (hbz.block b hlt)).trans (hf o)
      clear HG HBad HN c0 c1 c2 hf hbz
      go_wp2_with fail
      go_ret
      exact ⟨rfl, HF.out⟩
    · rw [show tnum s most ⟨a, x⟩ = (n, ⟨a + p, x⟩) by rw [HN.out, if_neg (fun e => e.elim (fun e => e rfl) hmn)]]
      have e1 : decide ((most : Int) < (n : Int)) = false := by simp; omega
      have e1' : decide (most < n) = false := by simpa using hmn
      generalize a + p = q at *
      go_enter Tryd.func88, Tryd.ntmps88
      go_upto_region 1 with (fail)
      have C0 : ∀ pq : Regrown, (grow (redrawn w pq.d) pq.os).cell? ⟨b, 0, none⟩ = some (.string s) := fun pq => cell_regrown c0 pq.d pq.os
      have C1 : ∀ pq : Regrown, (grow (redrawn w pq.d) pq.os).cell? ⟨b, 1, none⟩ = some (.int .i64 (a : Int)) := fun pq => cell_regrown c1 pq.d pq.os
      have HC : Hid (∀ pq : Regrown, Calls Tryd.prog 108 #[.string s, .int .i64 (a : Int)] (grow (redrawn w pq.d) pq.os) fun e w' => e = .returned (.tuple #[.int .u64 (n : Int), .int .i64 (q : Int), .int .i64 0]) ∧ Below (grow (redrawn w pq.d) pq.os).heap.size (grow (redrawn w pq.d) pq.os) w') := Lib.hid (fun pq => HT.out (grow (redrawn w pq.d) pq.os))
      refine q_enter (by kernel_rfl) (by kernel_rfl) ?_
      iterate 16 (refine q_step ?_; intro K hK; go_simp; first | (refine hK _ ?_; clear hK K) | (refine ⟨_, fun pq => Calls.regrown_of (by with_reducible exact HC.out pq), hK _ ?_⟩; clear hK K))
      refine q_nil ?_
      intro wz hbz
      clear C0 C1 HC HT
      have HF := Lib.hid (HG.out wz hbz q)
      have z1 := (hbz.cell (p := ⟨b, 1, none⟩) hlt).trans c1
      have zf := fun o => (World.frozen?_of_block (a := ⟨b, o, none⟩) (hbz.block b hlt)).trans (hf o)
      clear HG HBad HN c0 c1 c2 hf hbz
      go_wp2_with fail
      go_ret
      exact ⟨rfl, HF.out⟩
  · rw [show tnum s most ⟨a, x⟩ = (0, ⟨a, true⟩) by rw [HN.out, if_pos (.inl hk)]]
    have eV : takeV a (n, p, k) = .tuple #[.int .u64 (n : Int), .int .i64 0, .int .i64 (k : Int)] := by unfold takeV; rw [if_neg hk]; rfl
    rw [eV] at HT
    have e1 : ((k : Int) == 0) = false := by simp; omega
    have e2 : ((k : Int) != 0) = true := by simp; omega
    have e3 : ¬ ((k : Int) = 0) := by omega
    go_enter Tryd.func88, Tryd.ntmps88
    go_upto_region 1 with (fail)
    have C0 : ∀ pq : Regrown, (grow (redrawn w pq.d) pq.os).cell? ⟨b, 0, none⟩ = some (.string s) := fun pq => cell_regrown c0 pq.d pq.os
    have C1 : ∀ pq : Regrown, (grow (redrawn w pq.d) pq.os).cell? ⟨b, 1, none⟩ = some (.int .i64 (a : Int)) := fun pq => cell_regrown c1 pq.d pq.os
    have HC : Hid (∀ pq : Regrown, Calls Tryd.prog 108 #[.string s, .int .i64 (a : Int)] (grow (redrawn w pq.d) pq.os) fun e w' => e = .returned (.tuple #[.int .u64 (n : Int), .int .i64 0, .int .i64 (k : Int)]) ∧ Below (grow (redrawn w pq.d) pq.os).heap.size (grow (redrawn w pq.d) pq.os) w') := Lib.hid (fun pq => HT.out (grow (redrawn w pq.d) pq.os))
    refine q_enter (by kernel_rfl) (by kernel_rfl) ?_
    iterate 16 (refine q_step ?_; intro K hK; go_simp; first | (refine hK _ ?_; clear hK K) | (refine ⟨_, fun pq => Calls.regrown_of (by with_reducible exact HC.out pq), hK _ ?_⟩; clear hK K))
    refine q_nil ?_
    intro wz hbz
    clear C0 C1 HC HT
    have HF := Lib.hid (HBad.out wz hbz)
    have z2 := (hbz.cell (p := ⟨b, 2, none⟩) hlt).trans c2
    have zf := fun o => (World.frozen?_of_block (a := ⟨b, o, none⟩) (hbz.block b hlt)).trans (hf o)
    clear HG HBad HN HV c0 c1 c2 hf hbz eV
    go_wp2_with fail
    go_ret
    exact ⟨rfl, HF.out⟩
set_option maxRecDepth 100000 in
set_option maxHeartbeats 4000000 in
theorem node_any (b : Nat) (s : ByteArray) (t : Tk) (w : World) (hs : s.size ≤ 140737488351232) (ht : t.p ≤ s.size) (h : TkAt w b s t) :
    Calls Tryd.prog 60 #[.pointer (some ⟨b, 0, none⟩)] w fun e w' => e = .returned (.int .i64 ((tnum s 63 t).1 : Int)) ∧ Took w b s (tnum s 63 t).2 w' := by
  have H1 := Lib.hid (number_any b 63 s t w hs ht h)
  have hm := tnum_most s 63 t
  generalize (tnum s 63 t).1 = n at *
  generalize (tnum s 63 t).2 = t1 at *
  clear h
  go_enter Tryd.func60, Tryd.ntmps60
  go_wp2_with (go_at_call 88; refine H1.out.mono ?_; rintro e w1 ⟨rfl, hT⟩)
  go_ret
  exact ⟨rfl, hT⟩
theorem Took.row {w w1 : World} {b r : Nat} {s : ByteArray} {t : Tk} {cs : List Value} (h : Took w b s t w1) (hr : Row w r cs) (hlt : r < w.heap.size) (hne : b ≠ r) : Row w1 r cs := hr.kp h.2 hlt (by simp; exact fun e => hne e.symm)
set_option maxRecDepth 100000 in
set_option maxHeartbeats 4000000 in
theorem know_any (b : Nat) (s : ByteArray) (t : Tk) (w : World) (hs : s.size ≤ 140737488351232) (ht : t.p ≤ s.size) (h : TkAt w b s t) :
    Calls Tryd.prog 67 #[.pointer (some ⟨b, 0, none⟩)] w fun e w' => e = .returned (.agg #[.int .u64 (tkn s t).1.i, .int .i64 (tkn s t).1.s]) ∧ Took w b s (tkn s t).2 w' := by
  have H1 := Lib.hid (fun W (h : TkAt W b s t) => number_any b 18446744073709551615 s t W hs ht h)
  have H2 := Lib.hid (fun W (h : TkAt W b s (tnum s 18446744073709551615 t).2) => number_any b 3 s _ W hs (tnum_le s _ t ht) h)
  have hm := tnum_most s 3 (tnum s 18446744073709551615 t).2
  have hE : tkn s t = (⟨(tnum s 18446744073709551615 t).1, (tnum s 3 (tnum s 18446744073709551615 t).2).1⟩, (tnum s 3 (tnum s 18446744073709551615 t).2).2) := rfl
  rw [hE]
  clear hE
  simp only []
  generalize (tnum s 3 (tnum s 18446744073709551615 t).2).1 = n2 at *
  generalize (tnum s 3 (tnum s 18446744073709551615 t).2).2 = t2 at *
  generalize (tnum s 18446744073709551615 t).1 = n1 at *
  generalize (tnum s 18446744073709551615 t).2 = t1 at *
  have hlt := h.lt
  have hne : b ≠ w.heap.size := Nat.ne_of_lt hlt
  have R0 := Row.new w #[.int .u64 0, .int .i64 0] 24
  have HT0 := Lib.hid (h.on ((Below.refl w.heap.size w).alloc (Nat.le_refl _) (.cells #[.int .u64 0, .int .i64 0] 24)))
  have HK0 : Hid (Kp w.heap.size [b] w (w.alloc (.cells #[.int .u64 0, .int .i64 0] 24))) := Lib.hid (Kp.of ((Below.refl w.heap.size w).alloc (Nat.le_refl _) _))
  have HR0 := Lib.hid R0
  have z0 : w.heap.size < (w.alloc (.cells #[.int .u64 0, .int .i64 0] 24)).heap.size := by simp
  clear h R0
  go_enter Tryd.func67, Tryd.ntmps67
  go_upto_region 1 with (fail)
  generalize w.alloc (.cells #[.int .u64 0, .int .i64 0] 24) = w0 at *
  go_wp2_with fail
  refine (H1.out _ HT0.out).mono ?_
  rintro e w1 ⟨rfl, hT⟩
  have HR1 := Lib.hid (hT.row HR0.out z0 hne)
  have HK1 := Lib.hid (HK0.out.trans (hT.2.mono (Nat.le_of_lt z0) (fun _ _ h => h)))
  have HT1 := Lib.hid hT.1
  have z1 : w.heap.size < w1.heap.size := Nat.lt_of_lt_of_le z0 hT.2.size
  clear hT HR0 HK0 HT0 H1 z0
  go_wp2_with fail
  refine (H2.out _ HT1.out).mono ?_
  rintro e w2 ⟨rfl, hT⟩
  have HR2 := Lib.hid (hT.row HR1.out z1 hne)
  have HK2 := Lib.hid (HK1.out.trans (hT.2.mono (Nat.le_of_lt z1) (fun _ _ h => h)))
  have HT2 := Lib.hid hT.1
  clear hT HR1 HK1 HT1 H2
  have r0 := HR2.out.at_ 0 _ rfl
  have r1 := HR2.out.at_ 1 _ rfl
  have rf := HR2.out.2
  clear HR2
  go_wp2_with fail
  refine bodyPost_ret (v := .agg #[.int .u64 (n1 : Int), .int .i64 (n2 : Int)]) (by simp [results, Tryd.results67, go_sem, r0, r1]) rfl ⟨rfl, ?_, ?_⟩
  · exact Row.other (Row.other HT2.out hne _) hne _
  · exact (HK2.out.set (.inr (Nat.le_refl _)) _).set (.inr (Nat.le_refl _)) _
set_option maxRecDepth 100000 in
set_option maxHeartbeats 4000000 in
theorem news_any (b : Nat) (s : ByteArray) (t : Tk) (w : World) (hs : s.size ≤ 140737488351232) (ht : t.p ≤ s.size) (h : TkAt w b s t) :
    Calls Tryd.prog 76 #[.pointer (some ⟨b, 0, none⟩)] w fun e w' => e = .returned (.agg #[.int .i64 (tnw s t).1.w, .int .u64 (tnw s t).1.i, .int .i64 (tnw s t).1.s]) ∧ Took w b s (tnw s t).2 w' := by
  have H1 := Lib.hid (fun W (h : TkAt W b s t) => node_any b s t W hs ht h)
  have H2 := Lib.hid (fun W (h : TkAt W b s (tnum s 63 t).2) => know_any b s _ W hs (tnum_le s _ t ht) h)
  have hE : tnw s t = (⟨(tnum s 63 t).1, (tkn s (tnum s 63 t).2).1.i, (tkn s (tnum s 63 t).2).1.s⟩, (tkn s (tnum s 63 t).2).2) := rfl
  rw [hE]
  clear hE
  simp only []
  generalize (tkn s (tnum s 63 t).2).1.i = ki at *
  generalize (tkn s (tnum s 63 t).2).1.s = ks at *
  generalize (tkn s (tnum s 63 t).2).2 = t2 at *
  generalize (tnum s 63 t).1 = n1 at *
  generalize (tnum s 63 t).2 = t1 at *
  have hlt := h.lt
  have hne : b ≠ w.heap.size := Nat.ne_of_lt hlt
  have R0 := Row.new w #[.int .i64 0, .int .u64 0, .int .i64 0] 63
  have HT0 := Lib.hid (h.on ((Below.refl w.heap.size w).alloc (Nat.le_refl _) (.cells #[.int .i64 0, .int .u64 0, .int .i64 0] 63)))
  have HK0 : Hid (Kp w.heap.size [b] w (w.alloc (.cells #[.int .i64 0, .int .u64 0, .int .i64 0] 63))) := Lib.hid (Kp.of ((Below.refl w.heap.size w).alloc (Nat.le_refl _) _))
  have HR0 := Lib.hid R0
  have z0 : w.heap.size < (w.alloc (.cells #[.int .i64 0, .int .u64 0, .int .i64 0] 63)).heap.size := by simp
  clear h R0
  go_enter Tryd.func76, Tryd.ntmps76
  go_upto_region 1 with (fail)
  generalize w.alloc (.cells #[.int .i64 0, .int .u64 0, .int .i64 0] 63) = w0 at *
  go_wp2_with fail
  refine (H1.out _ HT0.out).mono ?_
  rintro e w1 ⟨rfl, hT⟩
  have HR1 := Lib.hid (hT.row HR0.out z0 hne)
  have HK1 := Lib.hid (HK0.out.trans (hT.2.mono (Nat.le_of_lt z0) (fun _ _ h => h)))
  have HT1 := Lib.hid hT.1
  have z1 : w.heap.size < w1.heap.size := Nat.lt_of_lt_of_le z0 hT.2.size
  clear hT HR0 HK0 HT0 H1 z0
  go_wp2_with fail
  refine (H2.out _ HT1.out).mono ?_
  rintro e w2 ⟨rfl, hT⟩
  have HR2 := Lib.hid (hT.row HR1.out z1 hne)
  have HK2 := Lib.hid (HK1.out.trans (hT.2.mono (Nat.le_of_lt z1) (fun _ _ h => h)))
  have HT2 := Lib.hid hT.1
  clear hT HR1 HK1 HT1 H2
  have r0 := HR2.out.at_ 0 _ rfl
  have r1 := HR2.out.at_ 1 _ rfl
  have r2 := HR2.out.at_ 2 _ rfl
  have rf := HR2.out.2
  clear HR2
  go_wp2_with fail
  refine bodyPost_ret (v := .agg #[.int .i64 (n1 : Int), .int .u64 ki, .int .i64 ks]) (by simp [results, Tryd.results76, go_sem, r0, r1, r2]) rfl ⟨rfl, ?_, ?_⟩
  · exact Row.other (Row.other (Row.other HT2.out hne _) hne _) hne _
  · exact ((HK2.out.set (.inr (Nat.le_refl _)) _).set (.inr (Nat.le_refl _)) _).set (.inr (Nat.le_refl _)) _
set_option maxRecDepth 100000 in
set_option maxHeartbeats 4000000 in
theorem text_any (b : Nat) (s : ByteArray) (t : Tk) (w : World) (hs : s.size ≤ 140737488351232) (ht : t.p ≤ s.size) (h : TkAt w b s t) :
    Calls Tryd.prog 94 #[.pointer (some ⟨b, 0, none⟩)] w fun e w' => e = .returned (.string (ttx s t).1) ∧ Took w b s (ttx s t).2 w' := by
  obtain ⟨z, q, k, hr⟩ : ∃ z q k, textL s t.p (takeL (s.data.toList.drop t.p) 0 0) = (z, q, k) := ⟨_, _, _, rfl⟩
  have HT := Lib.hid (fun W => below_of (taketext_in s t.p W hs ht))
  have HN : Hid (ttx s t = if k ≠ 0 then (⟨#[]⟩, ⟨t.p, true⟩) else (z, ⟨q, t.b⟩)) := Lib.hid (by unfold ttx; rw [hr])
  have HG := Lib.hid (fun (wz : World) (hb : Below w.heap.size w wz) (q : Nat) => took_go h hb q)
  have HBad := Lib.hid (fun (wz : World) (hb : Below w.heap.size w wz) => took_bad h hb)
  obtain ⟨c0, c1, c2, hf⟩ := h.cells
  have hlt := h.lt
  clear h
  rw [hr] at HT
  clear hr
  obtain ⟨a, x⟩ := t
  simp only [] at *
  unfold textV at HT
  simp only [] at HT
  by_cases hk : k = 0
  · subst hk
    rw [show ttx s ⟨a, x⟩ = (z, ⟨q, x⟩) by rw [HN.out, if_neg (by simp)]]
    go_enter Tryd.func94, Tryd.ntmps94
    go_upto_region 1 with (fail)
    have C0 : ∀ pq : Regrown, (grow (redrawn w pq.d) pq.os).cell? ⟨b, 0, none⟩ = some (.string s) := fun pq => cell_regrown c0 pq.d pq.os
    have C1 : ∀ pq : Regrown, (grow (redrawn w pq.d) pq.os).cell? ⟨b, 1, none⟩ = some (.int .i64 (a : Int)) := fun pq => cell_regrown c1 pq.d pq.os
    have HC : Hid (∀ pq : Regrown, Calls Tryd.prog 110 #[.string s, .int .i64 (a : Int)] (grow (redrawn w pq.d) pq.os) fun e w' => e = .returned (.tuple #[.string z, .int .i64 (q : Int), .int .i64 0]) ∧ Below (grow (redrawn w pq.d) pq.os).heap.size (grow (redrawn w pq.d) pq.os) w') := Lib.hid (fun pq => HT.out (grow (redrawn w pq.d) pq.os))
    refine q_enter (by kernel_rfl) (by kernel_rfl) ?_
    iterate 16 (refine q_step ?_; intro K hK; go_simp; first | (refine hK _ ?_; clear hK K) | (refine ⟨_, fun pq => Calls.regrown_of (by with_reducible exact HC.out pq), hK _ ?_⟩; clear hK K))
    refine q_nil ?_
    intro wz hbz
    clear C0 C1 HC HT
    have HF := Lib.hid (HG.out wz hbz q)
    have z1 := (hbz.cell (p := ⟨b, 1, none⟩) hlt).trans c1
    have zf := fun o => (World.frozen?_of_block (a := ⟨b, o, none⟩) (hbz.block b hlt)).trans (hf o)
    clear HG HBad HN c0 c1 c2 hf hbz
    go_wp2_with fail
    go_ret
    exact ⟨rfl, HF.out⟩
  · rw [show ttx s ⟨a, x⟩ = (⟨#[]⟩, ⟨a, true⟩) by rw [HN.out, if_pos hk]]
    have e1 : ((k : Int) == 0) = false := by simp; omega
    have e2 : ((k : Int) != 0) = true := by simp; omega
    have e3 : ¬ ((k : Int) = 0) := by omega
    go_enter Tryd.func94, Tryd.ntmps94
    go_upto_region 1 with (fail)
    have C0 : ∀ pq : Regrown, (grow (redrawn w pq.d) pq.os).cell? ⟨b, 0, none⟩ = some (.string s) := fun pq => cell_regrown c0 pq.d pq.os
    have C1 : ∀ pq : Regrown, (grow (redrawn w pq.d) pq.os).cell? ⟨b, 1, none⟩ = some (.int .i64 (a : Int)) := fun pq => cell_regrown c1 pq.d pq.os
    have HC : Hid (∀ pq : Regrown, Calls Tryd.prog 110 #[.string s, .int .i64 (a : Int)] (grow (redrawn w pq.d) pq.os) fun e w' => e = .returned (.tuple #[.string z, .int .i64 (q : Int), .int .i64 (k : Int)]) ∧ Below (grow (redrawn w pq.d) pq.os).heap.size (grow (redrawn w pq.d) pq.os) w') := Lib.hid (fun pq => HT.out (grow (redrawn w pq.d) pq.os))
    refine q_enter (by kernel_rfl) (by kernel_rfl) ?_
    iterate 16 (refine q_step ?_; intro K hK; go_simp; first | (refine hK _ ?_; clear hK K) | (refine ⟨_, fun pq => Calls.regrown_of (by with_reducible exact HC.out pq), hK _ ?_⟩; clear hK K))
    refine q_nil ?_
    intro wz hbz
    clear C0 C1 HC HT
    have HF := Lib.hid (HBad.out wz hbz)
    have z2 := (hbz.cell (p := ⟨b, 2, none⟩) hlt).trans c2
    have zf := fun o => (World.frozen?_of_block (a := ⟨b, o, none⟩) (hbz.block b hlt)).trans (hf o)
    clear HG HBad HN c0 c1 c2 hf hbz
    go_wp2_with fail
    go_ret
    exact ⟨rfl, HF.out⟩
end Go.Proofs.YtjeepmdklbfgeaaDoor

namespace Go.Proofs.YtjeepmdklbfgeaaDoor
open Go.Sort Go.RowKit Go.Proofs.YtjeepmdklbfgeaaDoor.Pure Go.Proofs.YtjeepmdklbfgeaaDoor.W Go.Proofs.YtjeepmdklbfgeaaDoor.W.Pure

theorem Kp.grown {B : Nat} {S : List Nat} {a w w' : World} {row : Option Nat} (h : Kp B S a w) (hs : B ≤ w.heap.size) (hg : w.grownBy w' row) (hr : ∀ k, row = some k → B ≤ k) : Kp B S a w' :=
  h.trans ⟨hg.os, hg.tape, hg.output, hg.size, fun k hk _ => hg.block k (by omega) (fun e => by have := hr k e.symm; omega)⟩
theorem Row.blk {w w' : World} {b : Nat} {cs : List Value} (h : Row w b cs) (hb : w'.heap[b]? = w.heap[b]?) : Row w' b cs :=
  ⟨fun j hj => (World.cell?_of_block hb).trans (h.1 j hj), fun o => (World.frozen?_of_block (a := ⟨b, o, none⟩) hb).trans (h.2 o)⟩
theorem TkAt.grown {w w' : World} {b : Nat} {s : ByteArray} {t : Tk} {row : Option Nat} (h : TkAt w b s t) (hg : w.grownBy w' row) (hr : ∀ k, row = some k → k ≠ b) : TkAt w' b s t :=
  Row.blk h (hg.block b h.lt (fun e => hr b e.symm rfl))
set_option maxRecDepth 100000 in
set_option maxHeartbeats 4000000 in
theorem takelist_News (b : Nat) (s : ByteArray) (t : Tk) (w : World) (hs : s.size ≤ 140737488351232) (ht : t.p ≤ s.size) (h : TkAt w b s t) :
    Calls Tryd.prog 75 #[.pointer (some ⟨b, 0, none⟩), .int .u64 8, .func (.func 76) #[.pointer (some ⟨b, 0, none⟩)] #[]] w fun e w' => ∃ v, e = .returned v ∧ OwnN w' w.heap.size v (tnws s t).1 ∧ Took w b s (tnws s t).2 w' := by
  have H1 := Lib.hid (number_any b 8 s t w hs ht h)
  have H2 := Lib.hid (fun (W : World) (k : Nat) (h : TkAt W b s (tls (tnw s) k (tnum s 8 t).2).2) => news_any b s _ W hs (tls_le s _ (tnw_le s) k _ (tnum_le s _ t ht)) h)
  have hm := tnum_most s 8 t
  have hE : tnws s t = tls (tnw s) (tnum s 8 t).1 (tnum s 8 t).2 := rfl
  have HN : Hid (∀ k, (tls (tnw s) (k + 1) (tnum s 8 t).2).1 = (tls (tnw s) k (tnum s 8 t).2).1 ++ [(tnw s (tls (tnw s) k (tnum s 8 t).2).2).1] ∧ (tls (tnw s) (k + 1) (tnum s 8 t).2).2 = (tnw s (tls (tnw s) k (tnum s 8 t).2).2).2) := Lib.hid (fun k => ⟨rfl, rfl⟩)
  have HL : Hid (∀ k, (tls (tnw s) k (tnum s 8 t).2).1.length = k) := Lib.hid (fun k => tls_len _ k _)
  have HZ : Hid ((tls (tnw s) 0 (tnum s 8 t).2).1 = [] ∧ (tls (tnw s) 0 (tnum s 8 t).2).2 = (tnum s 8 t).2) := Lib.hid ⟨rfl, rfl⟩
  have hlt := h.lt
  rw [hE]
  clear hE h
  generalize (tnum s 8 t).1 = n at *
  generalize (tnum s 8 t).2 = t1 at *
  obtain ⟨f, hf⟩ : ∃ f, f = fun k => tls (tnw s) k t1 := ⟨_, rfl⟩
  have hf' : ∀ k, tls (tnw s) k t1 = f k := fun k => by rw [hf]
  simp only [hf'] at *
  obtain ⟨g, hg⟩ : ∃ g, g = fun k => tnw s (f k).2 := ⟨_, rfl⟩
  have hg' : ∀ k, tnw s (f k).2 = g k := fun k => by rw [hg]
  simp only [hg'] at *
  clear hf hf' hg hg'
  go_enter Tryd.func75, Tryd.ntmps75
  go_wp2_with (go_at_call 88; refine H1.out.mono ?_; rintro e w1 ⟨rfl, hT⟩)
  have HT := Lib.hid hT
  clear hT H1
  go_loopw [7, 11] (fun v i wr => ∃ k : Nat, i = .int .u64 k ∧ k ≤ n ∧ Hid (OwnN wr w.heap.size v (f k).1) ∧ Hid (Took w b s (f k).2 wr)) (fun _ i _ => n - (intOf i).toNat)
  case atStart => exact ⟨0, rfl, Nat.zero_le _, Lib.hid (by rw [HZ.out.1]; exact OwnN.nil _ _), Lib.hid (by rw [HZ.out.2]; exact HT.out)⟩
  case round =>
    obtain ⟨k, rfl, hk, hown, hT⟩ := hrel
    by_cases hlt2 : k < n
    · have e0 : decide ((k : Int) < (n : Int)) = true := by simp; omega
      have e0' : decide (k < n) = true := by simpa using hlt2
      have HC := Lib.hid (H2.out wr k hT.out.1)
      have HX := Lib.hid (HN.out k)
      have hln := HL.out k
      generalize (g k).1 = x at *
      generalize (g k).2 = t2 at *
      have hsw := hT.out.2.size
      go_wp2_with (first | (go_at_call 76; refine HC.out.mono ?_; rintro e w2 ⟨rfl, hT2⟩; have HT2 := Lib.hid (hT.out.trans hT2); have HO2 := Lib.hid (hown.out.kp hT2.2 (by simpa using hlt)); have hs2 := hT2.2.size; clear hT2) | (at_builtin; refine wpList_appendNw rfl _ _ rfl w.heap.size _ (f k).1 rfl ?c1 (some ⟨w2.heap.size, 0, none⟩) 1 [x] rfl ?c2 ?c3 ?c4 ?_))
      case c1 => exact HO2.out.alloc _
      case c2 => exact Ns.one w2 x _
      case c3 => simp only [List.length_cons, List.length_nil]; omega
      case c4 => simp; omega
      · intro v' w3 hO3 hgr
        have hB2 : w.heap.size ≤ w2.heap.size := by omega
        have hge : ∀ j, Value.ownBlock _ = some j → w.heap.size ≤ j := fun j e => (HO2.out.ge j e).1
        have HO3 : Hid (OwnN w3 w.heap.size v' (f (k + 1)).1) := Lib.hid (by rw [HX.out.1]; exact hO3)
        have HT3 : Hid (Took w b s (f (k + 1)).2 w3) := Lib.hid (by
          rw [HX.out.2]
          refine ⟨(HT2.out.1.on ((Below.refl _ _).alloc (Nat.le_refl _) _)).grown hgr (fun j e => by have := hge j e; omega), ?_⟩
          exact (HT2.out.2.alloc hB2 _).grown (by simp; omega) hgr hge)
        clear hO3 hgr HT2 HO2 hge HX hown hT
        go_wp2_with fail
        go_roundw
        case rel => exact ⟨k + 1, by go_num, by omega, HO3, HT3⟩
        case measure => simp [intOf]; omega
    · have e0 : decide ((k : Int) < (n : Int)) = false := by simp; omega
      have e0' : decide (k < n) = false := by simpa using hlt2
      obtain rfl : k = n := by omega
      go_wp2_with fail
      go_ret
      exact ⟨_, rfl, hown.out, hT.out⟩
set_option maxRecDepth 100000 in
set_option maxHeartbeats 4000000 in
theorem takelist_Know (b : Nat) (s : ByteArray) (t : Tk) (w : World) (hs : s.size ≤ 140737488351232) (ht : t.p ≤ s.size) (h : TkAt w b s t) :
    Calls Tryd.prog 83 #[.pointer (some ⟨b, 0, none⟩), .int .u64 64, .func (.func 67) #[.pointer (some ⟨b, 0, none⟩)] #[]] w fun e w' => ∃ v, e = .returned v ∧ Own w' w.heap.size v (ttbs s t).1 ∧ Took w b s (ttbs s t).2 w' := by
  have H1 := Lib.hid (number_any b 64 s t w hs ht h)
  have H2 := Lib.hid (fun (W : World) (k : Nat) (h : TkAt W b s (tls (tkn s) k (tnum s 64 t).2).2) => know_any b s _ W hs (tls_le s _ (tkn_le s) k _ (tnum_le s _ t ht)) h)
  have hm := tnum_most s 64 t
  have hE : ttbs s t = tls (tkn s) (tnum s 64 t).1 (tnum s 64 t).2 := rfl
  have HN : Hid (∀ k, (tls (tkn s) (k + 1) (tnum s 64 t).2).1 = (tls (tkn s) k (tnum s 64 t).2).1 ++ [(tkn s (tls (tkn s) k (tnum s 64 t).2).2).1] ∧ (tls (tkn s) (k + 1) (tnum s 64 t).2).2 = (tkn s (tls (tkn s) k (tnum s 64 t).2).2).2) := Lib.hid (fun k => ⟨rfl, rfl⟩)
  have HL : Hid (∀ k, (tls (tkn s) k (tnum s 64 t).2).1.length = k) := Lib.hid (fun k => tls_len _ k _)
  have HZ : Hid ((tls (tkn s) 0 (tnum s 64 t).2).1 = [] ∧ (tls (tkn s) 0 (tnum s 64 t).2).2 = (tnum s 64 t).2) := Lib.hid ⟨rfl, rfl⟩
  have hlt := h.lt
  rw [hE]
  clear hE h
  generalize (tnum s 64 t).1 = n at *
  generalize (tnum s 64 t).2 = t1 at *
  obtain ⟨f, hf⟩ : ∃ f, f = fun k => tls (tkn s) k t1 := ⟨_, rfl⟩
  have hf' : ∀ k, tls (tkn s) k t1 = f k := fun k => by rw [hf]
  simp only [hf'] at *
  obtain ⟨g, hg⟩ : ∃ g, g = fun k => tkn s (f k).2 := ⟨_, rfl⟩
  have hg' : ∀ k, tkn s (f k).2 = g k := fun k => by rw [hg]
  simp only [hg'] at *
  clear hf hf' hg hg'
  go_enter Tryd.func83, Tryd.ntmps83
  go_wp2_with (go_at_call 88; refine H1.out.mono ?_; rintro e w1 ⟨rfl, hT⟩)
  have HT := Lib.hid hT
  clear hT H1
  go_loopw [7, 11] (fun v i wr => ∃ k : Nat, i = .int .u64 k ∧ k ≤ n ∧ Hid (Own wr w.heap.size v (f k).1) ∧ Hid (Took w b s (f k).2 wr)) (fun _ i _ => n - (intOf i).toNat)
  case atStart => exact ⟨0, rfl, Nat.zero_le _, Lib.hid (by rw [HZ.out.1]; exact Own.nil _ _), Lib.hid (by rw [HZ.out.2]; exact HT.out)⟩
  case round =>
    obtain ⟨k, rfl, hk, hown, hT⟩ := hrel
    by_cases hlt2 : k < n
    · have e0 : decide ((k : Int) < (n : Int)) = true := by simp; omega
      have e0' : decide (k < n) = true := by simpa using hlt2
      have HC := Lib.hid (H2.out wr k hT.out.1)
      have HX := Lib.hid (HN.out k)
      have hln := HL.out k
      generalize (g k).1 = x at *
      generalize (g k).2 = t2 at *
      have hsw := hT.out.2.size
      go_wp2_with (first | (go_at_call 67; refine HC.out.mono ?_; rintro e w2 ⟨rfl, hT2⟩; have HT2 := Lib.hid (hT.out.trans hT2); have HO2 := Lib.hid (hown.out.kp hT2.2 (by simpa using hlt)); have hs2 := hT2.2.size; clear hT2) | (at_builtin; refine wpList_append_lst rfl _ _ rfl w.heap.size _ (f k).1 rfl ?c1 (some ⟨w2.heap.size, 0, none⟩) 1 [x] rfl ?c2 ?c3 ?c4 ?_))
      case c1 => exact HO2.out.alloc _
      case c2 => exact Lst.one w2 x _
      case c3 => simp only [List.length_cons, List.length_nil]; omega
      case c4 => simp; omega
      · intro v' w3 hO3 hgr
        have hB2 : w.heap.size ≤ w2.heap.size := by omega
        have hge : ∀ j, Value.ownBlock _ = some j → w.heap.size ≤ j := fun j e => (HO2.out.ge j e).1
        have HO3 : Hid (Own w3 w.heap.size v' (f (k + 1)).1) := Lib.hid (by rw [HX.out.1]; exact hO3)
        have HT3 : Hid (Took w b s (f (k + 1)).2 w3) := Lib.hid (by
          rw [HX.out.2]
          refine ⟨(HT2.out.1.on ((Below.refl _ _).alloc (Nat.le_refl _) _)).grown hgr (fun j e => by have := hge j e; omega), ?_⟩
          exact (HT2.out.2.alloc hB2 _).grown (by simp; omega) hgr hge)
        clear hO3 hgr HT2 HO2 hge HX hown hT
        go_wp2_with fail
        go_roundw
        case rel => exact ⟨k + 1, by go_num, by omega, HO3, HT3⟩
        case measure => simp [intOf]; omega
    · have e0 : decide ((k : Int) < (n : Int)) = false := by simp; omega
      have e0' : decide (k < n) = false := by simpa using hlt2
      obtain rfl : k = n := by omega
      go_wp2_with fail
      go_ret
      exact ⟨_, rfl, hown.out, hT.out⟩
end Go.Proofs.YtjeepmdklbfgeaaDoor

namespace Go.Proofs.YtjeepmdklbfgeaaDoor
open Go.Sort Go.RowKit Go.Proofs.YtjeepmdklbfgeaaDoor.Pure Go.Proofs.YtjeepmdklbfgeaaDoor.W Go.Proofs.YtjeepmdklbfgeaaDoor.W.Pure

/-- A message's cells. -/
def mcs (m : Mg) (nv tv : Value) : List Value := [.int .i64 m.kd, .int .i64 m.fr, .int .i64 m.to, .int .u64 (m.sq : Int), .int .i64 m.wh, .int .u64 m.k.i, .int .i64 m.k.s, nv, tv, .int .u64 (m.ep : Int), .int .u64 (m.bo : Int), .int .i64 m.ak, .string m.ts, .int .u64 (m.tn : Int), .bool m.gd]
/-- A message in block b, that is being taken; its lists lie behind it. -/
def MD (w : World) (b : Nat) (m : Mg) (nv tv : Value) : Prop := Row w b (mcs m nv tv) ∧ OwnN w (b + 1) nv m.ns ∧ Own w (b + 1) tv m.tb
/-- What a closure that takes leaves. -/
def LeftM (w : World) (bt : Nat) (s : ByteArray) (bm : Nat) (x : Mg × Tk) (w' : World) : Prop := TkAt w' bt s x.2 ∧ (∃ nv tv, MD w' bm x.1 nv tv) ∧ Kp w.heap.size [bt, bm] w w'
theorem MD.lt {w : World} {b : Nat} {m : Mg} {nv tv : Value} (h : MD w b m nv tv) : b < w.heap.size := h.1.lt (show 0 < 15 by decide)
theorem MD.took {w w1 : World} {bt bm : Nat} {s : ByteArray} {t : Tk} {m : Mg} {nv tv : Value} (h : MD w bm m nv tv) (hT : Took w bt s t w1) (hlt : bt < bm) : MD w1 bm m nv tv :=
  ⟨h.1.kp hT.2 h.lt (by simp; omega), h.2.1.kp hT.2 (by simp; omega), h.2.2.kp hT.2 (by simp; omega)⟩
theorem kp_set_two {w w1 : World} {bt bm : Nat} (h : Kp w.heap.size [bt] w w1) (j : Nat) (v : Value) : Kp w.heap.size [bt, bm] w (w1.setCell ⟨bm, j, none⟩ v) :=
  (h.mono (Nat.le_refl _) (fun k _ hk => by simp at hk ⊢; exact .inl hk)).set (.inl (by simp)) v
theorem OwnN.cellFar {w : World} {B g j : Nat} {v u : Value} {xs : List Nw} (h : OwnN w B v xs) (hg : g < B) : OwnN (w.setCell ⟨g, j, none⟩ u) B v xs :=
  h.keep fun k e => Below.heap_setCell w ⟨g, j, none⟩ u k (fun e' => by have h1 := (h.ge k e).1; have h2 : k = g := e'; omega)
theorem Own.cellFar {w : World} {B g j : Nat} {v u : Value} {xs : List Kn} (h : Own w B v xs) (hg : g < B) : Own (w.setCell ⟨g, j, none⟩ u) B v xs := by
  refine ⟨h.1, ?_⟩
  have hge := h.ge
  rcases h.2 with h | ⟨g', cap, cur, rfl, h2, h3, h4⟩
  · exact .inl h
  · exact .inr ⟨g', cap, cur, rfl, h2, (Below.heap_setCell w ⟨g, j, none⟩ u g' (fun e' => by have h1 := (hge g' rfl).1; have h2 : g' = g := e'; omega)).trans h3, h4⟩
/-- A part is laid into the message's cells. -/
theorem left_set {w w1 : World} {bt bm : Nat} {s : ByteArray} {t : Tk} {m m' : Mg} {nv tv nv' tv' : Value} (hT : Took w bt s t w1) (hM : MD w1 bm m nv tv) (hlt : bt < bm) (j : Nat) (v : Value) (hj : j < 15)
    (hc : (mcs m nv tv).set j v = mcs m' nv' tv') (hN : OwnN w1 (bm + 1) nv' m'.ns) (hK : Own w1 (bm + 1) tv' m'.tb) : LeftM w bt s bm (m', t) (w1.setCell ⟨bm, j, none⟩ v) :=
  ⟨Row.other hT.1 (Nat.ne_of_lt hlt) v, ⟨nv', tv', hc ▸ hM.1.set j hj v, hN.cellFar (by omega), hK.cellFar (by omega)⟩, kp_set_two hT.2 j v⟩
set_option maxRecDepth 100000 in
set_option maxHeartbeats 4000000 in
theorem put0_any (n bm : Nat) (v : Value) (w : World) (hc : w.cell? ⟨bm, 3, none⟩ = some v) (hf : ∀ o : Nat, w.frozen? ⟨bm, o, none⟩ = false) : Calls Tryd.prog 49 #[.pointer (some ⟨bm, 0, none⟩), .int .u64 (n : Int)] w fun e w' => e = .returned (.tuple #[]) ∧ w.setCell ⟨bm, 3, none⟩ (.int .u64 (n : Int)) = w' := by
  go_enter Tryd.func49, Tryd.ntmps49
  go_wp2_with fail
  go_end0
  exact ⟨rfl, rfl⟩
set_option maxRecDepth 100000 in
set_option maxHeartbeats 4000000 in
theorem put5_any (n bm : Nat) (v : Value) (w : World) (hc : w.cell? ⟨bm, 9, none⟩ = some v) (hf : ∀ o : Nat, w.frozen? ⟨bm, o, none⟩ = false) : Calls Tryd.prog 51 #[.pointer (some ⟨bm, 0, none⟩), .int .u64 (n : Int)] w fun e w' => e = .returned (.tuple #[]) ∧ w.setCell ⟨bm, 9, none⟩ (.int .u64 (n : Int)) = w' := by
  go_enter Tryd.func51, Tryd.ntmps51
  go_wp2_with fail
  go_end0
  exact ⟨rfl, rfl⟩
set_option maxRecDepth 100000 in
set_option maxHeartbeats 4000000 in
theorem put6_any (n bm : Nat) (v : Value) (w : World) (hc : w.cell? ⟨bm, 10, none⟩ = some v) (hf : ∀ o : Nat, w.frozen? ⟨bm, o, none⟩ = false) : Calls Tryd.prog 53 #[.pointer (some ⟨bm, 0, none⟩), .int .u64 (n : Int)] w fun e w' => e = .returned (.tuple #[]) ∧ w.setCell ⟨bm, 10, none⟩ (.int .u64 (n : Int)) = w' := by
  go_enter Tryd.func53, Tryd.ntmps53
  go_wp2_with fail
  go_end0
  exact ⟨rfl, rfl⟩
set_option maxRecDepth 100000 in
set_option maxHeartbeats 4000000 in
theorem put9_any (n bm : Nat) (v : Value) (w : World) (hc : w.cell? ⟨bm, 13, none⟩ = some v) (hf : ∀ o : Nat, w.frozen? ⟨bm, o, none⟩ = false) : Calls Tryd.prog 55 #[.pointer (some ⟨bm, 0, none⟩), .int .u64 (n : Int)] w fun e w' => e = .returned (.tuple #[]) ∧ w.setCell ⟨bm, 13, none⟩ (.int .u64 (n : Int)) = w' := by
  go_enter Tryd.func55, Tryd.ntmps55
  go_wp2_with fail
  go_end0
  exact ⟨rfl, rfl⟩
set_option maxRecDepth 100000 in
set_option maxHeartbeats 4000000 in
theorem take1_any (s : ByteArray) (t : Tk) (m : Mg) (bt bm : Nat) (nv tv : Value) (w : World) (hs : s.size ≤ 140737488351232) (ht : t.p ≤ s.size) (hlt : bt < bm) (hT : TkAt w bt s t) (hM : MD w bm m nv tv) : Calls Tryd.prog 59 #[.pointer (some ⟨bt, 0, none⟩), .pointer (some ⟨bm, 0, none⟩)] w fun e w' => e = .returned (.tuple #[]) ∧ LeftM w bt s bm (takeP s 1 m t) w' := by
  have HC := Lib.hid (node_any bt s t w hs ht hT)
  have hE : takeP s 1 m t = ({ m with wh := ((tnum s 63 t).1 : Int) }, (tnum s 63 t).2) := rfl
  rw [hE]
  clear hE
  have hm := tnum_most s 63 t
  generalize (tnum s 63 t).1 = n at *
  generalize (tnum s 63 t).2 = t1 at *
  have HM := Lib.hid hM
  clear hT hM ht
  go_enter Tryd.func59, Tryd.ntmps59
  go_wp2_with (go_at_call 60; refine HC.out.mono ?_; rintro e w1 ⟨rfl, hTk⟩; have HT1 := Lib.hid hTk; have hM1 := Lib.hid (HM.out.took hTk hlt); have c4 := hM1.out.1.at_ 4 _ rfl; have cf := hM1.out.1.2; clear hTk HM)
  go_end0
  exact ⟨rfl, left_set HT1.out hM1.out hlt 4 _ (by decide) rfl hM1.out.2.1 hM1.out.2.2⟩
set_option maxRecDepth 100000 in
set_option maxHeartbeats 4000000 in
theorem take7_any (s : ByteArray) (t : Tk) (m : Mg) (bt bm : Nat) (nv tv : Value) (w : World) (hs : s.size ≤ 140737488351232) (ht : t.p ≤ s.size) (hlt : bt < bm) (hT : TkAt w bt s t) (hM : MD w bm m nv tv) : Calls Tryd.prog 87 #[.pointer (some ⟨bt, 0, none⟩), .pointer (some ⟨bm, 0, none⟩)] w fun e w' => e = .returned (.tuple #[]) ∧ LeftM w bt s bm (takeP s 7 m t) w' := by
  have HC := Lib.hid (number_any bt 1099511627776 s t w hs ht hT)
  have hE : takeP s 7 m t = ({ m with ak := ((tnum s 1099511627776 t).1 : Int) }, (tnum s 1099511627776 t).2) := rfl
  rw [hE]
  clear hE
  have hm := tnum_most s 1099511627776 t
  generalize (tnum s 1099511627776 t).1 = n at *
  generalize (tnum s 1099511627776 t).2 = t1 at *
  have HM := Lib.hid hM
  clear hT hM ht
  go_enter Tryd.func87, Tryd.ntmps87
  go_wp2_with (go_at_call 88; refine HC.out.mono ?_; rintro e w1 ⟨rfl, hTk⟩; have HT1 := Lib.hid hTk; have hM1 := Lib.hid (HM.out.took hTk hlt); have c11 := hM1.out.1.at_ 11 _ rfl; have cf := hM1.out.1.2; clear hTk HM)
  go_end0
  exact ⟨rfl, left_set HT1.out hM1.out hlt 11 _ (by decide) rfl hM1.out.2.1 hM1.out.2.2⟩
set_option maxRecDepth 100000 in
set_option maxHeartbeats 4000000 in
theorem take8_any (s : ByteArray) (t : Tk) (m : Mg) (bt bm : Nat) (nv tv : Value) (w : World) (hs : s.size ≤ 140737488351232) (ht : t.p ≤ s.size) (hlt : bt < bm) (hT : TkAt w bt s t) (hM : MD w bm m nv tv) : Calls Tryd.prog 93 #[.pointer (some ⟨bt, 0, none⟩), .pointer (some ⟨bm, 0, none⟩)] w fun e w' => e = .returned (.tuple #[]) ∧ LeftM w bt s bm (takeP s 8 m t) w' := by
  have HC := Lib.hid (text_any bt s t w hs ht hT)
  have hE : takeP s 8 m t = ({ m with ts := (ttx s t).1 }, (ttx s t).2) := rfl
  rw [hE]
  clear hE
  generalize (ttx s t).1 = z at *
  generalize (ttx s t).2 = t1 at *
  have HM := Lib.hid hM
  clear hT hM ht
  go_enter Tryd.func93, Tryd.ntmps93
  go_wp2_with (go_at_call 94; refine HC.out.mono ?_; rintro e w1 ⟨rfl, hTk⟩; have HT1 := Lib.hid hTk; have hM1 := Lib.hid (HM.out.took hTk hlt); have c12 := hM1.out.1.at_ 12 _ rfl; have cf := hM1.out.1.2; clear hTk HM)
  go_end0
  exact ⟨rfl, left_set HT1.out hM1.out hlt 12 _ (by decide) rfl hM1.out.2.1 hM1.out.2.2⟩
set_option maxRecDepth 100000 in
set_option maxHeartbeats 4000000 in
theorem take10_any (s : ByteArray) (t : Tk) (m : Mg) (bt bm : Nat) (nv tv : Value) (w : World) (hs : s.size ≤ 140737488351232) (ht : t.p ≤ s.size) (hlt : bt < bm) (hT : TkAt w bt s t) (hM : MD w bm m nv tv) : Calls Tryd.prog 99 #[.pointer (some ⟨bt, 0, none⟩), .pointer (some ⟨bm, 0, none⟩)] w fun e w' => e = .returned (.tuple #[]) ∧ LeftM w bt s bm (takeP s 10 m t) w' := by
  have HC := Lib.hid (number_any bt 1 s t w hs ht hT)
  have hE : takeP s 10 m t = ({ m with gd := decide ((tnum s 1 t).1 = 1) }, (tnum s 1 t).2) := rfl
  rw [hE]
  clear hE
  have hG : decide ((tnum s 1 t).1 = 1) = ((((tnum s 1 t).1 : Nat) : Int) == 1) := by rw [Bool.eq_iff_iff]; simp; omega
  rw [hG]
  clear hG
  generalize (tnum s 1 t).1 = n at *
  generalize (tnum s 1 t).2 = t1 at *
  have HM := Lib.hid hM
  clear hT hM ht
  go_enter Tryd.func99, Tryd.ntmps99
  go_wp2_with (go_at_call 88; refine HC.out.mono ?_; rintro e w1 ⟨rfl, hTk⟩; have HT1 := Lib.hid hTk; have hM1 := Lib.hid (HM.out.took hTk hlt); have c14 := hM1.out.1.at_ 14 _ rfl; have cf := hM1.out.1.2; clear hTk HM)
  go_end0
  exact ⟨rfl, left_set HT1.out hM1.out hlt 14 _ (by decide) rfl hM1.out.2.1 hM1.out.2.2⟩
set_option maxRecDepth 100000 in
set_option maxHeartbeats 4000000 in
theorem take2_any (s : ByteArray) (t : Tk) (m : Mg) (bt bm : Nat) (nv tv : Value) (w : World) (hs : s.size ≤ 140737488351232) (ht : t.p ≤ s.size) (hlt : bt < bm) (hT : TkAt w bt s t) (hM : MD w bm m nv tv) : Calls Tryd.prog 66 #[.pointer (some ⟨bt, 0, none⟩), .pointer (some ⟨bm, 0, none⟩)] w fun e w' => e = .returned (.tuple #[]) ∧ LeftM w bt s bm (takeP s 2 m t) w' := by
  have HC := Lib.hid (know_any bt s t w hs ht hT)
  have hE : takeP s 2 m t = ({ m with k := ⟨(tkn s t).1.i, (tkn s t).1.s⟩ }, (tkn s t).2) := rfl
  rw [hE]
  clear hE
  generalize (tkn s t).1.i = ki at *
  generalize (tkn s t).1.s = ks at *
  generalize (tkn s t).2 = t1 at *
  have HM := Lib.hid hM
  clear hT hM ht
  go_enter Tryd.func66, Tryd.ntmps66
  go_wp2_with (go_at_call 67; refine HC.out.mono ?_; rintro e w1 ⟨rfl, hTk⟩; have HT1 := Lib.hid hTk; have hM1 := Lib.hid (HM.out.took hTk hlt); have c5 := hM1.out.1.at_ 5 _ rfl; have c6 := hM1.out.1.at_ 6 _ rfl; have cf := hM1.out.1.2; clear hTk HM)
  go_end0
  refine ⟨rfl, Row.other (Row.other HT1.out.1 (Nat.ne_of_lt hlt) _) (Nat.ne_of_lt hlt) _, ⟨nv, tv, ?_, (hM1.out.2.1.cellFar (by omega)).cellFar (by omega), (hM1.out.2.2.cellFar (by omega)).cellFar (by omega)⟩, (kp_set_two HT1.out.2 5 _).set (.inl (by simp)) _⟩
  exact (hM1.out.1.set 5 (show 5 < 15 by decide) _).set 6 (show 6 < 15 by decide) _
set_option maxRecDepth 100000 in
set_option maxHeartbeats 4000000 in
theorem take3_any (s : ByteArray) (t : Tk) (m : Mg) (bt bm : Nat) (nv tv : Value) (w : World) (hs : s.size ≤ 140737488351232) (ht : t.p ≤ s.size) (hlt : bt < bm) (hT : TkAt w bt s t) (hM : MD w bm m nv tv) : Calls Tryd.prog 74 #[.pointer (some ⟨bt, 0, none⟩), .pointer (some ⟨bm, 0, none⟩)] w fun e w' => e = .returned (.tuple #[]) ∧ LeftM w bt s bm (takeP s 3 m t) w' := by
  have HC := Lib.hid (takelist_News bt s t w hs ht hT)
  have hE : takeP s 3 m t = ({ m with ns := (tnws s t).1 }, (tnws s t).2) := rfl
  rw [hE]
  clear hE
  generalize (tnws s t).1 = l at *
  generalize (tnws s t).2 = t1 at *
  have HM := Lib.hid hM
  have hbm := hM.lt
  clear hT hM ht
  go_enter Tryd.func74, Tryd.ntmps74
  go_wp2_with (go_at_call 75; refine HC.out.mono ?_; rintro e w1 ⟨v, rfl, hO, hTk⟩; have HT1 := Lib.hid hTk; have HO := Lib.hid hO; have hM1 := Lib.hid (HM.out.took hTk hlt); obtain ⟨A, c, rfl, _, _⟩ := hO.lst; have c7 := hM1.out.1.at_ 7 _ rfl; have cf := hM1.out.1.2; clear hTk HM hO)
  go_end0
  exact ⟨rfl, left_set HT1.out hM1.out hlt 7 _ (by decide) rfl (HO.out.mono hbm) hM1.out.2.2⟩
set_option maxRecDepth 100000 in
set_option maxHeartbeats 4000000 in
theorem take4_any (s : ByteArray) (t : Tk) (m : Mg) (bt bm : Nat) (nv tv : Value) (w : World) (hs : s.size ≤ 140737488351232) (ht : t.p ≤ s.size) (hlt : bt < bm) (hT : TkAt w bt s t) (hM : MD w bm m nv tv) : Calls Tryd.prog 82 #[.pointer (some ⟨bt, 0, none⟩), .pointer (some ⟨bm, 0, none⟩)] w fun e w' => e = .returned (.tuple #[]) ∧ LeftM w bt s bm (takeP s 4 m t) w' := by
  have HC := Lib.hid (takelist_Know bt s t w hs ht hT)
  have hE : takeP s 4 m t = ({ m with tb := (ttbs s t).1 }, (ttbs s t).2) := rfl
  rw [hE]
  clear hE
  generalize (ttbs s t).1 = l at *
  generalize (ttbs s t).2 = t1 at *
  have HM := Lib.hid hM
  have hbm := hM.lt
  clear hT hM ht
  go_enter Tryd.func82, Tryd.ntmps82
  go_wp2_with (go_at_call 83; refine HC.out.mono ?_; rintro e w1 ⟨v, rfl, hO, hTk⟩; have HT1 := Lib.hid hTk; have HO := Lib.hid hO; have hM1 := Lib.hid (HM.out.took hTk hlt); obtain ⟨A, c, rfl, _, _⟩ := hO.lst; have c8 := hM1.out.1.at_ 8 _ rfl; have cf := hM1.out.1.2; clear hTk HM hO)
  go_end0
  exact ⟨rfl, left_set HT1.out hM1.out hlt 8 _ (by decide) rfl hM1.out.2.1 (HO.out.mono hbm)⟩
set_option maxRecDepth 100000 in
set_option maxHeartbeats 4000000 in
theorem takenum_any (p g j : Nat) (u : Value) (s : ByteArray) (t : Tk) (m m' : Mg) (bt bm : Nat) (nv tv : Value) (w : World) (hs : s.size ≤ 140737488351232) (ht : t.p ≤ s.size) (hlt : bt < bm) (hT : TkAt w bt s t) (hM : MD w bm m nv tv)
    (hg : w.cell? ⟨g, 0, none⟩ = some (.func (.func p) #[] #[])) (hgb : g ≠ bt) (hgm : g ≠ bm) (hp : Enters Tryd.prog p) (hj : j < 15) (hu : (mcs m nv tv)[j]? = some u)
    (hc : ∀ (n : Nat) (W : World), W.cell? ⟨bm, j, none⟩ = some u → (∀ o : Nat, W.frozen? ⟨bm, o, none⟩ = false) → Calls Tryd.prog p #[.pointer (some ⟨bm, 0, none⟩), .int .u64 (n : Int)] W fun e w' => e = .returned (.tuple #[]) ∧ W.setCell ⟨bm, j, none⟩ (.int .u64 (n : Int)) = w')
    (hset : (mcs m nv tv).set j (.int .u64 ((tnum s 18446744073709551615 t).1 : Int)) = mcs m' nv tv) (hns : m'.ns = m.ns) (htb : m'.tb = m.tb) :
    Calls Tryd.prog 106 #[.pointer (some ⟨bt, 0, none⟩), .pointer (some ⟨bm, 0, none⟩), .pointer (some ⟨g, 0, none⟩)] w fun e w' => e = .returned (.tuple #[]) ∧ LeftM w bt s bm (m', (tnum s 18446744073709551615 t).2) w' := by
  have HC := Lib.hid (fun (W : World) (hT : TkAt W bt s t) => number_any bt 18446744073709551615 s t W hs ht hT)
  have HP := Lib.hid hc
  have HSet := Lib.hid hset
  have HNS := Lib.hid (And.intro hns htb)
  have HU := Lib.hid hu
  have HM := Lib.hid hM
  have HT := Lib.hid hT
  have hp' : ∀ (args : Array Value) (w : World), (callFunc p args).run Tryd.prog w = .ok (.enter p args) w := hp
  have hgl := World.block_lt_of_cell? w _ hg
  clear hc hset hns htb hu hM hT hp ht
  generalize (tnum s 18446744073709551615 t).1 = n at *
  generalize (tnum s 18446744073709551615 t).2 = t1 at *
  go_enter Tryd.func106, Tryd.ntmps106
  go_upto_region 0 with (fail)
  refine z_enter [(0, true), (1, true), (2, true), (3, false), (4, false)] (fun w' => w'.cell? ⟨g, 0, none⟩ = some (.func (.func p) #[] #[])) (by kernel_rfl) (by kernel_rfl) (by kernel_rfl) (fun _ _ d _ _ h => by cases d <;> exact h) hg ?_
  simp only [pickL, List.drop_succ_cons, List.drop_zero]
  have HM0 : Hid (MD w.drew bm m nv tv) := Lib.hid HM.out
  have HT0 : Hid (TkAt w.drew bt s t) := Lib.hid HT.out
  have HK0 : Hid (Kp w.heap.size [bt] w w.drew) := Lib.hid (Kp.of ⟨rfl, rfl, rfl, Nat.le_refl _, fun _ _ => rfl⟩)
  have hg0 : w.drew.cell? ⟨g, 0, none⟩ = some (.func (.func p) #[] #[]) := hg
  have hgl0 : g < w.drew.heap.size := hgl
  have hsz : w.drew.heap.size = w.heap.size := rfl
  clear HM HT hg hgl
  generalize w.drew = w0 at *
  iterate 3 (first | (refine' z_yes ?_ (by rfl) ?_ ?_; rotate_left; (intro w' hS; (try dsimp only at hS); go_simp; try (with_reducible rfl)); simp only [Act.put, List.setIfInBounds_toArray, List.set_cons_zero, List.set_cons_succ]) | (refine z_no (by rfl) ?_; simp only [Act.put, List.setIfInBounds_toArray, List.set_cons_zero, List.set_cons_succ]))
  refine z_mem ?_
  intro K hK
  go_simp
  refine (HC.out _ HT0.out).mono ?_
  rintro e w1 ⟨rfl, hTk⟩
  have HT1 : Hid (Took w bt s t1 w1) := Lib.hid ⟨hTk.1, HK0.out.trans (hTk.2.mono (by omega) (fun _ _ h => h))⟩
  have HM1 := Lib.hid (HM0.out.took hTk hlt)
  have hg1 : w1.cell? ⟨g, 0, none⟩ = some (.func (.func p) #[] #[]) := (hTk.2.cell (p := ⟨g, 0, none⟩) hgl0 (by simp; exact hgb)).trans hg0
  refine hK.out _ _ hg1 ?_
  clear hK HM0 HT0 HK0 hg0 hgl0 hTk HC
  refine z_mem ?_
  intro K hK
  go_simp
  refine (HP.out n w1 (HM1.out.1.at_ j u HU.out) HM1.out.1.2).mono ?_
  rintro e w2 ⟨rfl, rfl⟩
  have hg2 : (w1.setCell ⟨bm, j, none⟩ (.int .u64 (n : Int))).cell? ⟨g, 0, none⟩ = some (.func (.func p) #[] #[]) := by rw [World.cell?_setCell_other _ _ _ _ (fun e => hgm (by injection e with e1 _; exact e1.symm))]; exact hg1
  refine hK.out _ _ hg2 ?_
  have HF : Hid (LeftM w bt s bm (m', t1) (w1.setCell ⟨bm, j, none⟩ (.int .u64 (n : Int)))) := Lib.hid (left_set HT1.out HM1.out hlt j _ hj HSet.out (by rw [HNS.out.1]; exact HM1.out.2.1) (by rw [HNS.out.2]; exact HM1.out.2.2))
  clear hK hg1 hg2 HM1 HT1 HP HSet HNS HU
  refine z_nil ?_
  go_wp2_with fail
  go_end0
  exact ⟨rfl, HF.out⟩
end Go.Proofs.YtjeepmdklbfgeaaDoor

namespace Go.Proofs.YtjeepmdklbfgeaaDoor
open Go.Sort Go.RowKit Go.Proofs.YtjeepmdklbfgeaaDoor.Pure Go.Proofs.YtjeepmdklbfgeaaDoor.W Go.Proofs.YtjeepmdklbfgeaaDoor.W.Pure

set_option maxRecDepth 100000 in
set_option maxHeartbeats 4000000 in
theorem lay1_any (m : Mg) (v : Value) (w : World) (h : MsgV w v m) (_hw : Wf m) (hm : mayP 1 m = true) : Calls Tryd.prog 58 #[v] w fun e w' => e = .returned (.string (tx (layP 1 m))) ∧ Below w.heap.size w w' := by
  obtain ⟨A, cA, T, cT, rfl, hA, hT, l1, l2, l3⟩ := h
  have HB : Hid (Below w.heap.size w (w.alloc (.cells #[.int .i64 m.kd, .int .i64 m.fr, .int .i64 m.to, .int .u64 (m.sq : Int), .int .i64 m.wh, .int .u64 m.k.i, .int .i64 m.k.s, (.slice A m.ns.length cA), (.slice T m.tb.length cT), .int .u64 (m.ep : Int), .int .u64 (m.bo : Int), .int .i64 m.ak, .string m.ts, .int .u64 (m.tn : Int), .bool m.gd] 28))) := Lib.hid ((Below.refl _ _).alloc (Nat.le_refl _) _)
  obtain ⟨n, hn⟩ : ∃ n : Nat, m.wh = (n : Int) := ⟨m.wh.toNat, (nat_of (by have := (isN_iff m.wh).1 hm; omega)).symm⟩
  have hR : layP 1 m = num n := by show num m.wh.toNat = _; rw [hn]; rfl
  have hbd : n < 1099511627777 := by have := (isN_iff m.wh).1 hm; omega
  rw [hR]
  rw [hn] at HB
  have hcv : IntKind.u64.wrap (n : Int) = (n : Int) := IntWalk.u64_in _ ⟨by omega, by omega⟩
  have HC := Lib.hid (fun (W : World) (g : Nat) => tnum1 n g W (by omega))
  clear hR hm
  generalize tx (num n) = R at *
  unfold mvv
  rw [hn]
  clear hn
  generalize m.kd = kd at *
  generalize m.fr = fr at *
  generalize m.to = tt at *
  generalize m.sq = sq at *
  generalize m.k.i = ki at *
  generalize m.k.s = ks at *
  generalize m.ns = ns at *
  generalize m.tb = tb at *
  generalize m.ep = ep at *
  generalize m.bo = bo at *
  generalize m.ak = ak at *
  generalize m.ts = ts at *
  generalize m.tn = tn at *
  generalize m.gd = gd at *
  go_enter Tryd.func58, Tryd.ntmps58
  go_wp2_with (go_at_call 22; refine (HC.out _ _ (by simp) (by go_simp)).mono ?_; rintro e w2 ⟨rfl, hb⟩)
  go_ret
  exact ⟨rfl, (HB.out.alloc (by simp) _).trans (hb.mono (by simp; omega))⟩
set_option maxRecDepth 100000 in
set_option maxHeartbeats 4000000 in
theorem lay7_any (m : Mg) (v : Value) (w : World) (h : MsgV w v m) (_hw : Wf m) (hm : mayP 7 m = true) : Calls Tryd.prog 86 #[v] w fun e w' => e = .returned (.string (tx (layP 7 m))) ∧ Below w.heap.size w w' := by
  obtain ⟨A, cA, T, cT, rfl, hA, hT, l1, l2, l3⟩ := h
  have HB : Hid (Below w.heap.size w (w.alloc (.cells #[.int .i64 m.kd, .int .i64 m.fr, .int .i64 m.to, .int .u64 (m.sq : Int), .int .i64 m.wh, .int .u64 m.k.i, .int .i64 m.k.s, (.slice A m.ns.length cA), (.slice T m.tb.length cT), .int .u64 (m.ep : Int), .int .u64 (m.bo : Int), .int .i64 m.ak, .string m.ts, .int .u64 (m.tn : Int), .bool m.gd] 28))) := Lib.hid ((Below.refl _ _).alloc (Nat.le_refl _) _)
  obtain ⟨n, hn⟩ : ∃ n : Nat, m.ak = (n : Int) := ⟨m.ak.toNat, (nat_of (by have := (show 0 ≤ m.ak ∧ m.ak ≤ 1099511627776 by simpa [mayP] using hm); omega)).symm⟩
  have hR : layP 7 m = num n := by show num m.ak.toNat = _; rw [hn]; rfl
  have hbd : n < 1099511627777 := by have := (show 0 ≤ m.ak ∧ m.ak ≤ 1099511627776 by simpa [mayP] using hm); omega
  rw [hR]
  rw [hn] at HB
  have hcv : IntKind.u64.wrap (n : Int) = (n : Int) := IntWalk.u64_in _ ⟨by omega, by omega⟩
  have HC := Lib.hid (fun (W : World) (g : Nat) => tnum1 n g W (by omega))
  clear hR hm
  generalize tx (num n) = R at *
  unfold mvv
  rw [hn]
  clear hn
  generalize m.kd = kd at *
  generalize m.fr = fr at *
  generalize m.to = tt at *
  generalize m.sq = sq at *
  generalize m.wh = wh at *
  generalize m.k.i = ki at *
  generalize m.k.s = ks at *
  generalize m.ns = ns at *
  generalize m.tb = tb at *
  generalize m.ep = ep at *
  generalize m.bo = bo at *
  generalize m.ts = ts at *
  generalize m.tn = tn at *
  generalize m.gd = gd at *
  go_enter Tryd.func86, Tryd.ntmps86
  go_wp2_with (go_at_call 22; refine (HC.out _ _ (by simp) (by go_simp)).mono ?_; rintro e w2 ⟨rfl, hb⟩)
  go_ret
  exact ⟨rfl, (HB.out.alloc (by simp) _).trans (hb.mono (by simp; omega))⟩
set_option maxRecDepth 100000 in
set_option maxHeartbeats 4000000 in
theorem lay2_any (m : Mg) (v : Value) (w : World) (h : MsgV w v m) (hw : Wf m) (hm : mayP 2 m = true) : Calls Tryd.prog 64 #[v] w fun e w' => e = .returned (.string (tx (layP 2 m))) ∧ Below w.heap.size w w' := by
  obtain ⟨A, cA, T, cT, rfl, hA, hT, l1, l2, l3⟩ := h
  have HB : Hid (Below w.heap.size w (w.alloc (.cells #[.int .i64 m.kd, .int .i64 m.fr, .int .i64 m.to, .int .u64 (m.sq : Int), .int .i64 m.wh, .int .u64 m.k.i, .int .i64 m.k.s, (.slice A m.ns.length cA), (.slice T m.tb.length cT), .int .u64 (m.ep : Int), .int .u64 (m.bo : Int), .int .i64 m.ak, .string m.ts, .int .u64 (m.tn : Int), .bool m.gd] 28))) := Lib.hid ((Below.refl _ _).alloc (Nat.le_refl _) _)
  have HC := Lib.hid (fun (W : World) => layknow_any m.k W hw.k hm)
  have hR : layP 2 m = layK m.k := rfl
  rw [hR]
  clear hR hm
  generalize tx (layK m.k) = R at *
  unfold mvv
  generalize m.kd = kd at *
  generalize m.fr = fr at *
  generalize m.to = tt at *
  generalize m.sq = sq at *
  generalize m.wh = wh at *
  generalize m.k.i = ki at *
  generalize m.k.s = ks at *
  generalize m.ns = ns at *
  generalize m.tb = tb at *
  generalize m.ep = ep at *
  generalize m.bo = bo at *
  generalize m.ak = ak at *
  generalize m.ts = ts at *
  generalize m.tn = tn at *
  generalize m.gd = gd at *
  go_enter Tryd.func64, Tryd.ntmps64
  go_wp2_with (go_at_call 65; refine (HC.out _).mono ?_; rintro e w2 ⟨rfl, hb⟩)
  go_ret
  exact ⟨rfl, HB.out.trans (hb.mono HB.out.size)⟩
set_option maxRecDepth 100000 in
set_option maxHeartbeats 4000000 in
theorem lay3_any (m : Mg) (v : Value) (w : World) (h : MsgV w v m) (hw : Wf m) (hm : mayP 3 m = true) : Calls Tryd.prog 71 #[v] w fun e w' => e = .returned (.string (tx (layP 3 m))) ∧ Below w.heap.size w w' := by
  obtain ⟨A, cA, T, cT, rfl, hA, hT, l1, l2, l3⟩ := h
  have HB : Hid (Below w.heap.size w (w.alloc (.cells #[.int .i64 m.kd, .int .i64 m.fr, .int .i64 m.to, .int .u64 (m.sq : Int), .int .i64 m.wh, .int .u64 m.k.i, .int .i64 m.k.s, (.slice A m.ns.length cA), (.slice T m.tb.length cT), .int .u64 (m.ep : Int), .int .u64 (m.bo : Int), .int .i64 m.ak, .string m.ts, .int .u64 (m.tn : Int), .bool m.gd] 28))) := Lib.hid ((Below.refl _ _).alloc (Nat.le_refl _) _)
  have hm' : m.ns.length ≤ 8 ∧ ∀ y ∈ m.ns, oneB y = true := by simpa [mayP, mayNs] using hm
  have HC := Lib.hid (fun (W : World) (hb : Below w.heap.size w W) => laylist_News A cA m.ns W (by omega) (hA.on hb) hw.ns hm'.2)
  have hR : layP 3 m = num m.ns.length ++ m.ns.flatMap layN := rfl
  rw [hR]
  clear hR hm hm' hA
  generalize tx (num m.ns.length ++ m.ns.flatMap layN) = R at *
  unfold mvv
  generalize m.kd = kd at *
  generalize m.fr = fr at *
  generalize m.to = tt at *
  generalize m.sq = sq at *
  generalize m.wh = wh at *
  generalize m.k.i = ki at *
  generalize m.k.s = ks at *
  generalize m.ns = ns at *
  generalize m.tb = tb at *
  generalize m.ep = ep at *
  generalize m.bo = bo at *
  generalize m.ak = ak at *
  generalize m.ts = ts at *
  generalize m.tn = tn at *
  generalize m.gd = gd at *
  go_enter Tryd.func71, Tryd.ntmps71
  go_wp2_with (go_at_call 72; refine (HC.out _ HB.out).mono ?_; rintro e w2 ⟨rfl, hb⟩)
  go_ret
  exact ⟨rfl, HB.out.trans (hb.mono HB.out.size)⟩
set_option maxRecDepth 100000 in
set_option maxHeartbeats 4000000 in
theorem lay4_any (m : Mg) (v : Value) (w : World) (h : MsgV w v m) (hw : Wf m) (hm : mayP 4 m = true) : Calls Tryd.prog 80 #[v] w fun e w' => e = .returned (.string (tx (layP 4 m))) ∧ Below w.heap.size w w' := by
  obtain ⟨A, cA, T, cT, rfl, hA, hT, l1, l2, l3⟩ := h
  have HB : Hid (Below w.heap.size w (w.alloc (.cells #[.int .i64 m.kd, .int .i64 m.fr, .int .i64 m.to, .int .u64 (m.sq : Int), .int .i64 m.wh, .int .u64 m.k.i, .int .i64 m.k.s, (.slice A m.ns.length cA), (.slice T m.tb.length cT), .int .u64 (m.ep : Int), .int .u64 (m.bo : Int), .int .i64 m.ak, .string m.ts, .int .u64 (m.tn : Int), .bool m.gd] 28))) := Lib.hid ((Below.refl _ _).alloc (Nat.le_refl _) _)
  have hm' : 1 ≤ m.tb.length ∧ m.tb.length ≤ 64 ∧ mayL m.tb = true := (mayT_iff m.tb).1 hm
  have hm2 : ∀ y ∈ m.tb, mayK y = true := by simpa [mayL] using hm'.2.2
  have HC := Lib.hid (fun (W : World) (hb : Below w.heap.size w W) => laylist_Know T cT m.tb W hm'.2.1 (hT.on hb) hw.tb hm2)
  have hR : layP 4 m = num m.tb.length ++ m.tb.flatMap layK := rfl
  rw [hR]
  clear hR hm hm' hm2 hT
  generalize tx (num m.tb.length ++ m.tb.flatMap layK) = R at *
  unfold mvv
  generalize m.kd = kd at *
  generalize m.fr = fr at *
  generalize m.to = tt at *
  generalize m.sq = sq at *
  generalize m.wh = wh at *
  generalize m.k.i = ki at *
  generalize m.k.s = ks at *
  generalize m.ns = ns at *
  generalize m.tb = tb at *
  generalize m.ep = ep at *
  generalize m.bo = bo at *
  generalize m.ak = ak at *
  generalize m.ts = ts at *
  generalize m.tn = tn at *
  generalize m.gd = gd at *
  go_enter Tryd.func80, Tryd.ntmps80
  go_wp2_with (go_at_call 81; refine (HC.out _ HB.out).mono ?_; rintro e w2 ⟨rfl, hb⟩)
  go_ret
  exact ⟨rfl, HB.out.trans (hb.mono HB.out.size)⟩
set_option maxRecDepth 100000 in
set_option maxHeartbeats 4000000 in
theorem lay8_any (m : Mg) (v : Value) (w : World) (h : MsgV w v m) (_hw : Wf m) (hm : mayP 8 m = true) : Calls Tryd.prog 91 #[v] w fun e w' => e = .returned (.string (tx (layP 8 m))) ∧ Below w.heap.size w w' := by
  obtain ⟨A, cA, T, cT, rfl, hA, hT, l1, l2, l3⟩ := h
  have HB : Hid (Below w.heap.size w (w.alloc (.cells #[.int .i64 m.kd, .int .i64 m.fr, .int .i64 m.to, .int .u64 (m.sq : Int), .int .i64 m.wh, .int .u64 m.k.i, .int .i64 m.k.s, (.slice A m.ns.length cA), (.slice T m.tb.length cT), .int .u64 (m.ep : Int), .int .u64 (m.bo : Int), .int .i64 m.ak, .string m.ts, .int .u64 (m.tn : Int), .bool m.gd] 28))) := Lib.hid ((Below.refl _ _).alloc (Nat.le_refl _) _)
  have hm' : m.ts.size ≤ 20 := by simp [mayP, nameB] at hm; exact hm.2.2
  have HC := Lib.hid (fun (W : World) => laytext_any m.ts W (by omega))
  have hR : layP 8 m = num m.ts.size ++ m.ts.data.toList := rfl
  rw [hR]
  clear hR hm hm'
  generalize tx (num m.ts.size ++ m.ts.data.toList) = R at *
  unfold mvv
  generalize m.kd = kd at *
  generalize m.fr = fr at *
  generalize m.to = tt at *
  generalize m.sq = sq at *
  generalize m.wh = wh at *
  generalize m.k.i = ki at *
  generalize m.k.s = ks at *
  generalize m.ns = ns at *
  generalize m.tb = tb at *
  generalize m.ep = ep at *
  generalize m.bo = bo at *
  generalize m.ak = ak at *
  generalize m.ts = ts at *
  generalize m.tn = tn at *
  generalize m.gd = gd at *
  go_enter Tryd.func91, Tryd.ntmps91
  go_wp2_with (go_at_call 92; refine (HC.out _).mono ?_; rintro e w2 ⟨rfl, hb⟩)
  go_ret
  exact ⟨rfl, HB.out.trans (hb.mono HB.out.size)⟩
set_option maxRecDepth 100000 in
set_option maxHeartbeats 4000000 in
theorem lay10_any (m : Mg) (v : Value) (w : World) (h : MsgV w v m) (_hw : Wf m) (_hm : mayP 10 m = true) : Calls Tryd.prog 97 #[v] w fun e w' => e = .returned (.string (tx (layP 10 m))) ∧ Below w.heap.size w w' := by
  obtain ⟨A, cA, T, cT, rfl, hA, hT, l1, l2, l3⟩ := h
  have HB : Hid (Below w.heap.size w (w.alloc (.cells #[.int .i64 m.kd, .int .i64 m.fr, .int .i64 m.to, .int .u64 (m.sq : Int), .int .i64 m.wh, .int .u64 m.k.i, .int .i64 m.k.s, (.slice A m.ns.length cA), (.slice T m.tb.length cT), .int .u64 (m.ep : Int), .int .u64 (m.bo : Int), .int .i64 m.ak, .string m.ts, .int .u64 (m.tn : Int), .bool m.gd] 28))) := Lib.hid ((Below.refl _ _).alloc (Nat.le_refl _) _)
  have HC := Lib.hid (fun (W : World) => laygood_any m.gd W)
  have hR : layP 10 m = num (if m.gd = true then 1 else 0) := rfl
  rw [hR]
  clear hR
  generalize tx (num (if m.gd = true then 1 else 0)) = R at *
  unfold mvv
  generalize m.kd = kd at *
  generalize m.fr = fr at *
  generalize m.to = tt at *
  generalize m.sq = sq at *
  generalize m.wh = wh at *
  generalize m.k.i = ki at *
  generalize m.k.s = ks at *
  generalize m.ns = ns at *
  generalize m.tb = tb at *
  generalize m.ep = ep at *
  generalize m.bo = bo at *
  generalize m.ak = ak at *
  generalize m.ts = ts at *
  generalize m.tn = tn at *
  generalize m.gd = gd at *
  go_enter Tryd.func97, Tryd.ntmps97
  go_wp2_with (go_at_call 98; refine (HC.out _).mono ?_; rintro e w2 ⟨rfl, hb⟩)
  go_ret
  exact ⟨rfl, HB.out.trans (hb.mono HB.out.size)⟩
set_option maxRecDepth 100000 in
set_option maxHeartbeats 4000000 in
theorem laynum_any (f g n : Nat) (m : Mg) (v : Value) (w : World) (h : MsgV w v m) (hn : n < 2 ^ 64) (hg : w.cell? ⟨g, 0, none⟩ = some (.func (.func f) #[] #[])) (hf : Enters Tryd.prog f)
    (hc : ∀ W : World, MsgV W v m → Calls Tryd.prog f #[v] W fun e w' => e = .returned (.int .u64 (n : Int)) ∧ Below W.heap.size W w') :
    Calls Tryd.prog 105 #[v, .pointer (some ⟨g, 0, none⟩)] w fun e w' => e = .returned (.string (tx (num n))) ∧ Below w.heap.size w w' := by
  have hm := h
  obtain ⟨A, cA, T, cT, rfl, hA, hT, l1, l2, l3⟩ := h
  have HB : Hid (Below w.heap.size w (w.alloc (.cells #[.int .i64 m.kd, .int .i64 m.fr, .int .i64 m.to, .int .u64 (m.sq : Int), .int .i64 m.wh, .int .u64 m.k.i, .int .i64 m.k.s, (.slice A m.ns.length cA), (.slice T m.tb.length cT), .int .u64 (m.ep : Int), .int .u64 (m.bo : Int), .int .i64 m.ak, .string m.ts, .int .u64 (m.tn : Int), .bool m.gd] 28))) := Lib.hid ((Below.refl _ _).alloc (Nat.le_refl _) _)
  have hg2 : (w.alloc (.cells #[.int .i64 m.kd, .int .i64 m.fr, .int .i64 m.to, .int .u64 (m.sq : Int), .int .i64 m.wh, .int .u64 m.k.i, .int .i64 m.k.s, (.slice A m.ns.length cA), (.slice T m.tb.length cT), .int .u64 (m.ep : Int), .int .u64 (m.bo : Int), .int .i64 m.ak, .string m.ts, .int .u64 (m.tn : Int), .bool m.gd] 28)).cell? ⟨g, 0, none⟩ = some (.func (.func f) #[] #[]) := (HB.out.cell (World.block_lt_of_cell? w _ hg)).trans hg
  have HC := Lib.hid (hc _ (hm.on HB.out))
  have HN := Lib.hid (fun (W : World) (g : Nat) => tnum1 n g W hn)
  have hf' : ∀ (args : Array Value) (w : World), (callFunc f args).run Tryd.prog w = .ok (.enter f args) w := hf
  clear hA hT hm hc hg hf
  generalize tx (num n) = R at *
  unfold mvv at *
  generalize m.kd = kd at *
  generalize m.fr = fr at *
  generalize m.to = tt at *
  generalize m.sq = sq at *
  generalize m.wh = wh at *
  generalize m.k.i = ki at *
  generalize m.k.s = ks at *
  generalize m.ns = ns at *
  generalize m.tb = tb at *
  generalize m.ep = ep at *
  generalize m.bo = bo at *
  generalize m.ak = ak at *
  generalize m.ts = ts at *
  generalize m.tn = tn at *
  generalize m.gd = gd at *
  go_enter Tryd.func105, Tryd.ntmps105
  go_wp2_with (first | (go_at_fn f; refine HC.out.mono ?_; rintro e w2 ⟨rfl, hb⟩) | (go_at_call 22; refine (HN.out _ _ (by simp) (by go_simp)).mono ?_; rintro e w3 ⟨rfl, hb3⟩))
  go_ret
  have h2 : Below w.heap.size w w2 := HB.out.trans (hb.mono HB.out.size)
  exact ⟨rfl, (h2.alloc h2.size _).trans (hb3.mono (by have := h2.size; simp; omega))⟩
end Go.Proofs.YtjeepmdklbfgeaaDoor

namespace Go.Proofs.YtjeepmdklbfgeaaDoor
open Go.Sort Go.RowKit Go.Proofs.YtjeepmdklbfgeaaDoor.Pure Go.Proofs.YtjeepmdklbfgeaaDoor.W Go.Proofs.YtjeepmdklbfgeaaDoor.W.Pure
open Go.Maps (Keyed int_keyed keyOf_int_mk IsMap)

/-- What was made from B on is as it was. -/
def Same (B : Nat) (w W : World) : Prop := w.heap.size ≤ W.heap.size ∧ ∀ k, B ≤ k → k < w.heap.size → W.heap[k]? = w.heap[k]?
theorem Same.refl (B : Nat) (w : World) : Same B w w := ⟨Nat.le_refl _, fun _ _ _ => rfl⟩
theorem Same.below {B : Nat} {w W : World} (h : Below w.heap.size w W) : Same B w W := ⟨h.size, fun k _ hk => h.block k hk⟩
theorem Same.cell {B : Nat} {w W : World} (h : Same B w W) {g : Nat} (hg : B ≤ g) {v : Value} (hc : w.cell? ⟨g, 0, none⟩ = some v) : W.cell? ⟨g, 0, none⟩ = some v :=
  (World.cell?_of_block (h.2 g hg (World.block_lt_of_cell? w _ hc))).trans hc
def FMay (n : Nat) (c : List Value) (i : Nat) (W : World) : Prop := ∀ (m : Mg) (u : Value), MsgV W u m → Calls Tryd.prog n (u :: c).toArray W fun e w' => e = .returned (.bool (mayP i m)) ∧ Below W.heap.size W w'
def FZero (n : Nat) (c : List Value) (i : Nat) (W : World) : Prop := ∀ (m : Mg) (u : Value), MsgV W u m → Calls Tryd.prog n (u :: c).toArray W fun e w' => e = .returned (.bool (zeroP i m)) ∧ Below W.heap.size W w'
def FLay (n : Nat) (c : List Value) (i : Nat) (W : World) : Prop := ∀ (m : Mg) (u : Value), MsgV W u m → Wf m → mayP i m = true → Calls Tryd.prog n (u :: c).toArray W fun e w' => e = .returned (.string (tx (layP i m))) ∧ Below W.heap.size W w'
def FTake (B n : Nat) (c : List Value) (i : Nat) (W : World) : Prop := ∀ (s : ByteArray) (t : Tk) (m : Mg) (bt bm : Nat) (nv tv : Value), s.size ≤ 140737488351232 → t.p ≤ s.size → bt < bm → bm < B → TkAt W bt s t → MD W bm m nv tv →
  Calls Tryd.prog n (.pointer (some ⟨bt, 0, none⟩) :: .pointer (some ⟨bm, 0, none⟩) :: c).toArray W fun e w' => e = .returned (.tuple #[]) ∧ LeftM W bt s bm (takeP s i m t) w'
/-- The value v is the table's entry of part i. -/
def PSem (B : Nat) (w : World) (i : Nat) (v : Value) : Prop :=
  ∃ (nm nz nl nt : Nat) (cm cz cl ct : List Value), v = .agg #[.func (.func nm) #[] cm.toArray, .func (.func nz) #[] cz.toArray, .func (.func nl) #[] cl.toArray, .func (.func nt) #[] ct.toArray] ∧
    (Enters Tryd.prog nm ∧ Enters Tryd.prog nz ∧ Enters Tryd.prog nl ∧ Enters Tryd.prog nt) ∧
    ∀ W, Same B w W → FMay nm cm i W ∧ FZero nz cz i W ∧ FLay nl cl i W ∧ FTake B nt ct i W
theorem PSem.same {B : Nat} {w w' : World} {i : Nat} {v : Value} (h : PSem B w i v) (hs : Same B w w') : PSem B w' i v := by
  obtain ⟨nm, nz, nl, nt, cm, cz, cl, ct, e, hE, hW⟩ := h
  exact ⟨nm, nz, nl, nt, cm, cz, cl, ct, e, hE, fun W hS => hW W ⟨Nat.le_trans hs.1 hS.1, fun k h1 h2 => (hS.2 k h1 (Nat.lt_of_lt_of_le h2 hs.1)).trans (hs.2 k h1 h2)⟩⟩
theorem ent_always : Enters Tryd.prog 95 := enters_of Tryd.func95 (by kernel_rfl) rfl
theorem ent_number_1 : Enters Tryd.prog 104 := enters_of Tryd.func104 (by kernel_rfl) rfl
theorem ent_number_2 : Enters Tryd.prog 105 := enters_of Tryd.func105 (by kernel_rfl) rfl
theorem ent_number_3 : Enters Tryd.prog 106 := enters_of Tryd.func106 (by kernel_rfl) rfl
theorem ent_parts_1 : Enters Tryd.prog 48 := enters_of Tryd.func48 (by kernel_rfl) rfl
theorem ent_parts_10 : Enters Tryd.prog 57 := enters_of Tryd.func57 (by kernel_rfl) rfl
theorem ent_parts_11 : Enters Tryd.prog 58 := enters_of Tryd.func58 (by kernel_rfl) rfl
theorem ent_parts_12 : Enters Tryd.prog 59 := enters_of Tryd.func59 (by kernel_rfl) rfl
theorem ent_parts_13 : Enters Tryd.prog 61 := enters_of Tryd.func61 (by kernel_rfl) rfl
theorem ent_parts_14 : Enters Tryd.prog 63 := enters_of Tryd.func63 (by kernel_rfl) rfl
theorem ent_parts_15 : Enters Tryd.prog 64 := enters_of Tryd.func64 (by kernel_rfl) rfl
theorem ent_parts_16 : Enters Tryd.prog 66 := enters_of Tryd.func66 (by kernel_rfl) rfl
theorem ent_parts_17 : Enters Tryd.prog 68 := enters_of Tryd.func68 (by kernel_rfl) rfl
theorem ent_parts_18 : Enters Tryd.prog 70 := enters_of Tryd.func70 (by kernel_rfl) rfl
theorem ent_parts_19 : Enters Tryd.prog 71 := enters_of Tryd.func71 (by kernel_rfl) rfl
theorem ent_parts_2 : Enters Tryd.prog 49 := enters_of Tryd.func49 (by kernel_rfl) rfl
theorem ent_parts_20 : Enters Tryd.prog 74 := enters_of Tryd.func74 (by kernel_rfl) rfl
theorem ent_parts_21 : Enters Tryd.prog 77 := enters_of Tryd.func77 (by kernel_rfl) rfl
theorem ent_parts_22 : Enters Tryd.prog 79 := enters_of Tryd.func79 (by kernel_rfl) rfl
theorem ent_parts_23 : Enters Tryd.prog 80 := enters_of Tryd.func80 (by kernel_rfl) rfl
theorem ent_parts_24 : Enters Tryd.prog 82 := enters_of Tryd.func82 (by kernel_rfl) rfl
theorem ent_parts_25 : Enters Tryd.prog 84 := enters_of Tryd.func84 (by kernel_rfl) rfl
theorem ent_parts_26 : Enters Tryd.prog 85 := enters_of Tryd.func85 (by kernel_rfl) rfl
theorem ent_parts_27 : Enters Tryd.prog 86 := enters_of Tryd.func86 (by kernel_rfl) rfl
theorem ent_parts_28 : Enters Tryd.prog 87 := enters_of Tryd.func87 (by kernel_rfl) rfl
theorem ent_parts_29 : Enters Tryd.prog 89 := enters_of Tryd.func89 (by kernel_rfl) rfl
theorem ent_parts_3 : Enters Tryd.prog 50 := enters_of Tryd.func50 (by kernel_rfl) rfl
theorem ent_parts_30 : Enters Tryd.prog 90 := enters_of Tryd.func90 (by kernel_rfl) rfl
theorem ent_parts_31 : Enters Tryd.prog 91 := enters_of Tryd.func91 (by kernel_rfl) rfl
theorem ent_parts_32 : Enters Tryd.prog 93 := enters_of Tryd.func93 (by kernel_rfl) rfl
theorem ent_parts_33 : Enters Tryd.prog 96 := enters_of Tryd.func96 (by kernel_rfl) rfl
theorem ent_parts_34 : Enters Tryd.prog 97 := enters_of Tryd.func97 (by kernel_rfl) rfl
theorem ent_parts_35 : Enters Tryd.prog 99 := enters_of Tryd.func99 (by kernel_rfl) rfl
theorem ent_parts_4 : Enters Tryd.prog 51 := enters_of Tryd.func51 (by kernel_rfl) rfl
theorem ent_parts_5 : Enters Tryd.prog 52 := enters_of Tryd.func52 (by kernel_rfl) rfl
theorem ent_parts_6 : Enters Tryd.prog 53 := enters_of Tryd.func53 (by kernel_rfl) rfl
theorem ent_parts_7 : Enters Tryd.prog 54 := enters_of Tryd.func54 (by kernel_rfl) rfl
theorem ent_parts_8 : Enters Tryd.prog 55 := enters_of Tryd.func55 (by kernel_rfl) rfl
theorem ent_parts_9 : Enters Tryd.prog 56 := enters_of Tryd.func56 (by kernel_rfl) rfl
theorem psem1 (B : Nat) (w : World) : PSem B w 1 (.agg #[.func (.func 56) #[] #[], .func (.func 57) #[] #[], .func (.func 58) #[] #[], .func (.func 59) #[] #[]]) :=
  ⟨_, _, _, _, [], [], [], [], rfl, ⟨ent_parts_9, ent_parts_10, ent_parts_11, ent_parts_12⟩, fun W _ => ⟨fun m u h => may1_any m u W h, fun m u h => zero1_any m u W h, fun m u h hw hm => lay1_any m u W h hw hm, fun s t m bt bm nv tv hs ht hlt _ hT hM => take1_any s t m bt bm nv tv W hs ht hlt hT hM⟩⟩
theorem psem2 (B : Nat) (w : World) : PSem B w 2 (.agg #[.func (.func 61) #[] #[], .func (.func 63) #[] #[], .func (.func 64) #[] #[], .func (.func 66) #[] #[]]) :=
  ⟨_, _, _, _, [], [], [], [], rfl, ⟨ent_parts_13, ent_parts_14, ent_parts_15, ent_parts_16⟩, fun W _ => ⟨fun m u h => may2_any m u W h, fun m u h => zero2_any m u W h, fun m u h hw hm => lay2_any m u W h hw hm, fun s t m bt bm nv tv hs ht hlt _ hT hM => take2_any s t m bt bm nv tv W hs ht hlt hT hM⟩⟩
theorem psem3 (B : Nat) (w : World) : PSem B w 3 (.agg #[.func (.func 68) #[] #[], .func (.func 70) #[] #[], .func (.func 71) #[] #[], .func (.func 74) #[] #[]]) :=
  ⟨_, _, _, _, [], [], [], [], rfl, ⟨ent_parts_17, ent_parts_18, ent_parts_19, ent_parts_20⟩, fun W _ => ⟨fun m u h => may3_any m u W h, fun m u h => zero3_any m u W h, fun m u h hw hm => lay3_any m u W h hw hm, fun s t m bt bm nv tv hs ht hlt _ hT hM => take3_any s t m bt bm nv tv W hs ht hlt hT hM⟩⟩
theorem psem4 (B : Nat) (w : World) : PSem B w 4 (.agg #[.func (.func 77) #[] #[], .func (.func 79) #[] #[], .func (.func 80) #[] #[], .func (.func 82) #[] #[]]) :=
  ⟨_, _, _, _, [], [], [], [], rfl, ⟨ent_parts_21, ent_parts_22, ent_parts_23, ent_parts_24⟩, fun W _ => ⟨fun m u h => may4_any m u W h, fun m u h => zero4_any m u W h, fun m u h hw hm => lay4_any m u W h hw hm, fun s t m bt bm nv tv hs ht hlt _ hT hM => take4_any s t m bt bm nv tv W hs ht hlt hT hM⟩⟩
theorem psem7 (B : Nat) (w : World) : PSem B w 7 (.agg #[.func (.func 84) #[] #[], .func (.func 85) #[] #[], .func (.func 86) #[] #[], .func (.func 87) #[] #[]]) :=
  ⟨_, _, _, _, [], [], [], [], rfl, ⟨ent_parts_25, ent_parts_26, ent_parts_27, ent_parts_28⟩, fun W _ => ⟨fun m u h => may7_any m u W h, fun m u h => zero7_any m u W h, fun m u h hw hm => lay7_any m u W h hw hm, fun s t m bt bm nv tv hs ht hlt _ hT hM => take7_any s t m bt bm nv tv W hs ht hlt hT hM⟩⟩
theorem psem8 (B : Nat) (w : World) : PSem B w 8 (.agg #[.func (.func 89) #[] #[], .func (.func 90) #[] #[], .func (.func 91) #[] #[], .func (.func 93) #[] #[]]) :=
  ⟨_, _, _, _, [], [], [], [], rfl, ⟨ent_parts_29, ent_parts_30, ent_parts_31, ent_parts_32⟩, fun W _ => ⟨fun m u h => may8_any m u W h, fun m u h => zero8_any m u W h, fun m u h hw hm => lay8_any m u W h hw hm, fun s t m bt bm nv tv hs ht hlt _ hT hM => take8_any s t m bt bm nv tv W hs ht hlt hT hM⟩⟩
theorem psem10 (B : Nat) (w : World) : PSem B w 10 (.agg #[.func (.func 95) #[] #[], .func (.func 96) #[] #[], .func (.func 97) #[] #[], .func (.func 99) #[] #[]]) :=
  ⟨_, _, _, _, [], [], [], [], rfl, ⟨ent_always, ent_parts_33, ent_parts_34, ent_parts_35⟩, fun W _ => ⟨fun m u h => always_any m u W h, fun m u h => zero10_any m u W h, fun m u h hw hm => lay10_any m u W h hw hm, fun s t m bt bm nv tv hs ht hlt _ hT hM => take10_any s t m bt bm nv tv W hs ht hlt hT hM⟩⟩
/-- Two function values lie in blocks of their own. -/
def NumAt (B : Nat) (w : World) (g1 g2 f p : Nat) : Prop := B ≤ g1 ∧ B ≤ g2 ∧ w.cell? ⟨g1, 0, none⟩ = some (.func (.func f) #[] #[]) ∧ w.cell? ⟨g2, 0, none⟩ = some (.func (.func p) #[] #[])
def numV (g1 g2 : Nat) : Value := .agg #[.func (.func 95) #[] #[], .func (.func 104) #[] #[.pointer (some ⟨g1, 0, none⟩)], .func (.func 105) #[] #[.pointer (some ⟨g1, 0, none⟩)], .func (.func 106) #[] #[.pointer (some ⟨g2, 0, none⟩)]]
theorem psem0 (B : Nat) (w : World) (g1 g2 : Nat) (h : NumAt B w g1 g2 48 49) : PSem B w 0 (numV g1 g2) := by
  obtain ⟨h1, h2, c1, c2⟩ := h
  refine ⟨_, _, _, _, [], [.pointer (some ⟨g1, 0, none⟩)], [.pointer (some ⟨g1, 0, none⟩)], [.pointer (some ⟨g2, 0, none⟩)], rfl, ⟨ent_always, ent_number_1, ent_number_2, ent_number_3⟩, fun W hS => ⟨fun m u h => always_any m u W h, fun m u h => ?_, fun m u h hw _ => ?_, fun s t m bt bm nv tv hs ht hlt hB hT hM => ?_⟩⟩
  · exact zeronum_any _ g1 m.sq m u W h (hS.cell h1 c1) ent_parts_1 (fun W h => of0_any m u W h)
  · exact laynum_any _ g1 m.sq m u W h hw.sq (hS.cell h1 c1) ent_parts_1 (fun W h => of0_any m u W h)
  · exact takenum_any _ g2 3 (.int .u64 (m.sq : Int)) s t m { m with sq := (tnum s 18446744073709551615 t).1 } bt bm nv tv W hs ht hlt hT hM (hS.cell h2 c2) (by omega) (by omega) ent_parts_2 (by decide) rfl (fun n W hc hf => put0_any n bm _ W hc hf) rfl rfl rfl
theorem psem5 (B : Nat) (w : World) (g1 g2 : Nat) (h : NumAt B w g1 g2 50 51) : PSem B w 5 (numV g1 g2) := by
  obtain ⟨h1, h2, c1, c2⟩ := h
  refine ⟨_, _, _, _, [], [.pointer (some ⟨g1, 0, none⟩)], [.pointer (some ⟨g1, 0, none⟩)], [.pointer (some ⟨g2, 0, none⟩)], rfl, ⟨ent_always, ent_number_1, ent_number_2, ent_number_3⟩, fun W hS => ⟨fun m u h => always_any m u W h, fun m u h => ?_, fun m u h hw _ => ?_, fun s t m bt bm nv tv hs ht hlt hB hT hM => ?_⟩⟩
  · exact zeronum_any _ g1 m.ep m u W h (hS.cell h1 c1) ent_parts_3 (fun W h => of5_any m u W h)
  · exact laynum_any _ g1 m.ep m u W h hw.ep (hS.cell h1 c1) ent_parts_3 (fun W h => of5_any m u W h)
  · exact takenum_any _ g2 9 (.int .u64 (m.ep : Int)) s t m { m with ep := (tnum s 18446744073709551615 t).1 } bt bm nv tv W hs ht hlt hT hM (hS.cell h2 c2) (by omega) (by omega) ent_parts_4 (by decide) rfl (fun n W hc hf => put5_any n bm _ W hc hf) rfl rfl rfl
theorem psem6 (B : Nat) (w : World) (g1 g2 : Nat) (h : NumAt B w g1 g2 52 53) : PSem B w 6 (numV g1 g2) := by
  obtain ⟨h1, h2, c1, c2⟩ := h
  refine ⟨_, _, _, _, [], [.pointer (some ⟨g1, 0, none⟩)], [.pointer (some ⟨g1, 0, none⟩)], [.pointer (some ⟨g2, 0, none⟩)], rfl, ⟨ent_always, ent_number_1, ent_number_2, ent_number_3⟩, fun W hS => ⟨fun m u h => always_any m u W h, fun m u h => ?_, fun m u h hw _ => ?_, fun s t m bt bm nv tv hs ht hlt hB hT hM => ?_⟩⟩
  · exact zeronum_any _ g1 m.bo m u W h (hS.cell h1 c1) ent_parts_5 (fun W h => of6_any m u W h)
  · exact laynum_any _ g1 m.bo m u W h hw.bo (hS.cell h1 c1) ent_parts_5 (fun W h => of6_any m u W h)
  · exact takenum_any _ g2 10 (.int .u64 (m.bo : Int)) s t m { m with bo := (tnum s 18446744073709551615 t).1 } bt bm nv tv W hs ht hlt hT hM (hS.cell h2 c2) (by omega) (by omega) ent_parts_6 (by decide) rfl (fun n W hc hf => put6_any n bm _ W hc hf) rfl rfl rfl
theorem psem9 (B : Nat) (w : World) (g1 g2 : Nat) (h : NumAt B w g1 g2 54 55) : PSem B w 9 (numV g1 g2) := by
  obtain ⟨h1, h2, c1, c2⟩ := h
  refine ⟨_, _, _, _, [], [.pointer (some ⟨g1, 0, none⟩)], [.pointer (some ⟨g1, 0, none⟩)], [.pointer (some ⟨g2, 0, none⟩)], rfl, ⟨ent_always, ent_number_1, ent_number_2, ent_number_3⟩, fun W hS => ⟨fun m u h => always_any m u W h, fun m u h => ?_, fun m u h hw _ => ?_, fun s t m bt bm nv tv hs ht hlt hB hT hM => ?_⟩⟩
  · exact zeronum_any _ g1 m.tn m u W h (hS.cell h1 c1) ent_parts_7 (fun W h => of9_any m u W h)
  · exact laynum_any _ g1 m.tn m u W h hw.tn (hS.cell h1 c1) ent_parts_7 (fun W h => of9_any m u W h)
  · exact takenum_any _ g2 13 (.int .u64 (m.tn : Int)) s t m { m with tn := (tnum s 18446744073709551615 t).1 } bt bm nv tv W hs ht hlt hT hM (hS.cell h2 c2) (by omega) (by omega) ent_parts_8 (by decide) rfl (fun n W hc hf => put9_any n bm _ W hc hf) rfl rfl rfl
set_option maxRecDepth 100000 in
set_option maxHeartbeats 4000000 in
theorem number_fn (f p : Nat) (w : World) : Calls Tryd.prog 47 #[.func (.func f) #[] #[], .func (.func p) #[] #[]] w fun e w' => ∃ g1 g2, e = .returned (numV g1 g2) ∧ NumAt w.heap.size w' g1 g2 f p ∧ Below w.heap.size w w' := by
  go_enter Tryd.func47, Tryd.ntmps47
  go_wp2_with fail
  refine bodyPost_ret (v := numV w.heap.size (w.heap.size + 1)) (by simp [results, Tryd.results47, go_sem, numV]) rfl ⟨_, _, rfl, ⟨Nat.le_refl _, by omega, by go_simp, by go_simp⟩, ?_⟩
  exact (((Below.refl _ _).alloc (Nat.le_refl _) _).alloc (by simp) _).alloc (by simp; omega) _

/-! ### the map -/
theorem zeroP57 (w : World) : (zeroValue 57).run Tryd.prog w = .ok (.agg #[.nilFunc, .nilFunc, .nilFunc, .nilFunc]) w := by kernel_rfl
theorem intKeyed3 : Keyed Tryd.prog 3 := int_keyed Tryd.underlying3
/-- How an element reads: as itself. -/
def anyR : Value → Option (DataW Value × List MemPlace) := fun v => some (.held v, [])
/-- Block g is a map that holds f. -/
def Mp (w : World) (g : Nat) (f : Int → Option Value) : Prop :=
  ∃ (n : Nat) (D : DataW Value), n ≤ 1000 ∧ w.ownsMap Tryd.prog 3 anyR g n D ∧ (∀ k : Int, Maps.has D (.int .i64 k) = (f k).isSome) ∧ (∀ (k : Int) (z : Value), D.atKey (.int .i64 k) (.held z) = .held ((f k).getD z))
def putM (f : Int → Option Value) (k : Int) (v : Value) : Int → Option Value := fun y => if y = k then some v else f y
/-- The map has no more than n entries. -/
def MpN (w : World) (g n : Nat) (f : Int → Option Value) : Prop :=
  ∃ (D : DataW Value), w.ownsMap Tryd.prog 3 anyR g n D ∧ (∀ k : Int, Maps.has D (.int .i64 k) = (f k).isSome) ∧ (∀ (k : Int) (z : Value), D.atKey (.int .i64 k) (.held z) = .held ((f k).getD z))
section
variable {w w' : World} {g n : Nat} {f : Int → Option Value}
theorem MpN.made (w : World) : MpN (w.alloc (.map #[] 0)) w.heap.size 0 (fun _ => none) :=
  ⟨.map [], World.ownsMap_made _ _ _ _, fun k => by simp [Maps.has], fun k z => by simp [DataW.atKey]⟩
theorem MpN.kept {row : Option Nat} (h : MpN w g n f) (hg : w.grownBy w' row) (hne : some g ≠ row) : MpN w' g n f := by
  obtain ⟨D, h1, h2⟩ := h
  exact ⟨D, h1.kept hg hne, h2⟩
theorem MpN.on (h : MpN w g n f) (hb : Below w.heap.size w w') : MpN w' g n f :=
  h.kept (row := none) ⟨hb.os, hb.tape, hb.output, hb.size, fun b hb' _ => hb.block b hb'⟩ (by simp)
theorem MpN.lt (h : MpN w g n f) : g < w.heap.size := by
  obtain ⟨D, h1, _⟩ := h
  exact h1.lt
theorem MpN.apart (h : MpN w g n f) {a : Addr} {v : Value} (hc : w.cell? a = some v) : a.block ≠ g := fun e => by
  obtain ⟨D, ⟨es, clock, hb, _⟩, _⟩ := h
  unfold World.cell? at hc
  rw [e, hb] at hc
  cases hc
theorem key_wf {k : Int} (h : 0 ≤ k ∧ k < 64) : (Lit.int .i64 k).wf = true := by
  simp [Lit.wf, IntKind.min, IntKind.max, IntKind.signed, IntKind.bits]
  omega
set_option maxRecDepth 100000 in
/-- m[k] = v. -/
theorem MpN.put (h : MpN w g n f) (hn : n < 1000) (k : Int) (hk : 0 ≤ k ∧ k < 64) (v : Value) :
    ∃ w', (Instr.mapUpdate 51 (.map (some g)) (.int .i64 k) v).run Tryd.prog w = .ok () w' ∧ MpN w' g (n + 1) (putM f k v) ∧ w.grownBy w' (some g) := by
  obtain ⟨D, h1, h2, h3⟩ := h
  have hm : IsMap D := h1.isMap
  obtain ⟨w', hrun, h1', hg⟩ := h1.update intKeyed3 Tryd.underlying51 (by unfold maxLen; omega) (keyOf_int_mk Tryd.underlying3 (key_wf hk)) (show anyR v = some (.held v, []) from rfl)
  refine ⟨w', hrun, ⟨_, h1', fun y => ?_, fun y z => ?_⟩, hg⟩
  · unfold putM
    by_cases e : y = k
    · subst e
      rw [Maps.has_put_same hm (by simp [WideAt.IsKeyLit]), if_pos rfl]
      rfl
    · rw [Maps.has_put_other (by intro h; injection h with _ h; exact e h), h2 y, if_neg e]
  · unfold putM
    by_cases e : y = k
    · subst e
      rw [Maps.atKey_put_same hm (by simp [WideAt.IsKeyLit]), if_pos rfl]
      rfl
    · rw [Maps.atKey_put_other (by intro h; injection h with _ h; exact e h), h3 y, if_neg e]
set_option maxRecDepth 100000 in
/-- m[k]. -/
theorem MpN.look (h : MpN w g n f) (k : Int) (hk : 0 ≤ k ∧ k < 64) (v : Value) (hv : f k = some v) :
    (Instr.lookup 51 (.map (some g)) (.int .i64 k) false).run Tryd.prog w = .ok v w := by
  obtain ⟨D, h1, h2, h3⟩ := h
  obtain ⟨x, ps, hrun, hx⟩ := h1.lookup intKeyed3 Tryd.underlying51 (zeroP57 w) (show anyR (.agg #[.nilFunc, .nilFunc, .nilFunc, .nilFunc]) = some (.held (.agg #[.nilFunc, .nilFunc, .nilFunc, .nilFunc]), []) from rfl) (keyOf_int_mk Tryd.underlying3 (key_wf hk))
  rw [h3 k _, hv] at hx
  unfold anyR at hx
  injection hx with hx
  injection hx with hx _
  injection hx with hx
  rw [hrun, hx]
  rfl
end
theorem NumAt.kept {B g g1 g2 p q n : Nat} {f : Int → Option Value} {w w' : World} (h : NumAt B w g1 g2 p q) (hM : MpN w g n f) (hg : w.grownBy w' (some g)) : NumAt B w' g1 g2 p q := by
  obtain ⟨h1, h2, c1, c2⟩ := h
  have l1 := World.block_lt_of_cell? w _ c1
  have l2 := World.block_lt_of_cell? w _ c2
  exact ⟨h1, h2, (World.cell?_of_block (hg.block g1 l1 (fun e => hM.apart c1 (Option.some.inj e)))).trans c1, (World.cell?_of_block (hg.block g2 l2 (fun e => hM.apart c2 (Option.some.inj e)))).trans c2⟩
theorem NumAt.on {B g1 g2 p q : Nat} {w w' : World} (h : NumAt B w g1 g2 p q) (hb : Below w.heap.size w w') : NumAt B w' g1 g2 p q := by
  obtain ⟨h1, h2, c1, c2⟩ := h
  exact ⟨h1, h2, (hb.cell (World.block_lt_of_cell? w _ c1)).trans c1, (hb.cell (World.block_lt_of_cell? w _ c2)).trans c2⟩
theorem NumAt.mono {B B' g1 g2 p q : Nat} {w : World} (h : NumAt B w g1 g2 p q) (hB : B' ≤ B) : NumAt B' w g1 g2 p q := ⟨Nat.le_trans hB h.1, Nat.le_trans hB h.2.1, h.2.2⟩
/-- The table of all parts, in block g. -/
def Table (B : Nat) (w : World) (g : Nat) : Prop := ∃ f : Int → Option Value, MpN w g 11 f ∧ (∀ k : Int, (f k).isSome = true ↔ 0 ≤ k ∧ k < 11) ∧ ∀ (i : Nat) (v : Value), i < 11 → f (i : Int) = some v → PSem B w i v
set_option maxRecDepth 100000 in
set_option maxHeartbeats 4000000 in
theorem parts_any (w : World) : Calls Tryd.prog 23 #[] w fun e w' => ∃ g, e = .returned (.map (some g)) ∧ w.heap.size ≤ g ∧ Table w.heap.size w' g ∧ Below w.heap.size w w' := by
  have HN := Lib.hid number_fn
  have hmk := @run_makeMap Tryd.prog
  go_enter Tryd.func23, Tryd.ntmps23
  go_upto_region 1 with (fail)
  have HM : Hid (MpN (w.alloc (.map #[] 0)) w.heap.size 0 (fun _ => none)) := Lib.hid (MpN.made w)
  have HB : Hid (Below w.heap.size w (w.alloc (.map #[] 0))) := Lib.hid ((Below.refl _ _).alloc (Nat.le_refl _) _)
  go_wp2_with fail
  refine (HN.out 48 49 _).mono ?_
  rintro e w1 ⟨a0, b0, rfl, hn, hb⟩
  have HMa0 := Lib.hid (HM.out.on hb)
  have HBa0 : Hid (Below w.heap.size w w1) := Lib.hid (HB.out.trans (hb.mono HB.out.size))
  have HU0_0 := Lib.hid (hn.mono HB.out.size)
  clear hb hn HM HB 
  obtain ⟨w2, hrun, hM, hg⟩ := HMa0.out.put (by decide) 0 (by decide) (numV a0 b0)
  go_wp2_with fail
  have HMb0 := Lib.hid hM
  have HBb0 : Hid (Below w.heap.size w w2) := Lib.hid (HBa0.out.grown hg HBa0.out.size (fun k hk => by injection hk with hk; omega))
  have HV0_0 := Lib.hid (HU0_0.out.kept HMa0.out hg)
  clear hrun hM hg HMa0 HBa0 HU0_0
  have HU0_0 := HV0_0
  clear HV0_0
  go_wp2_with fail
  refine (HN.out 50 51 _).mono ?_
  rintro e w3 ⟨a5, b5, rfl, hn, hb⟩
  have HMa1 := Lib.hid (HMb0.out.on hb)
  have HBa1 : Hid (Below w.heap.size w w3) := Lib.hid (HBb0.out.trans (hb.mono HBb0.out.size))
  have HU5_1 := Lib.hid (hn.mono HBb0.out.size)
  have HU0_1 := Lib.hid (HU0_0.out.on hb)
  clear hb hn HMb0 HBb0 HU0_0
  obtain ⟨w4, hrun, hM, hg⟩ := HMa1.out.put (by decide) 5 (by decide) (numV a5 b5)
  go_wp2_with fail
  have HMb1 := Lib.hid hM
  have HBb1 : Hid (Below w.heap.size w w4) := Lib.hid (HBa1.out.grown hg HBa1.out.size (fun k hk => by injection hk with hk; omega))
  have HV0_1 := Lib.hid (HU0_1.out.kept HMa1.out hg)
  have HV5_1 := Lib.hid (HU5_1.out.kept HMa1.out hg)
  clear hrun hM hg HMa1 HBa1 HU0_1 HU5_1
  have HU0_1 := HV0_1
  clear HV0_1
  have HU5_1 := HV5_1
  clear HV5_1
  go_wp2_with fail
  refine (HN.out 52 53 _).mono ?_
  rintro e w5 ⟨a6, b6, rfl, hn, hb⟩
  have HMa2 := Lib.hid (HMb1.out.on hb)
  have HBa2 : Hid (Below w.heap.size w w5) := Lib.hid (HBb1.out.trans (hb.mono HBb1.out.size))
  have HU6_2 := Lib.hid (hn.mono HBb1.out.size)
  have HU0_2 := Lib.hid (HU0_1.out.on hb)
  have HU5_2 := Lib.hid (HU5_1.out.on hb)
  clear hb hn HMb1 HBb1 HU0_1 HU5_1
  obtain ⟨w6, hrun, hM, hg⟩ := HMa2.out.put (by decide) 6 (by decide) (numV a6 b6)
  go_wp2_with fail
  have HMb2 := Lib.hid hM
  have HBb2 : Hid (Below w.heap.size w w6) := Lib.hid (HBa2.out.grown hg HBa2.out.size (fun k hk => by injection hk with hk; omega))
  have HV0_2 := Lib.hid (HU0_2.out.kept HMa2.out hg)
  have HV5_2 := Lib.hid (HU5_2.out.kept HMa2.out hg)
  have HV6_2 := Lib.hid (HU6_2.out.kept HMa2.out hg)
  clear hrun hM hg HMa2 HBa2 HU0_2 HU5_2 HU6_2
  have HU0_2 := HV0_2
  clear HV0_2
  have HU5_2 := HV5_2
  clear HV5_2
  have HU6_2 := HV6_2
  clear HV6_2
  go_wp2_with fail
  refine (HN.out 54 55 _).mono ?_
  rintro e w7 ⟨a9, b9, rfl, hn, hb⟩
  have HMa3 := Lib.hid (HMb2.out.on hb)
  have HBa3 : Hid (Below w.heap.size w w7) := Lib.hid (HBb2.out.trans (hb.mono HBb2.out.size))
  have HU9_3 := Lib.hid (hn.mono HBb2.out.size)
  have HU0_3 := Lib.hid (HU0_2.out.on hb)
  have HU5_3 := Lib.hid (HU5_2.out.on hb)
  have HU6_3 := Lib.hid (HU6_2.out.on hb)
  clear hb hn HMb2 HBb2 HU0_2 HU5_2 HU6_2
  obtain ⟨w8, hrun, hM, hg⟩ := HMa3.out.put (by decide) 9 (by decide) (numV a9 b9)
  go_wp2_with fail
  have HMb3 := Lib.hid hM
  have HBb3 : Hid (Below w.heap.size w w8) := Lib.hid (HBa3.out.grown hg HBa3.out.size (fun k hk => by injection hk with hk; omega))
  have HV0_3 := Lib.hid (HU0_3.out.kept HMa3.out hg)
  have HV5_3 := Lib.hid (HU5_3.out.kept HMa3.out hg)
  have HV6_3 := Lib.hid (HU6_3.out.kept HMa3.out hg)
  have HV9_3 := Lib.hid (HU9_3.out.kept HMa3.out hg)
  clear hrun hM hg HMa3 HBa3 HU0_3 HU5_3 HU6_3 HU9_3
  have HU0_3 := HV0_3
  clear HV0_3
  have HU5_3 := HV5_3
  clear HV5_3
  have HU6_3 := HV6_3
  clear HV6_3
  have HU9_3 := HV9_3
  clear HV9_3
  obtain ⟨w10, hrun, hM, hg⟩ := HMb3.out.put (by decide) 1 (by decide) (.agg #[.func (.func 56) #[] #[], .func (.func 57) #[] #[], .func (.func 58) #[] #[], .func (.func 59) #[] #[]])
  rw [hrun]
  go_wp2_with fail
  have HMb4 := Lib.hid hM
  have HBb4 : Hid (Below w.heap.size w w10) := Lib.hid (HBb3.out.grown hg HBb3.out.size (fun k hk => by injection hk with hk; omega))
  have HV0_4 := Lib.hid (HU0_3.out.kept HMb3.out hg)
  have HV5_4 := Lib.hid (HU5_3.out.kept HMb3.out hg)
  have HV6_4 := Lib.hid (HU6_3.out.kept HMb3.out hg)
  have HV9_4 := Lib.hid (HU9_3.out.kept HMb3.out hg)
  clear hrun hM hg HMb3 HBb3 HU0_3 HU5_3 HU6_3 HU9_3
  have HU0_4 := HV0_4
  clear HV0_4
  have HU5_4 := HV5_4
  clear HV5_4
  have HU6_4 := HV6_4
  clear HV6_4
  have HU9_4 := HV9_4
  clear HV9_4
  obtain ⟨w12, hrun, hM, hg⟩ := HMb4.out.put (by decide) 2 (by decide) (.agg #[.func (.func 61) #[] #[], .func (.func 63) #[] #[], .func (.func 64) #[] #[], .func (.func 66) #[] #[]])
  rw [hrun]
  go_wp2_with fail
  have HMb5 := Lib.hid hM
  have HBb5 : Hid (Below w.heap.size w w12) := Lib.hid (HBb4.out.grown hg HBb4.out.size (fun k hk => by injection hk with hk; omega))
  have HV0_5 := Lib.hid (HU0_4.out.kept HMb4.out hg)
  have HV5_5 := Lib.hid (HU5_4.out.kept HMb4.out hg)
  have HV6_5 := Lib.hid (HU6_4.out.kept HMb4.out hg)
  have HV9_5 := Lib.hid (HU9_4.out.kept HMb4.out hg)
  clear hrun hM hg HMb4 HBb4 HU0_4 HU5_4 HU6_4 HU9_4
  have HU0_5 := HV0_5
  clear HV0_5
  have HU5_5 := HV5_5
  clear HV5_5
  have HU6_5 := HV6_5
  clear HV6_5
  have HU9_5 := HV9_5
  clear HV9_5
  obtain ⟨w14, hrun, hM, hg⟩ := HMb5.out.put (by decide) 3 (by decide) (.agg #[.func (.func 68) #[] #[], .func (.func 70) #[] #[], .func (.func 71) #[] #[], .func (.func 74) #[] #[]])
  rw [hrun]
  go_wp2_with fail
  have HMb6 := Lib.hid hM
  have HBb6 : Hid (Below w.heap.size w w14) := Lib.hid (HBb5.out.grown hg HBb5.out.size (fun k hk => by injection hk with hk; omega))
  have HV0_6 := Lib.hid (HU0_5.out.kept HMb5.out hg)
  have HV5_6 := Lib.hid (HU5_5.out.kept HMb5.out hg)
  have HV6_6 := Lib.hid (HU6_5.out.kept HMb5.out hg)
  have HV9_6 := Lib.hid (HU9_5.out.kept HMb5.out hg)
  clear hrun hM hg HMb5 HBb5 HU0_5 HU5_5 HU6_5 HU9_5
  have HU0_6 := HV0_6
  clear HV0_6
  have HU5_6 := HV5_6
  clear HV5_6
  have HU6_6 := HV6_6
  clear HV6_6
  have HU9_6 := HV9_6
  clear HV9_6
  obtain ⟨w16, hrun, hM, hg⟩ := HMb6.out.put (by decide) 4 (by decide) (.agg #[.func (.func 77) #[] #[], .func (.func 79) #[] #[], .func (.func 80) #[] #[], .func (.func 82) #[] #[]])
  rw [hrun]
  go_wp2_with fail
  have HMb7 := Lib.hid hM
  have HBb7 : Hid (Below w.heap.size w w16) := Lib.hid (HBb6.out.grown hg HBb6.out.size (fun k hk => by injection hk with hk; omega))
  have HV0_7 := Lib.hid (HU0_6.out.kept HMb6.out hg)
  have HV5_7 := Lib.hid (HU5_6.out.kept HMb6.out hg)
  have HV6_7 := Lib.hid (HU6_6.out.kept HMb6.out hg)
  have HV9_7 := Lib.hid (HU9_6.out.kept HMb6.out hg)
  clear hrun hM hg HMb6 HBb6 HU0_6 HU5_6 HU6_6 HU9_6
  have HU0_7 := HV0_7
  clear HV0_7
  have HU5_7 := HV5_7
  clear HV5_7
  have HU6_7 := HV6_7
  clear HV6_7
  have HU9_7 := HV9_7
  clear HV9_7
  obtain ⟨w18, hrun, hM, hg⟩ := HMb7.out.put (by decide) 7 (by decide) (.agg #[.func (.func 84) #[] #[], .func (.func 85) #[] #[], .func (.func 86) #[] #[], .func (.func 87) #[] #[]])
  rw [hrun]
  go_wp2_with fail
  have HMb8 := Lib.hid hM
  have HBb8 : Hid (Below w.heap.size w w18) := Lib.hid (HBb7.out.grown hg HBb7.out.size (fun k hk => by injection hk with hk; omega))
  have HV0_8 := Lib.hid (HU0_7.out.kept HMb7.out hg)
  have HV5_8 := Lib.hid (HU5_7.out.kept HMb7.out hg)
  have HV6_8 := Lib.hid (HU6_7.out.kept HMb7.out hg)
  have HV9_8 := Lib.hid (HU9_7.out.kept HMb7.out hg)
  clear hrun hM hg HMb7 HBb7 HU0_7 HU5_7 HU6_7 HU9_7
  have HU0_8 := HV0_8
  clear HV0_8
  have HU5_8 := HV5_8
  clear HV5_8
  have HU6_8 := HV6_8
  clear HV6_8
  have HU9_8 := HV9_8
  clear HV9_8
  obtain ⟨w20, hrun, hM, hg⟩ := HMb8.out.put (by decide) 8 (by decide) (.agg #[.func (.func 89) #[] #[], .func (.func 90) #[] #[], .func (.func 91) #[] #[], .func (.func 93) #[] #[]])
  rw [hrun]
  go_wp2_with fail
  have HMb9 := Lib.hid hM
  have HBb9 : Hid (Below w.heap.size w w20) := Lib.hid (HBb8.out.grown hg HBb8.out.size (fun k hk => by injection hk with hk; omega))
  have HV0_9 := Lib.hid (HU0_8.out.kept HMb8.out hg)
  have HV5_9 := Lib.hid (HU5_8.out.kept HMb8.out hg)
  have HV6_9 := Lib.hid (HU6_8.out.kept HMb8.out hg)
  have HV9_9 := Lib.hid (HU9_8.out.kept HMb8.out hg)
  clear hrun hM hg HMb8 HBb8 HU0_8 HU5_8 HU6_8 HU9_8
  have HU0_9 := HV0_9
  clear HV0_9
  have HU5_9 := HV5_9
  clear HV5_9
  have HU6_9 := HV6_9
  clear HV6_9
  have HU9_9 := HV9_9
  clear HV9_9
  obtain ⟨w22, hrun, hM, hg⟩ := HMb9.out.put (by decide) 10 (by decide) (.agg #[.func (.func 95) #[] #[], .func (.func 96) #[] #[], .func (.func 97) #[] #[], .func (.func 99) #[] #[]])
  rw [hrun]
  go_wp2_with fail
  have HMb10 := Lib.hid hM
  have HBb10 : Hid (Below w.heap.size w w22) := Lib.hid (HBb9.out.grown hg HBb9.out.size (fun k hk => by injection hk with hk; omega))
  have HV0_10 := Lib.hid (HU0_9.out.kept HMb9.out hg)
  have HV5_10 := Lib.hid (HU5_9.out.kept HMb9.out hg)
  have HV6_10 := Lib.hid (HU6_9.out.kept HMb9.out hg)
  have HV9_10 := Lib.hid (HU9_9.out.kept HMb9.out hg)
  clear hrun hM hg HMb9 HBb9 HU0_9 HU5_9 HU6_9 HU9_9
  have HU0_10 := HV0_10
  clear HV0_10
  have HU5_10 := HV5_10
  clear HV5_10
  have HU6_10 := HV6_10
  clear HV6_10
  have HU9_10 := HV9_10
  clear HV9_10
  have HFin : Hid (Table w.heap.size w22 w.heap.size) := Lib.hid (by
    refine ⟨_, HMb10.out, fun k => ?_, fun i v hi hv => ?_⟩
    · unfold putM
      repeat' split
      all_goals simp
      all_goals omega
    · rcases (by omega : i = 0 ∨ i = 1 ∨ i = 2 ∨ i = 3 ∨ i = 4 ∨ i = 5 ∨ i = 6 ∨ i = 7 ∨ i = 8 ∨ i = 9 ∨ i = 10) with rfl | rfl | rfl | rfl | rfl | rfl | rfl | rfl | rfl | rfl | rfl <;> (simp [putM] at hv; subst hv)
      · exact psem0 _ _ _ _ HU0_10.out
      · exact psem1 _ _
      · exact psem2 _ _
      · exact psem3 _ _
      · exact psem4 _ _
      · exact psem5 _ _ _ _ HU5_10.out
      · exact psem6 _ _ _ _ HU6_10.out
      · exact psem7 _ _
      · exact psem8 _ _
      · exact psem9 _ _ _ _ HU9_10.out
      · exact psem10 _ _)
  go_ret
  exact ⟨_, rfl, Nat.le_refl _, HFin.out, HBb10.out⟩
end Go.Proofs.YtjeepmdklbfgeaaDoor
