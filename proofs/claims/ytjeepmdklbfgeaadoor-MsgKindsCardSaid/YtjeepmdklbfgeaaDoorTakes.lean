/-
  The walks of what takes: number, node, know, news, text, lists of them.
-/
import Derived.Test.YtjeepmdklbfgeaaDoorKeep
import Derived.Test.YtjeepmdklbfgeaaDoorLast
namespace Go.Proofs.YtjeepmdklbfgeaaDoor
open Go.Sort Go.RowKit Go.Proofs.YtjeepmdklbfgeaaDoor.Pure Go.Proofs.YtjeepmdklbfgeaaDoor.W Go.Proofs.YtjeepmdklbfgeaaDoor.W.Pure

theorem ret_u64 {a b : Int} (h : a = b) : Ending.returned (.int .u64 a) = .returned (.int .u64 b) := by rw [h]
theorem below_of {P : Program} {f : FuncId} {args : Array Value} {w : World} {v : Value} (h : Calls P f args w fun e w' => e = .returned v ∧ w = w') : Calls P f args w fun e w' => e = .returned v ∧ Below w.heap.size w w' :=
  h.mono fun _ _ h => ⟨h.1, h.2 ▸ Below.refl _ _⟩
theorem took_go {w wz : World} {b : Nat} {s : ByteArray} {t : Tk} (h : TkAt w b s t) (hb : Below w.heap.size w wz) (n : Nat) : Took w b s ⟨n, t.b⟩ (wz.setCell ⟨b, 1, none⟩ (.int .i64 (n : Int))) :=
  ⟨(h.on hb).go n, (Kp.of hb).set (.inl (by simp)) _⟩
theorem took_bad {w wz : World} {b : Nat} {s : ByteArray} {t : Tk} (h : TkAt w b s t) (hb : Below w.heap.size w wz) : Took w b s ⟨t.p, true⟩ (wz.setCell ⟨b, 2, none⟩ (.bool true)) :=
  ⟨(h.on hb).bad, (Kp.of hb).set (.inl (by simp)) _⟩
theorem Took.trans {w w1 w2 : World} {b : Nat} {s : ByteArray} {t t' : Tk} (h : Took w b s t w1) (k : Took w1 b s t' w2) : Took w b s t' w2 :=
  ⟨k.1, h.2.trans (k.2.mono h.2.size (fun _ _ h => h))⟩
set_option maxRecDepth 100000 in
set_option maxHeartbeats 4000000 in
theorem number_any (b most : Nat) (s : ByteArray) (t : Tk) (w : World) (hs : s.size ≤ 140737488351232) (ht : t.p ≤ s.size) (h : TkAt w b s t) :
    Calls Tryd.prog 88 #[.pointer (some ⟨b, 0, none⟩), .int .u64 (most : Int)] w fun e w' => e = .returned (.int .u64 ((tnum s most t).1 : Int)) ∧ Took w b s (tnum s most t).2 w' := by
  obtain ⟨n, p, k, hr⟩ : ∃ n p k, takeL (s.data.toList.drop t.p) 0 0 = (n, p, k) := ⟨_, _, _, rfl⟩
  have HV : Hid (k = 0 → n < 2 ^ 64 ∧ t.p + p ≤ s.size) := Lib.hid (fun hk => by
    subst hk
    have h1 := (takeL_fits (s.data.toList.drop t.p) 0 0 (by rw [hr])).1
    rw [hr, List.length_drop, size_list] at h1
    exact ⟨take_small _ _ _ hr, by simp only [] at h1; omega⟩)
  have HT := Lib.hid (fun W => below_of (take_in s t.p W (by unfold maxLen; omega) ht))
  have HN : Hid (tnum s most t = if k ≠ 0 ∨ most < n then (0, ⟨t.p, true⟩) else (n, ⟨t.p + p, t.b⟩)) := Lib.hid (by unfold tnum; rw [hr])
  have HG := Lib.hid (fun (wz : World) (hb : Below w.heap.size w wz) (q : Nat) => took_go h hb q)
  have HBad := Lib.hid (fun (wz : World) (hb : Below w.heap.size w wz) => took_bad h hb)
  obtain ⟨c0, c1, c2, hf⟩ := h.cells
  have hlt := h.lt
  clear h
  rw [hr] at HT
  clear hr
  obtain ⟨a, x⟩ := t
  simp only [] at *
  by_cases hk : k = 0
  · subst hk
    obtain ⟨hn, hp⟩ := HV.out rfl
    have eV : takeV a (n, p, 0) = .tuple #[.int .u64 (n : Int), .int .i64 ((a + p : Nat) : Int), .int .i64 0] := rfl
    rw [eV] at HT
    clear HV eV
    by_cases hmn : most < n
    · rw [show tnum s most ⟨a, x⟩ = (0, ⟨a, true⟩) by rw [HN.out, if_pos (.inr hmn)]]
      have e1 : decide ((most : Int) < (n : Int)) = true := by simp; omega
      have e1' : decide (most < n) = true := by simpa using hmn
      generalize a + p = q at *
      go_enter Tryd.func88, Tryd.ntmps88
      go_upto_region 1 with (fail)
      have C0 : ∀ pq : Regrown, (grow (redrawn w pq.d) pq.os).cell? ⟨b, 0, none⟩ = some (.string s) := fun pq => cell_regrown c0 pq.d pq.os
      have C1 : ∀ pq : Regrown, (grow (redrawn w pq.d) pq.os).cell? ⟨b, 1, none⟩ = some (.int .i64 (a : Int)) := fun pq => cell_regrown c1 pq.d pq.os
      have HC : Hid (∀ pq : Regrown, Calls Tryd.prog 108 #[.string s, .int .i64 (a : Int)] (grow (redrawn w pq.d) pq.os) fun e w' => e = .returned (.tuple #[.int .u64 (n : Int), .int .i64 (q : Int), .int .i64 0]) ∧ Below (grow (redrawn w pq.d) pq.os).heap.size (grow (redrawn w pq.d) pq.os) w') := Lib.hid (fun pq => HT.out (grow (redrawn w pq.d) pq.os))
      refine q_enter (by kernel_rfl) (by kernel_rfl) ?_
      iterate 16 (refine q_step ?_; intro K hK; go_simp; first | (refine hK _ ?_; clear hK K) | (refine ⟨_, fun pq => Calls.regrown_of (by with_reducible exact HC.out pq), hK _ ?_⟩; clear hK K))
      refine q_nil ?_
      intro wz hbz
      clear C0 C1 HC HT
      have HF := Lib.hid (HBad.out wz hbz)
      have z2 := (hbz.cell (p := ⟨b, 2, none⟩) hlt).trans c2
      have zf := fun o => (World.frozen?_of_block (a := ⟨b, o, none⟩) (hbz.block b hlt)).trans (hf o)
      clear HG HBad HN c0 c1 c2 hf hbz
      go_wp2_with fail
      go_ret
      exact ⟨rfl, HF.out⟩
    · rw [show tnum s most ⟨a, x⟩ = (n, ⟨a + p, x⟩) by rw [HN.out, if_neg (fun e => e.elim (fun e => e rfl) hmn)]]
      have e1 : decide ((most : Int) < (n : Int)) = false := by simp; omega
      have e1' : decide (most < n) = false := by simpa using hmn
      generalize a + p = q at *
      go_enter Tryd.func88, Tryd.ntmps88
      go_upto_region 1 with (fail)
      have C0 : ∀ pq : Regrown, (grow (redrawn w pq.d) pq.os).cell? ⟨b, 0, none⟩ = some (.string s) := fun pq => cell_regrown c0 pq.d pq.os
      have C1 : ∀ pq : Regrown, (grow (redrawn w pq.d) pq.os).cell? ⟨b, 1, none⟩ = some (.int .i64 (a : Int)) := fun pq => cell_regrown c1 pq.d pq.os
      have HC : Hid (∀ pq : Regrown, Calls Tryd.prog 108 #[.string s, .int .i64 (a : Int)] (grow (redrawn w pq.d) pq.os) fun e w' => e = .returned (.tuple #[.int .u64 (n : Int), .int .i64 (q : Int), .int .i64 0]) ∧ Below (grow (redrawn w pq.d) pq.os).heap.size (grow (redrawn w pq.d) pq.os) w') := Lib.hid (fun pq => HT.out (grow (redrawn w pq.d) pq.os))
      refine q_enter (by kernel_rfl) (by kernel_rfl) ?_
      iterate 16 (refine q_step ?_; intro K hK; go_simp; first | (refine hK _ ?_; clear hK K) | (refine ⟨_, fun pq => Calls.regrown_of (by with_reducible exact HC.out pq), hK _ ?_⟩; clear hK K))
      refine q_nil ?_
      intro wz hbz
      clear C0 C1 HC HT
      have HF := Lib.hid (HG.out wz hbz q)
      have z1 := (hbz.cell (p := ⟨b, 1, none⟩) hlt).trans c1
      have zf := fun o => (World.frozen?_of_block (a := ⟨b, o, none⟩) (hbz.block b hlt)).trans (hf o)
      clear HG HBad HN c0 c1 c2 hf hbz
      go_wp2_with fail
      go_ret
      exact ⟨rfl, HF.out⟩
  · rw [show tnum s most ⟨a, x⟩ = (0, ⟨a, true⟩) by rw [HN.out, if_pos (.inl hk)]]
    have eV : takeV a (n, p, k) = .tuple #[.int .u64 (n : Int), .int .i64 0, .int .i64 (k : Int)] := by unfold takeV; rw [if_neg hk]; rfl
    rw [eV] at HT
    have e1 : ((k : Int) == 0) = false := by simp; omega
    have e2 : ((k : Int) != 0) = true := by simp; omega
    have e3 : ¬ ((k : Int) = 0) := by omega
    go_enter Tryd.func88, Tryd.ntmps88
    go_upto_region 1 with (fail)
    have C0 : ∀ pq : Regrown, (grow (redrawn w pq.d) pq.os).cell? ⟨b, 0, none⟩ = some (.string s) := fun pq => cell_regrown c0 pq.d pq.os
    have C1 : ∀ pq : Regrown, (grow (redrawn w pq.d) pq.os).cell? ⟨b, 1, none⟩ = some (.int .i64 (a : Int)) := fun pq => cell_regrown c1 pq.d pq.os
    have HC : Hid (∀ pq : Regrown, Calls Tryd.prog 108 #[.string s, .int .i64 (a : Int)] (grow (redrawn w pq.d) pq.os) fun e w' => e = .returned (.tuple #[.int .u64 (n : Int), .int .i64 0, .int .i64 (k : Int)]) ∧ Below (grow (redrawn w pq.d) pq.os).heap.size (grow (redrawn w pq.d) pq.os) w') := Lib.hid (fun pq => HT.out (grow (redrawn w pq.d) pq.os))
    refine q_enter (by kernel_rfl) (by kernel_rfl) ?_
    iterate 16 (refine q_step ?_; intro K hK; go_simp; first | (refine hK _ ?_; clear hK K) | (refine ⟨_, fun pq => Calls.regrown_of (by with_reducible exact HC.out pq), hK _ ?_⟩; clear hK K))
    refine q_nil ?_
    intro wz hbz
    clear C0 C1 HC HT
    have HF := Lib.hid (HBad.out wz hbz)
    have z2 := (hbz.cell (p := ⟨b, 2, none⟩) hlt).trans c2
    have zf := fun o => (World.frozen?_of_block (a := ⟨b, o, none⟩) (hbz.block b hlt)).trans (hf o)
    clear HG HBad HN HV c0 c1 c2 hf hbz eV
    go_wp2_with fail
    go_ret
    exact ⟨rfl, HF.out⟩
set_option maxRecDepth 100000 in
set_option maxHeartbeats 4000000 in
theorem node_any (b : Nat) (s : ByteArray) (t : Tk) (w : World) (hs : s.size ≤ 140737488351232) (ht : t.p ≤ s.size) (h : TkAt w b s t) :
    Calls Tryd.prog 60 #[.pointer (some ⟨b, 0, none⟩)] w fun e w' => e = .returned (.int .i64 ((tnum s 63 t).1 : Int)) ∧ Took w b s (tnum s 63 t).2 w' := by
  have H1 := Lib.hid (number_any b 63 s t w hs ht h)
  have hm := tnum_most s 63 t
  generalize (tnum s 63 t).1 = n at *
  generalize (tnum s 63 t).2 = t1 at *
  clear h
  go_enter Tryd.func60, Tryd.ntmps60
  go_wp2_with (go_at_call 88; refine H1.out.mono ?_; rintro e w1 ⟨rfl, hT⟩)
  go_ret
  exact ⟨rfl, hT⟩
theorem Took.row {w w1 : World} {b r : Nat} {s : ByteArray} {t : Tk} {cs : List Value} (h : Took w b s t w1) (hr : Row w r cs) (hlt : r < w.heap.size) (hne : b ≠ r) : Row w1 r cs := hr.kp h.2 hlt (by simp; exact fun e => hne e.symm)
set_option maxRecDepth 100000 in
set_option maxHeartbeats 4000000 in
theorem know_any (b : Nat) (s : ByteArray) (t : Tk) (w : World) (hs : s.size ≤ 140737488351232) (ht : t.p ≤ s.size) (h : TkAt w b s t) :
    Calls Tryd.prog 67 #[.pointer (some ⟨b, 0, none⟩)] w fun e w' => e = .returned (.agg #[.int .u64 (tkn s t).1.i, .int .i64 (tkn s t).1.s]) ∧ Took w b s (tkn s t).2 w' := by
  have H1 := Lib.hid (fun W (h : TkAt W b s t) => number_any b 18446744073709551615 s t W hs ht h)
  have H2 := Lib.hid (fun W (h : TkAt W b s (tnum s 18446744073709551615 t).2) => number_any b 3 s _ W hs (tnum_le s _ t ht) h)
  have hm := tnum_most s 3 (tnum s 18446744073709551615 t).2
  have hE : tkn s t = (⟨(tnum s 18446744073709551615 t).1, (tnum s 3 (tnum s 18446744073709551615 t).2).1⟩, (tnum s 3 (tnum s 18446744073709551615 t).2).2) := rfl
  rw [hE]
  clear hE
  simp only []
  generalize (tnum s 3 (tnum s 18446744073709551615 t).2).1 = n2 at *
  generalize (tnum s 3 (tnum s 18446744073709551615 t).2).2 = t2 at *
  generalize (tnum s 18446744073709551615 t).1 = n1 at *
  generalize (tnum s 18446744073709551615 t).2 = t1 at *
  have hlt := h.lt
  have hne : b ≠ w.heap.size := Nat.ne_of_lt hlt
  have R0 := Row.new w #[.int .u64 0, .int .i64 0] 24
  have HT0 := Lib.hid (h.on ((Below.refl w.heap.size w).alloc (Nat.le_refl _) (.cells #[.int .u64 0, .int .i64 0] 24)))
  have HK0 : Hid (Kp w.heap.size [b] w (w.alloc (.cells #[.int .u64 0, .int .i64 0] 24))) := Lib.hid (Kp.of ((Below.refl w.heap.size w).alloc (Nat.le_refl _) _))
  have HR0 := Lib.hid R0
  have z0 : w.heap.size < (w.alloc (.cells #[.int .u64 0, .int .i64 0] 24)).heap.size := by simp
  clear h R0
  go_enter Tryd.func67, Tryd.ntmps67
  go_upto_region 1 with (fail)
  generalize w.alloc (.cells #[.int .u64 0, .int .i64 0] 24) = w0 at *
  go_wp2_with fail
  refine (H1.out _ HT0.out).mono ?_
  rintro e w1 ⟨rfl, hT⟩
  have HR1 := Lib.hid (hT.row HR0.out z0 hne)
  have HK1 := Lib.hid (HK0.out.trans (hT.2.mono (Nat.le_of_lt z0) (fun _ _ h => h)))
  have HT1 := Lib.hid hT.1
  have z1 : w.heap.size < w1.heap.size := Nat.lt_of_lt_of_le z0 hT.2.size
  clear hT HR0 HK0 HT0 H1 z0
  go_wp2_with fail
  refine (H2.out _ HT1.out).mono ?_
  rintro e w2 ⟨rfl, hT⟩
  have HR2 := Lib.hid (hT.row HR1.out z1 hne)
  have HK2 := Lib.hid (HK1.out.trans (hT.2.mono (Nat.le_of_lt z1) (fun _ _ h => h)))
  have HT2 := Lib.hid hT.1
  clear hT HR1 HK1 HT1 H2
  have r0 := HR2.out.at_ 0 _ rfl
  have r1 := HR2.out.at_ 1 _ rfl
  have rf := HR2.out.2
  clear HR2
  go_wp2_with fail
  refine bodyPost_ret (v := .agg #[.int .u64 (n1 : Int), .int .i64 (n2 : Int)]) (by simp [results, Tryd.results67, go_sem, r0, r1]) rfl ⟨rfl, ?_, ?_⟩
  · exact Row.other (Row.other HT2.out hne _) hne _
  · exact (HK2.out.set (.inr (Nat.le_refl _)) _).set (.inr (Nat.le_refl _)) _
set_option maxRecDepth 100000 in
set_option maxHeartbeats 4000000 in
theorem news_any (b : Nat) (s : ByteArray) (t : Tk) (w : World) (hs : s.size ≤ 140737488351232) (ht : t.p ≤ s.size) (h : TkAt w b s t) :
    Calls Tryd.prog 76 #[.pointer (some ⟨b, 0, none⟩)] w fun e w' => e = .returned (.agg #[.int .i64 (tnw s t).1.w, .int .u64 (tnw s t).1.i, .int .i64 (tnw s t).1.s]) ∧ Took w b s (tnw s t).2 w' := by
  have H1 := Lib.hid (fun W (h : TkAt W b s t) => node_any b s t W hs ht h)
  have H2 := Lib.hid (fun W (h : TkAt W b s (tnum s 63 t).2) => know_any b s _ W hs (tnum_le s _ t ht) h)
  have hE : tnw s t = (⟨(tnum s 63 t).1, (tkn s (tnum s 63 t).2).1.i, (tkn s (tnum s 63 t).2).1.s⟩, (tkn s (tnum s 63 t).2).2) := rfl
  rw [hE]
  clear hE
  simp only []
  generalize (tkn s (tnum s 63 t).2).1.i = ki at *
  generalize (tkn s (tnum s 63 t).2).1.s = ks at *
  generalize (tkn s (tnum s 63 t).2).2 = t2 at *
  generalize (tnum s 63 t).1 = n1 at *
  generalize (tnum s 63 t).2 = t1 at *
  have hlt := h.lt
  have hne : b ≠ w.heap.size := Nat.ne_of_lt hlt
  have R0 := Row.new w #[.int .i64 0, .int .u64 0, .int .i64 0] 63
  have HT0 := Lib.hid (h.on ((Below.refl w.heap.size w).alloc (Nat.le_refl _) (.cells #[.int .i64 0, .int .u64 0, .int .i64 0] 63)))
  have HK0 : Hid (Kp w.heap.size [b] w (w.alloc (.cells #[.int .i64 0, .int .u64 0, .int .i64 0] 63))) := Lib.hid (Kp.of ((Below.refl w.heap.size w).alloc (Nat.le_refl _) _))
  have HR0 := Lib.hid R0
  have z0 : w.heap.size < (w.alloc (.cells #[.int .i64 0, .int .u64 0, .int .i64 0] 63)).heap.size := by simp
  clear h R0
  go_enter Tryd.func76, Tryd.ntmps76
  go_upto_region 1 with (fail)
  generalize w.alloc (.cells #[.int .i64 0, .int .u64 0, .int .i64 0] 63) = w0 at *
  go_wp2_with fail
  refine (H1.out _ HT0.out).mono ?_
  rintro e w1 ⟨rfl, hT⟩
  have HR1 := Lib.hid (hT.row HR0.out z0 hne)
  have HK1 := Lib.hid (HK0.out.trans (hT.2.mono (Nat.le_of_lt z0) (fun _ _ h => h)))
  have HT1 := Lib.hid hT.1
  have z1 : w.heap.size < w1.heap.size := Nat.lt_of_lt_of_le z0 hT.2.size
  clear hT HR0 HK0 HT0 H1 z0
  go_wp2_with fail
  refine (H2.out _ HT1.out).mono ?_
  rintro e w2 ⟨rfl, hT⟩
  have HR2 := Lib.hid (hT.row HR1.out z1 hne)
  have HK2 := Lib.hid (HK1.out.trans (hT.2.mono (Nat.le_of_lt z1) (fun _ _ h => h)))
  have HT2 := Lib.hid hT.1
  clear hT HR1 HK1 HT1 H2
  have r0 := HR2.out.at_ 0 _ rfl
  have r1 := HR2.out.at_ 1 _ rfl
  have r2 := HR2.out.at_ 2 _ rfl
  have rf := HR2.out.2
  clear HR2
  go_wp2_with fail
  refine bodyPost_ret (v := .agg #[.int .i64 (n1 : Int), .int .u64 ki, .int .i64 ks]) (by simp [results, Tryd.results76, go_sem, r0, r1, r2]) rfl ⟨rfl, ?_, ?_⟩
  · exact Row.other (Row.other (Row.other HT2.out hne _) hne _) hne _
  · exact ((HK2.out.set (.inr (Nat.le_refl _)) _).set (.inr (Nat.le_refl _)) _).set (.inr (Nat.le_refl _)) _
set_option maxRecDepth 100000 in
set_option maxHeartbeats 4000000 in
theorem text_any (b : Nat) (s : ByteArray) (t : Tk) (w : World) (hs : s.size ≤ 140737488351232) (ht : t.p ≤ s.size) (h : TkAt w b s t) :
    Calls Tryd.prog 94 #[.pointer (some ⟨b, 0, none⟩)] w fun e w' => e = .returned (.string (ttx s t).1) ∧ Took w b s (ttx s t).2 w' := by
  obtain ⟨z, q, k, hr⟩ : ∃ z q k, textL s t.p (takeL (s.data.toList.drop t.p) 0 0) = (z, q, k) := ⟨_, _, _, rfl⟩
  have HT := Lib.hid (fun W => below_of (taketext_in s t.p W hs ht))
  have HN : Hid (ttx s t = if k ≠ 0 then (⟨#[]⟩, ⟨t.p, true⟩) else (z, ⟨q, t.b⟩)) := Lib.hid (by unfold ttx; rw [hr])
  have HG := Lib.hid (fun (wz : World) (hb : Below w.heap.size w wz) (q : Nat) => took_go h hb q)
  have HBad := Lib.hid (fun (wz : World) (hb : Below w.heap.size w wz) => took_bad h hb)
  obtain ⟨c0, c1, c2, hf⟩ := h.cells
  have hlt := h.lt
  clear h
  rw [hr] at HT
  clear hr
  obtain ⟨a, x⟩ := t
  simp only [] at *
  unfold textV at HT
  simp only [] at HT
  by_cases hk : k = 0
  · subst hk
    rw [show ttx s ⟨a, x⟩ = (z, ⟨q, x⟩) by rw [HN.out, if_neg (by simp)]]
    go_enter Tryd.func94, Tryd.ntmps94
    go_upto_region 1 with (fail)
    have C0 : ∀ pq : Regrown, (grow (redrawn w pq.d) pq.os).cell? ⟨b, 0, none⟩ = some (.string s) := fun pq => cell_regrown c0 pq.d pq.os
    have C1 : ∀ pq : Regrown, (grow (redrawn w pq.d) pq.os).cell? ⟨b, 1, none⟩ = some (.int .i64 (a : Int)) := fun pq => cell_regrown c1 pq.d pq.os
    have HC : Hid (∀ pq : Regrown, Calls Tryd.prog 110 #[.string s, .int .i64 (a : Int)] (grow (redrawn w pq.d) pq.os) fun e w' => e = .returned (.tuple #[.string z, .int .i64 (q : Int), .int .i64 0]) ∧ Below (grow (redrawn w pq.d) pq.os).heap.size (grow (redrawn w pq.d) pq.os) w') := Lib.hid (fun pq => HT.out (grow (redrawn w pq.d) pq.os))
    refine q_enter (by kernel_rfl) (by kernel_rfl) ?_
    iterate 16 (refine q_step ?_; intro K hK; go_simp; first | (refine hK _ ?_; clear hK K) | (refine ⟨_, fun pq => Calls.regrown_of (by with_reducible exact HC.out pq), hK _ ?_⟩; clear hK K))
    refine q_nil ?_
    intro wz hbz
    clear C0 C1 HC HT
    have HF := Lib.hid (HG.out wz hbz q)
    have z1 := (hbz.cell (p := ⟨b, 1, none⟩) hlt).trans c1
    have zf := fun o => (World.frozen?_of_block (a := ⟨b, o, none⟩) (hbz.block b hlt)).trans (hf o)
    clear HG HBad HN c0 c1 c2 hf hbz
    go_wp2_with fail
    go_ret
    exact ⟨rfl, HF.out⟩
  · rw [show ttx s ⟨a, x⟩ = (⟨#[]⟩, ⟨a, true⟩) by rw [HN.out, if_pos hk]]
    have e1 : ((k : Int) == 0) = false := by simp; omega
    have e2 : ((k : Int) != 0) = true := by simp; omega
    have e3 : ¬ ((k : Int) = 0) := by omega
    go_enter Tryd.func94, Tryd.ntmps94
    go_upto_region 1 with (fail)
    have C0 : ∀ pq : Regrown, (grow (redrawn w pq.d) pq.os).cell? ⟨b, 0, none⟩ = some (.string s) := fun pq => cell_regrown c0 pq.d pq.os
    have C1 : ∀ pq : Regrown, (grow (redrawn w pq.d) pq.os).cell? ⟨b, 1, none⟩ = some (.int .i64 (a : Int)) := fun pq => cell_regrown c1 pq.d pq.os
    have HC : Hid (∀ pq : Regrown, Calls Tryd.prog 110 #[.string s, .int .i64 (a : Int)] (grow (redrawn w pq.d) pq.os) fun e w' => e = .returned (.tuple #[.string z, .int .i64 (q : Int), .int .i64 (k : Int)]) ∧ Below (grow (redrawn w pq.d) pq.os).heap.size (grow (redrawn w pq.d) pq.os) w') := Lib.hid (fun pq => HT.out (grow (redrawn w pq.d) pq.os))
    refine q_enter (by kernel_rfl) (by kernel_rfl) ?_
    iterate 16 (refine q_step ?_; intro K hK; go_simp; first | (refine hK _ ?_; clear hK K) | (refine ⟨_, fun pq => Calls.regrown_of (by with_reducible exact HC.out pq), hK _ ?_⟩; clear hK K))
    refine q_nil ?_
    intro wz hbz
    clear C0 C1 HC HT
    have HF := Lib.hid (HBad.out wz hbz)
    have z2 := (hbz.cell (p := ⟨b, 2, none⟩) hlt).trans c2
    have zf := fun o => (World.frozen?_of_block (a := ⟨b, o, none⟩) (hbz.block b hlt)).trans (hf o)
    clear HG HBad HN c0 c1 c2 hf hbz
    go_wp2_with fail
    go_ret
    exact ⟨rfl, HF.out⟩
end Go.Proofs.YtjeepmdklbfgeaaDoor
