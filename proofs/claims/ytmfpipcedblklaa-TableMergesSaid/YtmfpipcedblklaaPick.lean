/-
  The walks of checkCount, Check and checkBoth, of the closures, of places, nodes, Up, Others, Behind and Lowest.
-/
import Derived.Test.YtmfpipcedblklaaRow
namespace Go.Proofs.Ytmfpipcedblklaa
open Go.Sort Go.RowKit Go.Proofs.Ytmfpipcedblklaa.Pure

set_option maxRecDepth 100000 in
set_option maxHeartbeats 1000000 in
theorem count_any (n : Int) (w : World) : Calls Try.prog 32 #[.int .i64 n] w fun e w' => e = .returned (.int .i64 (okE (decide (1 ≤ n ∧ n ≤ 64)))) ∧ w = w' := by
  have ho : okE true = 0 := rfl
  have hz : okE false = 1 := rfl
  by_cases h0 : n < 1
  · have e0 : decide (n < 1) = true := by simpa using h0
    have e : decide (1 ≤ n ∧ n ≤ 64) = false := by simp; omega
    rw [e, hz]
    clear e h0
    go_enter Try.func32, Try.ntmps32
    go_wp2
    go_ret
    exact ⟨rfl, rfl⟩
  · have e0 : decide (n < 1) = false := by simpa using h0
    by_cases h1 : 64 < n
    · have e1 : decide (64 < n) = true := by simpa using h1
      have e : decide (1 ≤ n ∧ n ≤ 64) = false := by simp; omega
      rw [e, hz]
      clear e h0 h1
      go_enter Try.func32, Try.ntmps32
      go_wp2
      go_ret
      exact ⟨rfl, rfl⟩
    · have e1 : decide (64 < n) = false := by simpa using h1
      have e : decide (1 ≤ n ∧ n ≤ 64) = true := by simp; omega
      rw [e, ho]
      clear e h0 h1
      go_enter Try.func32, Try.ntmps32
      go_wp2
      go_ret
      exact ⟨rfl, rfl⟩

set_option maxRecDepth 100000 in
set_option maxHeartbeats 1000000 in
theorem tcheck_any (A : Option Addr) (c : Nat) (l : List Kn) (w : World) (hn : l.length ≤ 1000) (h : Lst w A l) (L : Bool) (hL : mayT l = L) :
    Calls Try.prog 16 #[.slice A l.length c] w fun e w' => e = .returned (.int .i64 (okE L)) ∧ Below w.heap.size w w' := by
  have HC := Lib.hid (count_any (l.length : Int) w)
  have ho : okE true = 0 := rfl
  have hz : okE false = 1 := rfl
  by_cases hc : 1 ≤ l.length ∧ l.length ≤ 64
  · have e : decide ((1 : Int) ≤ (l.length : Int) ∧ (l.length : Int) ≤ 64) = true := by simp; omega
    have HK := Lib.hid (check_any A c l w hn h L (by rw [← hL]; simp [mayT, hc.1, hc.2]))
    rw [e, ho] at HC
    clear e hc h hL
    generalize l.length = n at *
    go_enter Try.func16, Try.ntmps16
    go_wp2_with fail
    refine HC.out.mono ?_
    rintro e w' ⟨rfl, rfl⟩
    go_wp2_with fail
    refine HK.out.mono ?_
    rintro e w1 ⟨rfl, hb⟩
    have HB := Lib.hid hb
    clear hb
    go_wp2_with fail
    go_ret
    exact ⟨rfl, HB.out⟩
  · have e : decide ((1 : Int) ≤ (l.length : Int) ∧ (l.length : Int) ≤ 64) = false := by simp; omega
    have hLf : L = false := by rw [← hL]; exact Bool.eq_false_iff.2 fun h => hc ⟨((mayT_iff l).1 h).1, ((mayT_iff l).1 h).2.1⟩
    subst hLf
    rw [e, hz] at HC
    rw [hz]
    clear e hc h hL
    generalize l.length = n at *
    go_enter Try.func16, Try.ntmps16
    go_wp2_with fail
    refine HC.out.mono ?_
    rintro e w' ⟨rfl, rfl⟩
    go_wp2_with fail
    go_ret
    exact ⟨rfl, Below.refl _ _⟩

/-- Two tables of the same nodes, each of which may be. -/
def both (t o : List Kn) : Bool := decide (t.length = o.length) && (mayT t && mayT o)
set_option maxRecDepth 100000 in
set_option maxHeartbeats 1000000 in
theorem both_any (A A' : Option Addr) (c c' : Nat) (t o : List Kn) (w : World) (hn : t.length ≤ 1000) (hn' : o.length ≤ 1000) (h : Lst w A t) (h' : Lst w A' o) (L : Bool) (hL : both t o = L) :
    Calls Try.prog 36 #[.slice A t.length c, .slice A' o.length c'] w fun e w' => e = .returned (.int .i64 (okE L)) ∧ Below w.heap.size w w' := by
  have ho : okE true = 0 := rfl
  have hz : okE false = 1 := rfl
  by_cases hl : t.length = o.length
  · have HK := Lib.hid (tcheck_any A c t w hn h _ rfl)
    have HK' : Hid (∀ W, Below w.heap.size w W → Calls Try.prog 16 #[.slice A' o.length c'] W fun e w' => e = .returned (.int .i64 (okE (mayT o))) ∧ Below W.heap.size W w') := Lib.hid fun W hb => tcheck_any A' c' o W hn' (h'.on hb) _ rfl
    have hE : L = (mayT t && mayT o) := by rw [← hL]; simp [both, hl]
    subst hE
    clear hL h h'
    generalize mayT t = M at *
    generalize mayT o = M' at *
    rw [← hl] at HK' ⊢
    generalize t.length = n at *
    clear hl
    go_enter Try.func36, Try.ntmps36
    go_wp2_with fail
    refine HK.out.mono ?_
    rintro e w1 ⟨rfl, hb⟩
    have HB := Lib.hid hb
    clear hb
    rcases M with _ | _
    · rw [hz]
      go_wp2_with fail
      go_ret
      exact ⟨rfl, HB.out⟩
    · rw [ho]
      go_wp2_with fail
      refine (HK'.out _ HB.out).mono ?_
      rintro e w2 ⟨rfl, hb2⟩
      have HB2 : Hid (Below w.heap.size w w2) := Lib.hid (HB.out.trans (hb2.mono HB.out.size))
      clear hb2
      go_wp2_with fail
      go_ret
      exact ⟨by simp, HB2.out⟩
  · have e0 : ((t.length : Int) == (o.length : Int)) = false := by simp; omega
    have hLf : L = false := by rw [← hL]; simp [both, hl]
    subst hLf
    rw [hz]
    clear hL h h'
    generalize t.length = n at *
    generalize o.length = n' at *
    clear hl
    go_enter Try.func36, Try.ntmps36
    go_wp2_with fail
    go_ret
    exact ⟨rfl, Below.refl _ _⟩

/-! ### the closures -/
set_option maxRecDepth 100000 in
set_option maxHeartbeats 1000000 in
theorem upc_any (j : Int) (x : Kn) (w : World) : Calls Try.prog 43 #[.int .i64 j, .agg #[.int .u64 x.i, .int .i64 x.s]] w fun e w' => e = .returned (.bool (x.s == 0 || x.s == 1)) ∧ Below w.heap.size w w' := by
  have HU := Lib.hid (fun W => up_any x W)
  have BX := Lib.hid (Bx.new w x 25)
  have HB : Hid (Below w.heap.size w (w.alloc (.cells #[.int .u64 x.i, .int .i64 x.s] 25))) := Lib.hid ((Below.refl _ _).alloc (Nat.le_refl _) _)
  generalize (x.s == 0 || x.s == 1) = V at *
  go_enter Try.func43, Try.ntmps43
  go_upto_region 1 with (fail)
  generalize w.alloc (.cells #[.int .u64 x.i, .int .i64 x.s] 25) = w2 at *
  obtain ⟨u0, u1⟩ := BX.out
  go_wp2_with fail
  refine (HU.out _).mono ?_
  rintro e w3 ⟨rfl, hb3⟩
  have HB3 : Hid (Below w.heap.size w w3) := Lib.hid (HB.out.trans (hb3.mono HB.out.size))
  clear hb3 u0 u1
  go_wp2_with fail
  go_ret
  exact ⟨rfl, HB3.out⟩

set_option maxRecDepth 100000 in
set_option maxHeartbeats 1000000 in
theorem othc_any (j me : Int) (b : Nat) (x : Kn) (w : World) (hc : w.cell? ⟨b, 0, none⟩ = some (.int .i64 me)) : Calls Try.prog 45 #[.int .i64 j, .agg #[.int .u64 x.i, .int .i64 x.s], .pointer (some ⟨b, 0, none⟩)] w fun e w' => e = .returned (.bool (!(j == me) && !(x.s == 3))) ∧ Below w.heap.size w w' := by
  have hlt := World.block_lt_of_cell? w _ hc
  have HM : Hid ((w.alloc (.cells #[.int .u64 x.i, .int .i64 x.s] 25)).cell? ⟨b, 0, none⟩ = some (.int .i64 me)) := Lib.hid ((((Below.refl w.heap.size w).alloc (Nat.le_refl _) _).cell hlt).trans hc)
  have BX := Lib.hid (Bx.new w x 25)
  have HB : Hid (Below w.heap.size w (w.alloc (.cells #[.int .u64 x.i, .int .i64 x.s] 25))) := Lib.hid ((Below.refl _ _).alloc (Nat.le_refl _) _)
  clear hc hlt
  obtain ⟨xi, xs⟩ := x
  simp only at *
  go_enter Try.func45, Try.ntmps45
  go_upto_region 1 with (fail)
  generalize w.alloc (.cells #[.int .u64 xi, .int .i64 xs] 25) = w2 at *
  obtain ⟨u0, u1⟩ := BX.out
  have m0 := HM.out
  simp only at u0 u1
  by_cases e0 : j = me
  · go_wp2_with fail
    go_ret
    exact ⟨by simp [e0], HB.out⟩
  · go_wp2_with fail
    go_ret
    exact ⟨by simp [bne], HB.out⟩

set_option maxRecDepth 100000 in
set_option maxHeartbeats 1000000 in
theorem behc_any (k : Nat) (b : Nat) (A : Option Addr) (c : Nat) (t : List Kn) (x : Kn) (w : World) (hk : k < t.length) (h : Lst w A t) (hc : w.cell? ⟨b, 0, none⟩ = some (.slice A t.length c)) :
    Calls Try.prog 38 #[.int .i64 k, .agg #[.int .u64 x.i, .int .i64 x.s], .pointer (some ⟨b, 0, none⟩)] w fun e w' => e = .returned (.bool (beatsB x (kn t k))) ∧ Below w.heap.size w w' := by
  obtain ⟨ad, rfl, hlo, h1⟩ := (h.alloc (.cells #[.int .u64 x.i, .int .i64 x.s] 25)) k hk
  obtain ⟨a0, a1⟩ := h1.flat
  have hlt := World.block_lt_of_cell? w _ hc
  have hcc : (w.alloc (.cells #[.int .u64 x.i, .int .i64 x.s] 25)).cell? ⟨b, 0, none⟩ = some (.slice (some ad) t.length c) := (((Below.refl w.heap.size w).alloc (Nat.le_refl _) _).cell hlt).trans hc
  have HC : Hid (∀ (W : World) (p : Regrown), Calls Try.prog 39 #[.agg #[.int .u64 x.i, .int .i64 x.s], .agg #[.int .u64 (kn t k).i, .int .i64 (kn t k).s]] (grow (redrawn W p.d) p.os) fun e w' => e = .returned (.bool (beatsB x (kn t k))) ∧ Below (grow (redrawn W p.d) p.os).heap.size (grow (redrawn W p.d) p.os) w') := Lib.hid fun W p => beats_any x (kn t k) _
  obtain ⟨u0, u1⟩ := Bx.new w x 25
  have HB : Hid (Below w.heap.size w (w.alloc (.cells #[.int .u64 x.i, .int .i64 x.s] 25))) := Lib.hid ((Below.refl _ _).alloc (Nat.le_refl _) _)
  have k1 : (k : Int) < (t.length : Int) := by omega
  have k0 : (0 : Int) ≤ (k : Int) := by omega
  generalize t.length = n at *
  generalize beatsB x (kn t k) = V at *
  generalize kn t k = y at *
  clear h h1 hc hlt
  go_enter Try.func38, Try.ntmps38
  go_upto_region 1 with (fail)
  generalize w.alloc (.cells #[.int .u64 x.i, .int .i64 x.s] 25) = w2 at *
  have A0 := fun d os => cell_regrown a0 d os
  have A1 := fun d os => cell_regrown a1 d os
  have U0 := fun d os => cell_regrown u0 d os
  have U1 := fun d os => cell_regrown u1 d os
  have C0 := fun d os => cell_regrown hcc d os
  clear a0 a1 u0 u1 hcc
  refine q_enter (by kernel_rfl) (by kernel_rfl) ?_
  iterate 7 (refine q_step ?_; intro K hK; go_simp; first | (refine hK _ ?_; clear hK K) | (refine ⟨_, fun p => Calls.regrown_of (by with_reducible exact HC.out _ p), hK _ ?_⟩; clear hK K))
  refine q_nil ?_
  intro wz hbz
  have HZ : Hid (Below w.heap.size w wz) := Lib.hid (HB.out.trans (hbz.mono HB.out.size))
  clear hbz A0 A1 U0 U1 C0
  go_wp2_with fail
  go_ret
  exact ⟨rfl, HZ.out⟩

/-! ### places -/
/-- A call answers the nodes ys. -/
def Nodes (w : World) (ys : List Nat) (e : Ending) (w' : World) : Prop :=
  ∃ A c, e = .returned (.slice A ys.length c) ∧ Ns w' A ys ∧ Below w.heap.size w w'
theorem nodes_nil (w : World) {w' : World} (hb : Below w.heap.size w w') : Nodes w [] (.returned (.slice none 0 0)) w' := ⟨none, 0, rfl, Ns.nil _ _, hb⟩
theorem OwnN.nodes {w w' : World} {v : Value} {ys : List Nat} (h : OwnN w' w.heap.size v ys) (hb : Below w.heap.size w w') : Nodes w ys (.returned v) w' := by
  obtain ⟨A, c, rfl, _, hn⟩ := h.ns
  exact ⟨A, c, rfl, hn, hb⟩
/-- The same, and an error. -/
def NodesE (w : World) (ys : List Nat) (er : Int) (e : Ending) (w' : World) : Prop :=
  ∃ A c, e = .returned (.tuple #[.slice A ys.length c, .int .i64 er]) ∧ Ns w' A ys ∧ Below w.heap.size w w'

set_option maxRecDepth 100000 in
set_option maxHeartbeats 2000000 in
theorem places_up (A : Option Addr) (c : Nat) (l : List Kn) (p : Nat → Bool) (w : World) (hn : l.length ≤ 1000) (h : Lst w A l)
    (hp : ∀ (W : World) (k : Nat), Below w.heap.size w W → k < l.length → Calls Try.prog 43 #[.int .i64 k, .agg #[.int .u64 (kn l k).i, .int .i64 (kn l k).s]] W fun e w' => e = .returned (.bool (p k)) ∧ Below W.heap.size W w') :
    Calls Try.prog 37 #[.slice A l.length c, .func (.func 43) #[] #[]] w (Nodes w (pick p l.length)) := by
  have H := Lib.hid h
  have HP := Lib.hid hp
  have HM : Hid (∀ (v : Value) (W : World), OwnN W w.heap.size v (pick p l.length) → Below w.heap.size w W → Nodes w (pick p l.length) (.returned v) W) := Lib.hid fun v W ho hb => ho.nodes hb
  clear h hp
  go_enter Try.func37, Try.ntmps37
  go_wp2_with fail
  go_loopw [5, 10] (fun v i wr => ∃ k : Nat, i = .int .i64 k ∧ k ≤ l.length ∧ Hid (OwnN wr w.heap.size v (pick p k)) ∧ Hid (Below w.heap.size w wr)) (fun _ i _ => l.length - (intOf i).toNat)
  case atStart => exact ⟨0, by go_num, Nat.zero_le _, Lib.hid (OwnN.nil _ _), Lib.hid (Below.refl _ _)⟩
  case round =>
    obtain ⟨k, rfl, hk, ho, hb⟩ := hrel
    by_cases hlt : k < l.length
    · obtain ⟨ad, rfl, hlo, h1⟩ := (H.out.on hb.out) k hlt
      obtain ⟨a0, a1⟩ := h1.flat
      have HPk := Lib.hid (fun W hb => HP.out W k hb hlt)
      have k0 : (0 : Int) ≤ (k : Int) := by omega
      have k1 : (k : Int) < (l.length : Int) := by omega
      have hsz := hb.out.size
      have HF := Lib.hid (pick_succ p k)
      have hfl := pick_length p k
      have HB1 : Hid (Below w.heap.size w (wr.alloc (.cells #[.int .u64 (kn l k).i, .int .i64 (kn l k).s] 25))) := Lib.hid (hb.out.alloc hsz _)
      have HO1 := Lib.hid (ho.out.alloc (.cells #[.int .u64 (kn l k).i, .int .i64 (kn l k).s] 25))
      have HX1 := Lib.hid (Bx.new wr (kn l k) 25)
      generalize pick p k = F at *
      generalize kn l k = x at *
      generalize l.length = n at *
      clear h1 ho hb
      go_upto_region 5 with (fail)
      generalize wr.alloc (.cells #[.int .u64 x.i, .int .i64 x.s] 25) = w2 at *
      generalize wr.heap.size = g at *
      obtain ⟨x0, x1⟩ := HX1.out
      go_wp2_with fail
      refine (HPk.out _ HB1.out).mono ?_
      rintro e w3 ⟨rfl, hb3⟩
      have HB3 : Hid (Below w.heap.size w w3) := Lib.hid (HB1.out.trans (hb3.mono HB1.out.size))
      have HO3 := Lib.hid (HO1.out.on hb3)
      have hz3 := HB3.out.size
      clear hb3 HO1 HX1 x0 x1 a0 a1
      generalize p k = P at *
      rcases P with _ | _
      · have HO4 : Hid (OwnN w3 w.heap.size _ (pick p (k + 1))) := Lib.hid (by rw [HF.out]; simpa using HO3.out)
        go_wp2_with fail
        go_roundw
        case rel => exact ⟨k + 1, by go_num, by omega, HO4, HB3⟩
        case measure => simp [intOf]; omega
      · go_wp2_with (at_builtin; refine wpList_append_node rfl _ _ rfl w.heap.size _ F rfl ?c1 ⟨w3.heap.size, 0, none⟩ 1 k rfl ?c2 ?c3 ?c4 ?_)
        case c1 => exact HO3.out.alloc _
        case c2 => go_simp
        case c3 => omega
        case c4 => simp; omega
        intro v' w4 hown4 hgrow4
        have HO4 : Hid (OwnN w4 w.heap.size v' (pick p (k + 1))) := Lib.hid (by rw [HF.out]; exact hown4)
        have HB4 : Hid (Below w.heap.size w w4) := Lib.hid ((HB3.out.alloc hz3 _).grown hgrow4 (by simp; omega) (fun k hk => (HO3.out.ge k hk).1))
        clear hown4 hgrow4 HO3 HB3
        go_wp2_with fail
        go_roundw
        case rel => exact ⟨k + 1, by go_num, by omega, HO4, HB4⟩
        case measure => simp [intOf]; omega
    · obtain rfl : k = l.length := by omega
      have HE := Lib.hid (HM.out _ _ ho.out hb.out)
      clear ho hb HM HP H
      generalize pick p l.length = F at *
      generalize l.length = n at *
      go_wp2_with fail
      go_ret
      exact HE.out

set_option maxRecDepth 100000 in
set_option maxHeartbeats 2000000 in
theorem places_oth (b : Nat) (A : Option Addr) (c : Nat) (l : List Kn) (p : Nat → Bool) (w : World) (hn : l.length ≤ 1000) (h : Lst w A l)
    (hp : ∀ (W : World) (k : Nat), Below w.heap.size w W → k < l.length → Calls Try.prog 45 #[.int .i64 k, .agg #[.int .u64 (kn l k).i, .int .i64 (kn l k).s], .pointer (some ⟨b, 0, none⟩)] W fun e w' => e = .returned (.bool (p k)) ∧ Below W.heap.size W w') :
    Calls Try.prog 37 #[.slice A l.length c, .func (.func 45) #[] #[.pointer (some ⟨b, 0, none⟩)]] w (Nodes w (pick p l.length)) := by
  have H := Lib.hid h
  have HP := Lib.hid hp
  have HM : Hid (∀ (v : Value) (W : World), OwnN W w.heap.size v (pick p l.length) → Below w.heap.size w W → Nodes w (pick p l.length) (.returned v) W) := Lib.hid fun v W ho hb => ho.nodes hb
  clear h hp
  go_enter Try.func37, Try.ntmps37
  go_wp2_with fail
  go_loopw [5, 10] (fun v i wr => ∃ k : Nat, i = .int .i64 k ∧ k ≤ l.length ∧ Hid (OwnN wr w.heap.size v (pick p k)) ∧ Hid (Below w.heap.size w wr)) (fun _ i _ => l.length - (intOf i).toNat)
  case atStart => exact ⟨0, by go_num, Nat.zero_le _, Lib.hid (OwnN.nil _ _), Lib.hid (Below.refl _ _)⟩
  case round =>
    obtain ⟨k, rfl, hk, ho, hb⟩ := hrel
    by_cases hlt : k < l.length
    · obtain ⟨ad, rfl, hlo, h1⟩ := (H.out.on hb.out) k hlt
      obtain ⟨a0, a1⟩ := h1.flat
      have HPk := Lib.hid (fun W hb => HP.out W k hb hlt)
      have k0 : (0 : Int) ≤ (k : Int) := by omega
      have k1 : (k : Int) < (l.length : Int) := by omega
      have hsz := hb.out.size
      have HF := Lib.hid (pick_succ p k)
      have hfl := pick_length p k
      have HB1 : Hid (Below w.heap.size w (wr.alloc (.cells #[.int .u64 (kn l k).i, .int .i64 (kn l k).s] 25))) := Lib.hid (hb.out.alloc hsz _)
      have HO1 := Lib.hid (ho.out.alloc (.cells #[.int .u64 (kn l k).i, .int .i64 (kn l k).s] 25))
      have HX1 := Lib.hid (Bx.new wr (kn l k) 25)
      generalize pick p k = F at *
      generalize kn l k = x at *
      generalize l.length = n at *
      clear h1 ho hb
      go_upto_region 5 with (fail)
      generalize wr.alloc (.cells #[.int .u64 x.i, .int .i64 x.s] 25) = w2 at *
      generalize wr.heap.size = g at *
      obtain ⟨x0, x1⟩ := HX1.out
      go_wp2_with fail
      refine (HPk.out _ HB1.out).mono ?_
      rintro e w3 ⟨rfl, hb3⟩
      have HB3 : Hid (Below w.heap.size w w3) := Lib.hid (HB1.out.trans (hb3.mono HB1.out.size))
      have HO3 := Lib.hid (HO1.out.on hb3)
      have hz3 := HB3.out.size
      clear hb3 HO1 HX1 x0 x1 a0 a1
      generalize p k = P at *
      rcases P with _ | _
      · have HO4 : Hid (OwnN w3 w.heap.size _ (pick p (k + 1))) := Lib.hid (by rw [HF.out]; simpa using HO3.out)
        go_wp2_with fail
        go_roundw
        case rel => exact ⟨k + 1, by go_num, by omega, HO4, HB3⟩
        case measure => simp [intOf]; omega
      · go_wp2_with (at_builtin; refine wpList_append_node rfl _ _ rfl w.heap.size _ F rfl ?c1 ⟨w3.heap.size, 0, none⟩ 1 k rfl ?c2 ?c3 ?c4 ?_)
        case c1 => exact HO3.out.alloc _
        case c2 => go_simp
        case c3 => omega
        case c4 => simp; omega
        intro v' w4 hown4 hgrow4
        have HO4 : Hid (OwnN w4 w.heap.size v' (pick p (k + 1))) := Lib.hid (by rw [HF.out]; exact hown4)
        have HB4 : Hid (Below w.heap.size w w4) := Lib.hid ((HB3.out.alloc hz3 _).grown hgrow4 (by simp; omega) (fun k hk => (HO3.out.ge k hk).1))
        clear hown4 hgrow4 HO3 HB3
        go_wp2_with fail
        go_roundw
        case rel => exact ⟨k + 1, by go_num, by omega, HO4, HB4⟩
        case measure => simp [intOf]; omega
    · obtain rfl : k = l.length := by omega
      have HE := Lib.hid (HM.out _ _ ho.out hb.out)
      clear ho hb HM HP H
      generalize pick p l.length = F at *
      generalize l.length = n at *
      go_wp2_with fail
      go_ret
      exact HE.out

set_option maxRecDepth 100000 in
set_option maxHeartbeats 2000000 in
theorem places_beh (b : Nat) (A : Option Addr) (c : Nat) (l : List Kn) (p : Nat → Bool) (w : World) (hn : l.length ≤ 1000) (h : Lst w A l)
    (hp : ∀ (W : World) (k : Nat), Below w.heap.size w W → k < l.length → Calls Try.prog 38 #[.int .i64 k, .agg #[.int .u64 (kn l k).i, .int .i64 (kn l k).s], .pointer (some ⟨b, 0, none⟩)] W fun e w' => e = .returned (.bool (p k)) ∧ Below W.heap.size W w') :
    Calls Try.prog 37 #[.slice A l.length c, .func (.func 38) #[] #[.pointer (some ⟨b, 0, none⟩)]] w (Nodes w (pick p l.length)) := by
  have H := Lib.hid h
  have HP := Lib.hid hp
  have HM : Hid (∀ (v : Value) (W : World), OwnN W w.heap.size v (pick p l.length) → Below w.heap.size w W → Nodes w (pick p l.length) (.returned v) W) := Lib.hid fun v W ho hb => ho.nodes hb
  clear h hp
  go_enter Try.func37, Try.ntmps37
  go_wp2_with fail
  go_loopw [5, 10] (fun v i wr => ∃ k : Nat, i = .int .i64 k ∧ k ≤ l.length ∧ Hid (OwnN wr w.heap.size v (pick p k)) ∧ Hid (Below w.heap.size w wr)) (fun _ i _ => l.length - (intOf i).toNat)
  case atStart => exact ⟨0, by go_num, Nat.zero_le _, Lib.hid (OwnN.nil _ _), Lib.hid (Below.refl _ _)⟩
  case round =>
    obtain ⟨k, rfl, hk, ho, hb⟩ := hrel
    by_cases hlt : k < l.length
    · obtain ⟨ad, rfl, hlo, h1⟩ := (H.out.on hb.out) k hlt
      obtain ⟨a0, a1⟩ := h1.flat
      have HPk := Lib.hid (fun W hb => HP.out W k hb hlt)
      have k0 : (0 : Int) ≤ (k : Int) := by omega
      have k1 : (k : Int) < (l.length : Int) := by omega
      have hsz := hb.out.size
      have HF := Lib.hid (pick_succ p k)
      have hfl := pick_length p k
      have HB1 : Hid (Below w.heap.size w (wr.alloc (.cells #[.int .u64 (kn l k).i, .int .i64 (kn l k).s] 25))) := Lib.hid (hb.out.alloc hsz _)
      have HO1 := Lib.hid (ho.out.alloc (.cells #[.int .u64 (kn l k).i, .int .i64 (kn l k).s] 25))
      have HX1 := Lib.hid (Bx.new wr (kn l k) 25)
      generalize pick p k = F at *
      generalize kn l k = x at *
      generalize l.length = n at *
      clear h1 ho hb
      go_upto_region 5 with (fail)
      generalize wr.alloc (.cells #[.int .u64 x.i, .int .i64 x.s] 25) = w2 at *
      generalize wr.heap.size = g at *
      obtain ⟨x0, x1⟩ := HX1.out
      go_wp2_with fail
      refine (HPk.out _ HB1.out).mono ?_
      rintro e w3 ⟨rfl, hb3⟩
      have HB3 : Hid (Below w.heap.size w w3) := Lib.hid (HB1.out.trans (hb3.mono HB1.out.size))
      have HO3 := Lib.hid (HO1.out.on hb3)
      have hz3 := HB3.out.size
      clear hb3 HO1 HX1 x0 x1 a0 a1
      generalize p k = P at *
      rcases P with _ | _
      · have HO4 : Hid (OwnN w3 w.heap.size _ (pick p (k + 1))) := Lib.hid (by rw [HF.out]; simpa using HO3.out)
        go_wp2_with fail
        go_roundw
        case rel => exact ⟨k + 1, by go_num, by omega, HO4, HB3⟩
        case measure => simp [intOf]; omega
      · go_wp2_with (at_builtin; refine wpList_append_node rfl _ _ rfl w.heap.size _ F rfl ?c1 ⟨w3.heap.size, 0, none⟩ 1 k rfl ?c2 ?c3 ?c4 ?_)
        case c1 => exact HO3.out.alloc _
        case c2 => go_simp
        case c3 => omega
        case c4 => simp; omega
        intro v' w4 hown4 hgrow4
        have HO4 : Hid (OwnN w4 w.heap.size v' (pick p (k + 1))) := Lib.hid (by rw [HF.out]; exact hown4)
        have HB4 : Hid (Below w.heap.size w w4) := Lib.hid ((HB3.out.alloc hz3 _).grown hgrow4 (by simp; omega) (fun k hk => (HO3.out.ge k hk).1))
        clear hown4 hgrow4 HO3 HB3
        go_wp2_with fail
        go_roundw
        case rel => exact ⟨k + 1, by go_num, by omega, HO4, HB4⟩
        case measure => simp [intOf]; omega
    · obtain rfl : k = l.length := by omega
      have HE := Lib.hid (HM.out _ _ ho.out hb.out)
      clear ho hb HM HP H
      generalize pick p l.length = F at *
      generalize l.length = n at *
      go_wp2_with fail
      go_ret
      exact HE.out

end Go.Proofs.Ytmfpipcedblklaa
