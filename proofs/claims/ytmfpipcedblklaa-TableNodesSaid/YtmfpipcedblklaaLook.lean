/-
  The walks of nodes, Up, Others, Behind, Lowest and Same.
-/
import Derived.Test.YtmfpipcedblklaaPick
namespace Go.Proofs.Ytmfpipcedblklaa
open Go.Sort Go.RowKit Go.Proofs.Ytmfpipcedblklaa.Pure

/-- Of a table that may not be, none. -/
def orNil (L : Bool) (F : List Nat) : List Nat := if L = true then F else []

set_option maxRecDepth 100000 in
set_option maxHeartbeats 2000000 in
theorem nodes_up (A : Option Addr) (c : Nat) (l : List Kn) (p : Nat → Bool) (w : World) (hn : l.length ≤ 1000) (h : Lst w A l) (L : Bool) (hL : mayT l = L)
    (hp : ∀ (W : World) (k : Nat), Below w.heap.size w W → k < l.length → Calls Try.prog 43 #[.int .i64 k, .agg #[.int .u64 (kn l k).i, .int .i64 (kn l k).s]] W fun e w' => e = .returned (.bool (p k)) ∧ Below W.heap.size W w') :
    Calls Try.prog 42 #[.slice A l.length c, .func (.func 43) #[] #[]] w (Nodes w (orNil L (pick p l.length))) := by
  have HK := Lib.hid (tcheck_any A c l w hn h L hL)
  have HP : Hid (∀ W, Below w.heap.size w W → Calls Try.prog 37 #[.slice A l.length c, .func (.func 43) #[] #[]] W (Nodes W (pick p l.length))) :=
    Lib.hid fun W hb => places_up A c l p W hn (h.on hb) fun W' k hb' hk => hp W' k (hb.trans (hb'.mono hb.size)) hk
  have ho : okE true = 0 := rfl
  have hz : okE false = 1 := rfl
  clear h hp hL hn
  generalize pick p l.length = F at *
  generalize l.length = n at *
  go_enter Try.func42, Try.ntmps42
  go_wp2_with fail
  refine HK.out.mono ?_
  rintro e w1 ⟨rfl, hb⟩
  have HB := Lib.hid hb
  clear hb
  rcases L with _ | _
  · rw [hz]
    go_wp2_with fail
    go_ret
    exact nodes_nil w HB.out
  · rw [ho]
    go_wp2_with fail
    refine (HP.out _ HB.out).mono ?_
    rintro e w2 ⟨A', c', rfl, hns, hb2⟩
    have HE : Hid (Nodes w F (.returned (.slice A' F.length c')) w2) := Lib.hid ⟨A', c', rfl, hns, HB.out.trans (hb2.mono HB.out.size)⟩
    clear hns hb2
    go_wp2_with fail
    go_ret
    exact HE.out

set_option maxRecDepth 100000 in
set_option maxHeartbeats 2000000 in
theorem nodes_oth (b : Nat) (A : Option Addr) (c : Nat) (l : List Kn) (p : Nat → Bool) (w : World) (hn : l.length ≤ 1000) (h : Lst w A l) (L : Bool) (hL : mayT l = L)
    (hp : ∀ (W : World) (k : Nat), Below w.heap.size w W → k < l.length → Calls Try.prog 45 #[.int .i64 k, .agg #[.int .u64 (kn l k).i, .int .i64 (kn l k).s], .pointer (some ⟨b, 0, none⟩)] W fun e w' => e = .returned (.bool (p k)) ∧ Below W.heap.size W w') :
    Calls Try.prog 42 #[.slice A l.length c, .func (.func 45) #[] #[.pointer (some ⟨b, 0, none⟩)]] w (Nodes w (orNil L (pick p l.length))) := by
  have HK := Lib.hid (tcheck_any A c l w hn h L hL)
  have HP : Hid (∀ W, Below w.heap.size w W → Calls Try.prog 37 #[.slice A l.length c, .func (.func 45) #[] #[.pointer (some ⟨b, 0, none⟩)]] W (Nodes W (pick p l.length))) :=
    Lib.hid fun W hb => places_oth b A c l p W hn (h.on hb) fun W' k hb' hk => hp W' k (hb.trans (hb'.mono hb.size)) hk
  have ho : okE true = 0 := rfl
  have hz : okE false = 1 := rfl
  clear h hp hL hn
  generalize pick p l.length = F at *
  generalize l.length = n at *
  go_enter Try.func42, Try.ntmps42
  go_wp2_with fail
  refine HK.out.mono ?_
  rintro e w1 ⟨rfl, hb⟩
  have HB := Lib.hid hb
  clear hb
  rcases L with _ | _
  · rw [hz]
    go_wp2_with fail
    go_ret
    exact nodes_nil w HB.out
  · rw [ho]
    go_wp2_with fail
    refine (HP.out _ HB.out).mono ?_
    rintro e w2 ⟨A', c', rfl, hns, hb2⟩
    have HE : Hid (Nodes w F (.returned (.slice A' F.length c')) w2) := Lib.hid ⟨A', c', rfl, hns, HB.out.trans (hb2.mono HB.out.size)⟩
    clear hns hb2
    go_wp2_with fail
    go_ret
    exact HE.out

set_option maxRecDepth 100000 in
set_option maxHeartbeats 2000000 in
theorem tup_any (A : Option Addr) (c : Nat) (l : List Kn) (w : World) (hn : l.length ≤ 1000) (h : Lst w A l) (L : Bool) (hL : mayT l = L) :
    Calls Try.prog 19 #[.slice A l.length c] w (Nodes w (orNil L (upL l))) := by
  have HN : Hid (Calls Try.prog 42 #[.slice A l.length c, .func (.func 43) #[] #[]] w (Nodes w (orNil L (upL l)))) :=
    Lib.hid (nodes_up A c l (upP l) w hn h L hL fun W k _ _ => upc_any _ _ W)
  generalize (orNil L (upL l)) = F at *
  clear h hL hn
  generalize l.length = n at *
  go_enter Try.func19, Try.ntmps19
  go_wp2_with fail
  refine HN.out.mono ?_
  rintro e w1 ⟨A', c', rfl, hns, hb⟩
  have HE : Hid (Nodes w F (.returned (.slice A' F.length c')) w1) := Lib.hid ⟨A', c', rfl, hns, hb⟩
  clear hns hb
  go_wp2_with fail
  go_ret
  exact HE.out

set_option maxRecDepth 100000 in
set_option maxHeartbeats 2000000 in
theorem toth_any (A : Option Addr) (c : Nat) (l : List Kn) (me : Int) (w : World) (hn : l.length ≤ 1000) (h : Lst w A l) (L : Bool) (hL : mayT l = L) :
    Calls Try.prog 20 #[.slice A l.length c, .int .i64 me] w (Nodes w (orNil L (othL me l))) := by
  have HB : Hid (Below w.heap.size w (w.alloc (.cells #[.int .i64 me] 3))) := Lib.hid ((Below.refl _ _).alloc (Nat.le_refl _) _)
  have hc : (w.alloc (.cells #[.int .i64 me] 3)).cell? ⟨w.heap.size, 0, none⟩ = some (.int .i64 me) := by go_simp
  have hlt := World.block_lt_of_cell? _ _ hc
  have HN : Hid (Calls Try.prog 42 #[.slice A l.length c, .func (.func 45) #[] #[.pointer (some ⟨w.heap.size, 0, none⟩)]] (w.alloc (.cells #[.int .i64 me] 3)) (Nodes (w.alloc (.cells #[.int .i64 me] 3)) (orNil L (othL me l)))) :=
    Lib.hid (nodes_oth w.heap.size A c l (othP me l) _ hn (h.alloc _) L hL fun W k hb _ => othc_any _ _ _ _ W ((hb.cell hlt).trans hc))
  generalize (orNil L (othL me l)) = F at *
  clear h hL hn hc hlt
  generalize l.length = n at *
  go_enter Try.func20, Try.ntmps20
  go_upto_region 1 with (fail)
  generalize w.alloc (.cells #[.int .i64 me] 3) = w2 at *
  go_wp2_with fail
  refine HN.out.mono ?_
  rintro e w1 ⟨A', c', rfl, hns, hb⟩
  have HE : Hid (Nodes w F (.returned (.slice A' F.length c')) w1) := Lib.hid ⟨A', c', rfl, hns, HB.out.trans (hb.mono HB.out.size)⟩
  clear hns hb
  go_wp2_with fail
  go_ret
  exact HE.out

set_option maxRecDepth 100000 in
set_option maxHeartbeats 2000000 in
theorem beh_bad (A A' : Option Addr) (c c' : Nat) (t o : List Kn) (w : World) (hn : t.length ≤ 1000) (hn' : o.length ≤ 1000) (h : Lst w A t) (h' : Lst w A' o) (hL : both t o = false) :
    Calls Try.prog 14 #[.slice A t.length c, .slice A' o.length c'] w (NodesE w [] 1) := by
  have HB : Hid (Below w.heap.size w (w.alloc (.cells #[.slice A t.length c] 22))) := Lib.hid ((Below.refl _ _).alloc (Nat.le_refl _) _)
  have hc : (w.alloc (.cells #[.slice A t.length c] 22)).cell? ⟨w.heap.size, 0, none⟩ = some (.slice A t.length c) := by go_simp
  have HK := Lib.hid (both_any A A' c c' t o _ hn hn' (h.alloc (.cells #[.slice A t.length c] 22)) (h'.alloc (.cells #[.slice A t.length c] 22)) false hL)
  clear h h' hL hn hn'
  generalize t.length = n at *
  generalize o.length = n' at *
  have hz : okE false = 1 := rfl
  rw [hz] at HK
  clear hz
  go_enter Try.func14, Try.ntmps14
  go_upto_region 1 with (fail)
  generalize w.alloc (.cells #[.slice A n c] 22) = w2 at *
  go_wp2_with fail
  refine HK.out.mono ?_
  rintro e w1 ⟨rfl, hb⟩
  have HB1 : Hid (Below w.heap.size w w1) := Lib.hid (HB.out.trans (hb.mono HB.out.size))
  clear hb hc
  go_wp2_with fail
  go_ret2
  exact ⟨none, 0, rfl, Ns.nil _ _, HB1.out⟩

set_option maxRecDepth 100000 in
set_option maxHeartbeats 2000000 in
theorem beh_yes (A A' : Option Addr) (c c' : Nat) (t o : List Kn) (w : World) (hn : t.length ≤ 1000) (h : Lst w A t) (h' : Lst w A' o) (hL : both t o = true) :
    Calls Try.prog 14 #[.slice A t.length c, .slice A' o.length c'] w (NodesE w (behL t o) 0) := by
  have hl : t.length = o.length := by simp only [both, Bool.and_eq_true, decide_eq_true_eq] at hL; exact hL.1
  have HB : Hid (Below w.heap.size w (w.alloc (.cells #[.slice A t.length c] 22))) := Lib.hid ((Below.refl _ _).alloc (Nat.le_refl _) _)
  have hc : (w.alloc (.cells #[.slice A t.length c] 22)).cell? ⟨w.heap.size, 0, none⟩ = some (.slice A t.length c) := by go_simp
  have hlt := World.block_lt_of_cell? _ _ hc
  have h2 := h.alloc (.cells #[.slice A t.length c] 22)
  have HK := Lib.hid (both_any A A' c c' t o _ hn (by omega) h2 (h'.alloc (.cells #[.slice A t.length c] 22)) true hL)
  have HP : Hid (∀ W, Below (w.alloc (.cells #[.slice A t.length c] 22)).heap.size (w.alloc (.cells #[.slice A t.length c] 22)) W → Calls Try.prog 37 #[.slice A' o.length c', .func (.func 38) #[] #[.pointer (some ⟨w.heap.size, 0, none⟩)]] W (Nodes W (behL t o))) :=
    Lib.hid fun W hb => places_beh w.heap.size A' c' o (behP t o) W (by omega) ((h'.alloc _).on hb) fun W' k hb' hk => behc_any k w.heap.size A c t (kn o k) W' (by omega) ((h2.on hb).on hb') ((hb'.cell (by have := hb.size; simp only at hlt ⊢; omega)).trans ((hb.cell hlt).trans hc))
  clear h h' hL hn hlt h2
  generalize behL t o = F at *
  rw [← hl] at HP HK ⊢
  clear hl
  generalize t.length = n at *
  have ho : okE true = 0 := rfl
  rw [ho] at HK
  clear ho
  go_enter Try.func14, Try.ntmps14
  go_upto_region 1 with (fail)
  generalize w.alloc (.cells #[.slice A n c] 22) = w2 at *
  go_wp2_with fail
  refine HK.out.mono ?_
  rintro e w1 ⟨rfl, hb⟩
  have HB0 := Lib.hid hb
  have HB1 : Hid (Below w.heap.size w w1) := Lib.hid (HB.out.trans (hb.mono HB.out.size))
  clear hb hc
  go_wp2_with fail
  refine (HP.out _ HB0.out).mono ?_
  rintro e w3 ⟨A2, c2, rfl, hns, hb3⟩
  have HE : Hid (Ns w3 A2 F ∧ Below w.heap.size w w3) := Lib.hid ⟨hns, HB1.out.trans (hb3.mono HB1.out.size)⟩
  clear hns hb3
  go_wp2_with fail
  go_ret2
  exact ⟨A2, c2, rfl, HE.out⟩

/-- The first node that is up, and the error. -/
def lowL (l : List Kn) : Int × Int := if mayT l = false then (0, 1) else match upL l with | [] => (0, 6) | x :: _ => (Int.ofNat x, 0)
theorem low_bad {l : List Kn} (h : mayT l = false) : lowL l = (0, 1) := by unfold lowL; rw [if_pos h]
theorem low_none {l : List Kn} (h : mayT l = true) (hu : upL l = []) : lowL l = (0, 6) := by unfold lowL; rw [if_neg (by rw [h]; decide), hu]
theorem low_some {l : List Kn} (h : mayT l = true) (hu : 0 < (upL l).length) : lowL l = ((((upL l).getD 0 0 : Nat) : Int), 0) := by
  unfold lowL
  rw [if_neg (by rw [h]; decide)]
  rcases e : upL l with _ | ⟨x, r⟩
  · rw [e] at hu; simp at hu
  · rfl

set_option maxRecDepth 100000 in
set_option maxHeartbeats 2000000 in
theorem tlow_any (A : Option Addr) (c : Nat) (l : List Kn) (w : World) (hn : l.length ≤ 1000) (h : Lst w A l) :
    Calls Try.prog 15 #[.slice A l.length c] w fun e w' => e = .returned (.tuple #[.int .i64 (lowL l).1, .int .i64 (lowL l).2]) ∧ Below w.heap.size w w' := by
  have HK := Lib.hid (tcheck_any A c l w hn h _ rfl)
  have HU : Hid (mayT l = true → ∀ W, Below w.heap.size w W → Calls Try.prog 19 #[.slice A l.length c] W (Nodes W (upL l))) := Lib.hid fun hm W hb => by
    have := tup_any A c l W hn (h.on hb) true hm
    exact this
  have ho : okE true = 0 := rfl
  have hz : okE false = 1 := rfl
  clear h hn
  rcases hm : mayT l with _ | _
  · rw [low_bad hm]
    rw [hm, hz] at HK
    clear HU hm
    generalize l.length = n at *
    go_enter Try.func15, Try.ntmps15
    go_wp2_with fail
    refine HK.out.mono ?_
    rintro e w1 ⟨rfl, hb⟩
    have HB := Lib.hid hb
    clear hb
    go_wp2_with fail
    go_ret2
    exact ⟨rfl, HB.out⟩
  · rw [hm, ho] at HK
    have HU' := Lib.hid (HU.out hm)
    rcases hF : upL l with _ | ⟨x, r⟩
    · rw [low_none hm hF]
      rw [hF] at HU'
      clear HU hm hF
      generalize l.length = n at *
      go_enter Try.func15, Try.ntmps15
      go_wp2_with fail
      refine HK.out.mono ?_
      rintro e w1 ⟨rfl, hb⟩
      have HB := Lib.hid hb
      clear hb
      go_wp2_with fail
      refine (HU'.out _ HB.out).mono ?_
      rintro e w2 ⟨A', c', rfl, hns, hb2⟩
      have HE : Hid (Below w.heap.size w w2) := Lib.hid (HB.out.trans (hb2.mono HB.out.size))
      clear hns hb2
      go_wp2_with fail
      go_ret2
      exact ⟨rfl, HE.out⟩
    · have hlow := low_some hm (by rw [hF]; simp)
      rw [hF] at hlow
      have e1 : (x :: r).getD 0 0 = x := rfl
      rw [e1] at hlow
      rw [hlow]
      rw [hF] at HU'
      clear HU hm hF e1 hlow
      generalize l.length = n at *
      go_enter Try.func15, Try.ntmps15
      go_wp2_with fail
      refine HK.out.mono ?_
      rintro e w1 ⟨rfl, hb⟩
      have HB := Lib.hid hb
      clear hb
      go_wp2_with fail
      refine (HU'.out _ HB.out).mono ?_
      rintro e w2 ⟨A', c', rfl, hns, hb2⟩
      have HE : Hid (Below w.heap.size w w2) := Lib.hid (HB.out.trans (hb2.mono HB.out.size))
      obtain ⟨ad, rfl, hlo, hc⟩ := hns 0 (by simp)
      have hc' : w2.cell? ad = some (.int .i64 (x : Int)) := hc
      have hpos : (0 : Int) < (((x :: r).length : Nat) : Int) := by have : 0 < (x :: r).length := Nat.succ_pos _; omega
      have e0 : ((((x :: r).length : Nat) : Int) == 0) = false := by have := hpos; simp only [beq_eq_false_iff_ne]; omega
      generalize (x :: r).length = m at *
      clear hc hlo hns hb2
      have hm0 : ¬(m : Int) = 0 := by omega
      have hk0 : (0 : Int) ≤ 0 := Int.le_refl 0
      go_wp2_with fail
      go_ret2
      exact ⟨rfl, HE.out⟩

end Go.Proofs.Ytmfpipcedblklaa
