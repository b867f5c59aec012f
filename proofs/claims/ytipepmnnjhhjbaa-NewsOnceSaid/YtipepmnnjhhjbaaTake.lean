/-
  The walk of Take.
-/
import Derived.Test.YtipepmnnjhhjbaaNext
namespace Go.Proofs.Ytipepmnnjhhjbaa
open Go.Sort Go.RowKit Go.Proofs.Ytipepmnnjhhjbaa.Pure

/-- A call answers the news ys, the queue zs, both the call's own, and the error er. -/
def Gives2 (w : World) (ys : List Nw) (zs : List Td) (er : Int) (e : Ending) (w' : World) : Prop :=
  ∃ v u, e = .returned (.tuple #[v, u, .int .i64 er]) ∧ OwnN w' w.heap.size v ys ∧ OwnT w' w.heap.size u zs ∧ Below w.heap.size w w'
theorem gives2 {w w' : World} {ys : List Nw} {zs : List Td} {er : Int} {v u : Value} (h1 : OwnN w' w.heap.size v ys) (h2 : OwnT w' w.heap.size u zs) (hb : Below w.heap.size w w') : Gives2 w ys zs er (.returned (.tuple #[v, u, .int .i64 er])) w' := ⟨v, u, rfl, h1, h2, hb⟩

theorem enterT : ∀ args w, (callFunc 33 args).run Try.prog w = .ok (.enter 33 args) w := enters_of Try.func33 (by kernel_rfl) rfl
theorem enterW : ∀ args w, (callFunc 29 args).run Try.prog w = .ok (.enter 29 args) w := enters_of Try.func29 (by kernel_rfl) rfl
theorem sortT_own (q : List Td) (ha : Apart q) (B : Nat) (v : Value) (w : World) (hn : q.length ≤ 1000) (h : OwnT w B v q) :
    Calls Try.prog 32 #[v, .func (.func 33) #[] #[]] w fun e w' => e = .returned (.tuple #[]) ∧ OwnT w' B v (srtT q) ∧ w.grownBy w' v.ownBlock :=
  sort_own _ cfT swoT turn_grew enterT q (tieT ha) B v w hn h
theorem sortW_own (q : List Td) (ha : Apart q) (B : Nat) (v : Value) (w : World) (hn : q.length ≤ 1000) (h : OwnT w B v q) :
    Calls Try.prog 32 #[v, .func (.func 29) #[] #[]] w fun e w' => e = .returned (.tuple #[]) ∧ OwnT w' B v (srtW q) ∧ w.grownBy w' v.ownBlock :=
  sort_own _ cfW swoW who_grew enterW q (tieW ha) B v w hn h

theorem set_same {l : List Value} {i : Nat} {v : Value} (h : l[i]? = some v) : l.set i v = l := by
  apply List.ext_getElem?
  intro j
  by_cases e : i = j
  · subst e
    rw [List.getElem?_set_self (List.getElem?_eq_some_iff.1 h).1, h]
  · rw [List.getElem?_set_ne e]
/-- One of them told once less. -/
theorem OwnT.dec {w : World} {B g c i : Nat} {xs : List Td} (h : OwnT w B (.slice (some ⟨g, 0, none⟩) xs.length c) xs) (hi : i < xs.length) : OwnT (w.setCell ⟨g, i * 4 + 3, none⟩ (.int .i64 ((td xs i).l - 1))) B (.slice (some ⟨g, 0, none⟩) xs.length c) (xs.set i (dec1 (td xs i))) := by
  have h0 := (World.ownsRow.stored (w := w) h (i * 4 + 3) (.int .i64 ((td xs i).l - 1))).1
  unfold OwnT
  rw [tds_set, List.length_set]
  have e0 : (tds xs)[i * 4]? = some (.int .i64 (td xs i).w) := tds_at xs i 0 hi (by decide)
  have e1 : (tds xs)[i * 4 + 1]? = some (.int .u64 (td xs i).i) := tds_at xs i 1 hi (by decide)
  have e2 : (tds xs)[i * 4 + 2]? = some (.int .i64 (td xs i).s) := tds_at xs i 2 hi (by decide)
  have d0 : (dec1 (td xs i)).w = (td xs i).w := rfl
  have d1 : (dec1 (td xs i)).i = (td xs i).i := rfl
  have d2 : (dec1 (td xs i)).s = (td xs i).s := rfl
  have d3 : (dec1 (td xs i)).l = (td xs i).l - 1 := rfl
  rw [d0, d1, d2, d3, set_same e0, set_same e1, set_same e2]
  exact h0

set_option maxRecDepth 100000 in
set_option maxHeartbeats 1000000 in
theorem take_bad (A : Option Addr) (c : Nat) (q : List Td) (k : Int) (w : World) (hn : q.length ≤ 1000) (h : Ts w A q) (hk : ¬(mayQ q = true ∧ 0 ≤ k)) :
    Calls Try.prog 13 #[.slice A q.length c, .int .i64 k] w (Gives2 w [] [] 1) := by
  obtain ⟨L, hL⟩ : ∃ L, mayQ q = L := ⟨_, rfl⟩
  have HC := Lib.hid (checkQ_any A c q w hn h L hL)
  rw [hL] at hk
  clear hL h
  have ho : okE true = 0 := rfl
  have hz : okE false = 1 := rfl
  go_enter Try.func13, Try.ntmps13
  rcases L with _ | _
  · rw [hz] at HC
    go_wp2_with (go_at_call 14; refine HC.out.mono ?_; rintro e w1 ⟨rfl, hb1⟩)
    refine bodyPost_ret (v := .tuple #[.slice none 0 0, .slice none 0 0, .int .i64 1]) (by simp [results, Try.results13, go_sem]) rfl ?_
    exact gives2 (OwnN.nil _ _) (OwnT.nil _ _) hb1
  · rw [ho] at HC
    have e0 : decide (k < 0) = true := by simpa using hk
    have e0' : k < 0 := by simpa using e0
    clear hk
    go_wp2_with (go_at_call 14; refine HC.out.mono ?_; rintro e w1 ⟨rfl, hb1⟩)
    refine bodyPost_ret (v := .tuple #[.slice none 0 0, .slice none 0 0, .int .i64 1]) (by simp [results, Try.results13, go_sem]) rfl ?_
    exact gives2 (OwnN.nil _ _) (OwnT.nil _ _) hb1

set_option maxRecDepth 100000 in
set_option maxHeartbeats 4000000 in
theorem take_yes (A : Option Addr) (c : Nat) (q : List Td) (k : Int) (w : World) (h : Ts w A q) (hq : mayQ q = true) (hk : 0 ≤ k) :
    Calls Try.prog 13 #[.slice A q.length c, .int .i64 k] w (Gives2 w (tellN q k.toNat) (tellR q k.toNat) 0) := by
  have hn : q.length ≤ 64 := mayQ_len hq
  have HC := Lib.hid (checkQ_any A c q w (by omega) h true hq)
  have HCL : Hid (∀ W, Below w.heap.size w W → Calls Try.prog 25 #[.slice A q.length c] W fun e w' => ∃ v, e = .returned v ∧ OwnT w' W.heap.size v q ∧ Below W.heap.size W w') := Lib.hid (fun W hb => clone_any A c q W (by omega) (h.on hb))
  have hap := apart_rise (mayQ_rise hq)
  have HS1 := Lib.hid (fun v W h => sortT_own q hap w.heap.size v W (by omega) h)
  obtain ⟨s, hs⟩ : ∃ s, s = srtT q := ⟨_, rfl⟩
  have hsl : s.length = q.length := by rw [hs]; exact srt_len _ _
  obtain ⟨m, hm⟩ : ∃ m : Nat, m = min k.toNat q.length := ⟨_, rfl⟩
  have hy : tellN q k.toNat = tellL s m := by
    unfold tellN tellL
    rw [← hs, hm, ← hsl]
    congr 1
    rcases Nat.le_total k.toNat s.length with h1 | h1
    · rw [Nat.min_eq_left h1]
    · rw [Nat.min_eq_right h1, List.take_of_length_le h1, List.take_length]
  have hz : tellR q k.toNat = srtW (yet (stepL s m)) := by
    unfold tellR stepL
    rw [← hs, hm, ← hsl]
    rcases Nat.le_total k.toNat s.length with h1 | h1
    · rw [Nat.min_eq_left h1]
    · rw [Nat.min_eq_right h1, List.take_of_length_le h1, List.take_length, List.drop_eq_nil_of_le h1, List.drop_length]
  rw [hy, hz]
  have hml : m ≤ q.length := by omega
  have hsa : Apart s := by rw [hs]; exact apart_perm (srt_perm _ _) hap
  have HDE := Lib.hid (fun v W (h : OwnT W w.heap.size v (stepL s m)) => delete_any (stepL s m) w.heap.size v W (by rw [stepL_len]; omega) h)
  have HS2 := Lib.hid (fun v W (h : OwnT W w.heap.size v (yet (stepL s m))) => sortW_own (yet (stepL s m)) (apart_yet (apart_step m hsa)) w.heap.size v W (by have := yet_len (stepL s m); rw [stepL_len] at this; omega) h)
  have HMN : Hid (min k (q.length : Int) = (m : Int)) := Lib.hid (by omega)
  rw [← hs] at HS1
  have HSL := Lib.hid (show s.length = q.length ∧ m ≤ q.length ∧ q.length ≤ 64 from ⟨hsl, hml, hn⟩)
  generalize hYS : tellL s m = YS at *
  generalize hZS : srtW (yet (stepL s m)) = ZS at *
  have HYS := Lib.hid hYS
  have ho : okE true = 0 := rfl
  rw [ho] at HC
  have e0 : decide (k < 0) = false := by simpa using hk
  have e0' : ¬k < 0 := by omega
  have HLB : Hid (∀ j, j < s.length → 1 ≤ (td s j).l ∧ (td s j).l ≤ 64) := Lib.hid (fun j hj => by
    have := mayQ_all hq (td s j) ((srt_perm cfT q).mem_iff.1 (by have := td_mem s hj; rw [hs] at this ⊢; exact this))
    rw [mayT_iff] at this
    omega)
  clear hs hsl hm hy hz hml hsa hap hn hq h hYS hZS ho hk
  go_enter Try.func13, Try.ntmps13
  go_upto_region 7 with (first | (go_at_call 14; refine HC.out.mono ?_; rintro e w1 ⟨rfl, hb1⟩) | (go_at_call 25; refine (HCL.out _ hb1).mono ?_; rintro e w2 ⟨v, rfl, ho2, hb2⟩))
  have HB2 : Hid (Below w.heap.size w w2) := Lib.hid (hb1.trans (hb2.mono hb1.size))
  have HO2 := Lib.hid (ho2.mono hb1.size)
  clear HC HCL hb1 hb2 ho2
  go_upto_region 8 with (go_at_call 32; refine (HS1.out v w2 HO2.out).mono ?_; rintro e w3 ⟨rfl, ho3, hg3⟩)
  have HB3 : Hid (Below w.heap.size w w3) := Lib.hid (HB2.out.grown hg3 HB2.out.size (fun k hk => (HO2.out.ge k hk).1))
  have HO3 := Lib.hid ho3
  clear HS1 HB2 HO2 ho3 hg3
  obtain ⟨A3, c3, rfl, hc3, _⟩ := HO3.out.lst
  rw [HSL.out.1]
  go_upto_region 10 with (fail)
  rw [HMN.out]
  have HLT : Hid (∀ ad, A3 = some ad → ad.block < w3.heap.size) := Lib.hid (fun ad e => by subst e; exact (HO3.out.ge ad.block rfl).2)
  obtain ⟨G, hG⟩ : ∃ G, G = w3.heap.size := ⟨_, rfl⟩
  have HG3 : Hid (G ≤ w3.heap.size) := Lib.hid (by omega)
  have HGB : Hid (w.heap.size ≤ G) := Lib.hid (by rw [hG]; exact HB3.out.size)
  rw [← hG] at HLT
  have HOS : Hid (OwnT w3 w.heap.size (.slice A3 q.length c3) (stepL s 0)) := Lib.hid (by rw [stepL_zero]; have := HO3.out; rwa [HSL.out.1] at this)
  have HML := Lib.hid (show m ≤ q.length ∧ q.length ≤ 64 from HSL.out.2)
  clear hG HO3 hc3 HMN
  go_loopw [9, 26] (fun nv i wr => ∃ k : Nat, i = .int .i64 k ∧ k ≤ m ∧ Hid (OwnN wr G nv (tellL s k)) ∧ Hid (OwnT wr w.heap.size (.slice A3 q.length c3) (stepL s k)) ∧ Hid (Below w.heap.size w wr) ∧ Hid (G ≤ wr.heap.size)) (fun _ i _ => m - (intOf i).toNat)
  case atStart => exact ⟨0, rfl, Nat.zero_le _, Lib.hid (by rw [tellL_zero]; exact OwnN.nil _ _), HOS, HB3, HG3⟩
  case round =>
    clear HOS HB3 HG3
    obtain ⟨wq, ewq⟩ : ∃ wq, wq = wr := ⟨_, rfl⟩
    subst ewq
    obtain ⟨k', rfl, hk, HNO, HTO, HBr, HGr⟩ := hrel
    have hsq := HSL.out.1
    have hmq := HML.out
    by_cases hlt : k' < m
    · have hks : k' < s.length := by omega
      have k0 : (0 : Int) ≤ (k' : Int) := by omega
      have k1 : (k' : Int) < (m : Int) := by omega
      have k2 : (k' : Int) < (q.length : Int) := by omega
      have k2' : k' < q.length := by omega
      have e1 : decide ((k' : Int) < (m : Int)) = true := by simpa using k1
      have e1' : decide (k' < m) = true := by simpa using hlt
      have HTL := Lib.hid (tellL_succ s k' hks)
      have HST := Lib.hid (stepL_succ s k' hks)
      have HSA := Lib.hid (stepL_at s k' hks)
      have hsl : (stepL s k').length = q.length := by rw [stepL_len]; exact hsq
      have htl : (tellL s k').length ≤ 100 := by rw [tellL_len]; omega
      rw [← hsl] at HTO
      obtain ⟨g, c', e, hg, hgl, hcc, hcm, hfz⟩ := HTO.out.opened (by omega)
      injection e with ea _ ec
      subst ea; subst ec
      obtain ⟨o0, o1, o2, o3⟩ := HTO.out.cell k' (by omega)
      have HD := Lib.hid (HTO.out.dec (i := k') (by omega))
      rw [HSA.out] at o0 o1 o2 o3 HD
      have hw1 : IntKind.i64.wrap ((k' : Int) + 1) = (k' : Int) + 1 := by rw [IntWalk.i64_in _ (by omega)]
      have hgG : g < G := HLT.out ⟨g, 0, none⟩ rfl
      have HNB := Lib.hid (show g < G ∧ w.heap.size ≤ g from ⟨hgG, hg⟩)
      have HTN := Lib.hid htl
      have HTS := Lib.hid hsl
      have HX1 : Hid ((td s k').n.w = (td s k').w ∧ (td s k').n.i = (td s k').i ∧ (td s k').n.s = (td s k').s) := Lib.hid ⟨rfl, rfl, rfl⟩
      have hlb := HLB.out k' hks
      generalize hx : td s k' = x at *
      have hw2 : IntKind.i64.wrap (x.l - 1) = x.l - 1 := by rw [IntWalk.i64_in _ (by omega)]
      have HK1 := Lib.hid (show k' + 1 ≤ m by omega)
      clear hx hsq hmq hlt hks hk hsl htl hg hgl hcc hcm hgG HD hlb
      have hbb : Below wq.heap.size wq (wq.alloc (.cells #[.int .i64 x.w, .int .u64 x.i, .int .i64 x.s] 27)) := (Below.refl _ _).alloc (Nat.le_refl _) _
      have HB1 : Hid (Below w.heap.size w (wq.alloc (.cells #[.int .i64 x.w, .int .u64 x.i, .int .i64 x.s] 27))) := Lib.hid (HBr.out.trans (hbb.mono HBr.out.size))
      have HNO1 := Lib.hid (HNO.out.on hbb)
      have HTO1 := Lib.hid (HTO.out.on hbb)
      have HG1 : Hid (G ≤ (wq.alloc (.cells #[.int .i64 x.w, .int .u64 x.i, .int .i64 x.s] 27)).heap.size) := Lib.hid (by have := HGr.out; have := hbb.size; omega)
      have HNS1 : Hid (Ns (wq.alloc (.cells #[.int .i64 x.w, .int .u64 x.i, .int .i64 x.s] 27)) (some ⟨wq.heap.size, 0, none⟩) [x.n]) := Lib.hid (Ns.one wq x.n _)
      clear hbb HBr HNO HTO HGr HX1
      go_upto_region 13 with (at_builtin; refine wpList_appendNw rfl _ _ rfl G _ (tellL s k') rfl ?c1 (some ⟨wq.heap.size, 0, none⟩) 1 [x.n] rfl ?c2 ?c3 ?c4 ?_)
      case c1 => exact HNO1.out
      case c2 => exact HNS1.out
      case c3 => have := HTN.out; simp; omega
      case c4 => have := HG1.out; simpa using this
      intro nv' w5 hown hgrow
      have HNO5 : Hid (OwnN w5 G nv' (tellL s (k' + 1))) := Lib.hid (by rw [HTL.out]; exact hown)
      have HB5 : Hid (Below w.heap.size w w5) := Lib.hid (HB1.out.grown hgrow (by have := HB1.out.size; omega) (fun b hb => by have := (HNO1.out.ge b hb).1; have := HGB.out; omega))
      have HTO5 := Lib.hid (HTO1.out.grown hgrow (fun b hb e => by
        have h1 : g = b := by simpa [Value.ownBlock] using hb
        have := (HNO1.out.ge b e).1
        have := HNB.out.1
        omega))
      have HG5 : Hid (G ≤ w5.heap.size) := Lib.hid (by have := HG1.out; have := hgrow.size; omega)
      clear HNO1 HTO1 HG1 HNS1 HB1 hown hgrow o0 o1 o2 o3 hfz
      have hkl : k' < (stepL s k').length := by rw [HTS.out]; exact k2'
      obtain ⟨_, _, _, o3⟩ := HTO5.out.cell k' hkl
      have HD := Lib.hid (HTO5.out.dec hkl)
      rw [HSA.out] at o3 HD
      rw [← HST.out] at HD
      have hfz : ∀ o : Nat, w5.frozen? ⟨g, o, none⟩ = false := World.ownsRow.frozenAt (w := w5) HTO5.out
      have HB6 : Hid (Below w.heap.size w (w5.setCell ⟨g, k' * 4 + 3, none⟩ (.int .i64 (x.l - 1)))) := Lib.hid (HB5.out.setCell (p := ⟨g, k' * 4 + 3, none⟩) HNB.out.2 _)
      have HNO6 : Hid (OwnN (w5.setCell ⟨g, k' * 4 + 3, none⟩ (.int .i64 (x.l - 1))) G nv' (tellL s (k' + 1))) := Lib.hid (HNO5.out.keep (fun b hb => Below.heap_setCell _ _ _ _ (by have := (HNO5.out.ge b hb).1; have := HNB.out.1; show b ≠ g; omega)))
      have HG6 : Hid (G ≤ (w5.setCell ⟨g, k' * 4 + 3, none⟩ (.int .i64 (x.l - 1))).heap.size) := Lib.hid (by have := HG5.out; simpa using this)
      have HD6 : Hid (OwnT (w5.setCell ⟨g, k' * 4 + 3, none⟩ (.int .i64 (x.l - 1))) w.heap.size (.slice (some ⟨g, 0, none⟩) q.length c3) (stepL s (k' + 1))) := by rw [← HTS.out]; exact HD
      clear HB5 HNO5 HTO5 HG5 HD hkl HST HTL HSA
      go_wp2_with fail
      clear o3 hfz
      go_roundw
      case rel => exact ⟨k' + 1, by go_num, HK1.out, HNO6, HD6, HB6, HG6⟩
      case measure => have := HK1.out; simp [intOf]; omega
    · obtain rfl : k' = m := by omega
      have e1 : decide ((k' : Int) < (k' : Int)) = false := by simp
      have HNOY : Hid (OwnN wq G u9 YS) := Lib.hid (by have := HNO.out; rwa [HYS.out] at this)
      have hgz := HBr.out.size
      clear HNO hsq hmq hlt hk
      go_upto_region 15 with (fail)
      have HOB : Hid (∀ b, (Value.slice A3 q.length c3).ownBlock = some b → b < G) := Lib.hid (fun b hb => by
        rcases A3 with _ | ad
        · cases hb
        · have : ad.block = b := by simpa [Value.ownBlock] using hb
          rw [← this]
          exact HLT.out ad rfl)
      have HBO : Hid (∀ b, (Value.slice A3 q.length c3).ownBlock = some b → w.heap.size ≤ b) := Lib.hid (fun b hb => (HTO.out.ge b hb).1)
      have hcd := HDE.out _ wq HTO.out
      clear HTO HLT HDE
      generalize hv3 : Value.slice A3 q.length c3 = v3 at *
      clear hv3
      go_upto_region 16 with (go_at_call 34; refine hcd.mono ?_; rintro e w6 ⟨v6, rfl, ho6, hv6, hg6⟩)
      have HB6 : Hid (Below w.heap.size w w6) := Lib.hid (HBr.out.grown hg6 hgz (fun b hb => HBO.out b hb))
      have HN6 : Hid (OwnN w6 G u9 YS) := Lib.hid (HNOY.out.grown hg6 (fun b hb e => by have := HOB.out b e; have := (HNOY.out.ge b hb).1; omega))
      have hz6 := HB6.out.size
      have HO6 := Lib.hid ho6
      rw [← hv6] at HOB HBO
      clear HBr HNOY ho6 hg6 hcd hgz hv6
      go_upto_region 17 with (go_at_call 32; refine (HS2.out v6 w6 HO6.out).mono ?_; rintro e w7 ⟨rfl, ho7, hg7⟩)
      have HB7 : Hid (Below w.heap.size w w7) := Lib.hid (HB6.out.grown hg7 hz6 (fun b hb => HBO.out b hb))
      have HN7 : Hid (OwnN w7 w.heap.size u9 YS) := Lib.hid ((HN6.out.grown hg7 (fun b hb e => by have := HOB.out b e; have := (HN6.out.ge b hb).1; omega)).mono HGB.out)
      have HO7 := Lib.hid ho7
      clear HB6 HN6 HO6 ho7 hg7
      go_wp2_with fail
      refine bodyPost_ret (v := .tuple #[u9, v6, .int .i64 0]) (by simp [results, Try.results13, go_sem]) rfl ?_
      exact gives2 HN7.out HO7.out HB7.out
end Go.Proofs.Ytipepmnnjhhjbaa
