/-
  The walk of the document's Take.
-/
import Derived.Test.YtipepmnnjhhjbaaSel
import Derived.Laws.MakeOwn
namespace Go.Proofs.Ytipepmnnjhhjbaa
open Go.Sort Go.RowKit Go.Proofs.Ytipepmnnjhhjbaa.Pure

theorem Try.infoBool : (Try.prog.info? 4).map (fun i => (i.zero, i.size, i.bytes)) = some (some (.bool false), 1, 1) := by kernel_rfl
def bls (l : List Bool) : List Value := l.map Value.bool
/-- Block g holds the bools l. -/
def OwnB (w : World) (g : Nat) (l : List Bool) : Prop := w.heap[g]? = some (.cells (bls l).toArray 4 (0, 0))
theorem madeB (n : Nat) (hn : n ≤ 64) : ∀ W : World, (Instr.makeSlice 74 (.int .i64 n) (.int .i64 n)).run Try.prog W = .ok (.slice (some ⟨W.heap.size, 0, none⟩) n n) (W.alloc (.cells (bls (List.replicate n false)).toArray 4)) := by
  intro W
  obtain ⟨i0, hi, hz0, hz1, hz2⟩ := info_parts Try.infoBool
  have h := run_make (P := Try.prog) W 74 4 i0 (.bool false) Try.underlying74 hi hz0 .i64 .i64 n n (by omega) (by omega) (by rw [hz2]; omega) (by omega)
  rw [hz1] at h
  have e : madeCells (Value.bool false).cells (n * 1) = (bls (List.replicate n false)).toArray := by
    apply Array.ext_getElem?
    intro j
    by_cases hj : j < n
    · unfold madeCells
      simp [hj, bls]
      show (#[Value.bool false] : Array Value)[j % 1]! = _
      simp [Nat.mod_one]
    · rw [Array.getElem?_eq_none (by unfold madeCells; simp; omega), Array.getElem?_eq_none (by simp [bls]; omega)]
  simp only [Int.toNat_natCast] at h
  rw [e] at h
  exact h
section
variable {w w' : World} {g : Nat} {l : List Bool}
theorem OwnB.on (h : OwnB w g l) (hb : Below w.heap.size w w') : OwnB w' g l := (hb.block g (Array.getElem?_eq_some_iff.1 h).1).trans h
theorem OwnB.lt (h : OwnB w g l) : g < w.heap.size := (Array.getElem?_eq_some_iff.1 h).1
theorem OwnB.cell (h : OwnB w g l) (j : Nat) (hj : j < l.length) : w.cell? ⟨g, j, none⟩ = some (.bool (l.getD j false)) := by
  have h' : w.heap[g]? = _ := h
  rw [cell_of_row w g j _ _ _ h']
  simp [bls, List.getD, hj]
theorem OwnB.frozen (h : OwnB w g l) (o : Nat) : w.frozen? ⟨g, o, none⟩ = false := by
  have h' : w.heap[g]? = _ := h
  simp [World.frozen?, h']
theorem OwnB.set (h : OwnB w g l) (j : Nat) (b : Bool) : OwnB (w.setCell ⟨g, j, none⟩ (.bool b)) g (l.set j b) := by
  have h' : w.heap[g]? = _ := h
  unfold OwnB
  simp only [World.setCell, Array.getElem?_modify]
  simp [h', bls, List.map_set]
theorem OwnB.grown {row : Option Nat} (h : OwnB w g l) (hg : w.grownBy w' row) (hne : row ≠ some g) : OwnB w' g l := (hg.block g h.lt (fun e => hne e.symm)).trans h
theorem OwnB.cellAt {o : Nat} {b : Nat} (h : OwnB w g l) (hne : b ≠ g) (u : Value) : OwnB (w.setCell ⟨b, o, none⟩ u) g l := (Below.heap_setCell w ⟨b, o, none⟩ u g (fun e => hne e.symm)).trans h
end

set_option maxRecDepth 100000 in
set_option maxHeartbeats 8000000 in
theorem rtake_any (A : Option Addr) (c : Nat) (q : List Td) (k : Int) (w : World) (h : Ts w A q) (hq : mayQ q = true) (hk : 0 ≤ k) :
    Calls Try.prog 21 #[.slice A q.length c, .int .i64 k] w fun e w' => ∃ v u, e = .returned (.tuple #[v, u]) ∧ OwnN w' w.heap.size v (tellN q k.toNat) ∧ OwnT w' w.heap.size u (tellR q k.toNat) ∧ Below w.heap.size w w' := by
  have hn : q.length ≤ 64 := mayQ_len hq
  have hr := mayQ_rise hq
  have H := Lib.hid h
  have HBE : Hid (Below w.heap.size w (w.alloc (.cells #[] 59))) := Lib.hid ((Below.refl _ w).alloc (Nat.le_refl _) _)
  have HE : Hid (OwnT (w.alloc (.cells #[] 59)) w.heap.size (.slice (some ⟨w.heap.size, 0, none⟩) 0 0) []) := Lib.hid (World.ownsRow_made w #[] 0 (Nat.le_refl _) (Nat.zero_le _) rfl)
  have HTE := Lib.hid (h.alloc (.cells #[] 59))
  have HN := Lib.hid hn
  have n0 : (0 : Int) ≤ (q.length : Int) := by omega
  have n1 : (q.length : Int) ≤ 64 := by omega
  have hmk := madeB q.length hn
  have hp : (srtT q).Perm q := srt_perm cfT q
  obtain ⟨s, hs⟩ : ∃ s, s = srtT q := ⟨_, rfl⟩
  have hsl : s.length = q.length := by rw [hs]; exact hp.length_eq
  have hsn : s.Nodup := by rw [hs]; exact hp.nodup_iff.2 (rise_nodup hr)
  obtain ⟨M, hM⟩ : ∃ M : Nat, M = min k.toNat q.length := ⟨_, rfl⟩
  have hy : tellN q k.toNat = tellL s M := by
    unfold tellN tellL
    rw [← hs, hM, ← hsl]
    congr 1
    rcases Nat.le_total k.toNat s.length with h1 | h1
    · rw [Nat.min_eq_left h1]
    · rw [Nat.min_eq_right h1, List.take_of_length_le h1, List.take_length]
  have hz : tellR q k.toNat = tellR q M := by
    unfold tellR stepL
    rw [← hs, hM, ← hsl]
    rcases Nat.le_total k.toNat s.length with h1 | h1
    · rw [Nat.min_eq_left h1]
    · rw [Nat.min_eq_right h1, List.take_of_length_le h1, List.take_length, List.drop_eq_nil_of_le h1, List.drop_length]
  rw [hy, hz, ← left_rest hr M, ← hs]
  have HM := Lib.hid (show M ≤ q.length ∧ (M : Int) ≤ k ∧ (M < q.length → (M : Int) = k) by omega)
  have HSUC := Lib.hid (fun (m b : Nat) (hm : m < q.length) (hb : b < q.length) (e : td q b = td s m) => (show (takenL q s m).set b true = takenL q s (m + 1) ∧ (leftL q s m).set b (dec1 (td q b)) = leftL q s (m + 1) ∧ tellL s (m + 1) = tellL s m ++ [(td q b).n] ∧ inT s m (td q b) = false from ⟨takenL_succ (rise_nodup hr) (by omega) hb e, leftL_succ (rise_nodup hr) (by omega) hb e, by rw [tellL_succ s m (by omega), e], by rw [e]; exact inT_fresh hsn (by omega)⟩))
  have HEND : Hid (∀ m b, m < q.length → Best q s m q.length b → ∃ c : Nat, b = (c : Int) ∧ c < q.length ∧ td q c = td s m) := Lib.hid (fun m b hm hb => by rw [hs] at hb ⊢; exact hb.end_ hr hm)
  have HPOS : Hid (∀ m i, i < q.length → 0 ≤ (td (leftL q s m) i).l) := Lib.hid (fun m i hi => by rw [hs]; exact left_pos hq m i hi)
  have HLES := Lib.hid (fun (m i : Nat) (b : Int) (h : Best q s m i b) (hi : i < q.length) (hb : 0 ≤ b) (hl : ¬(td q b.toNat).l < (td q i).l) => h.less hr hi hb hl)
  have HQB : Hid (∀ i, i < q.length → 1 ≤ (td q i).l ∧ (td q i).l ≤ 64) := Lib.hid (fun i hi => by have := (mayT_iff _).1 (mayQ_all hq _ (td_mem q hi)); omega)
  clear h hn hq hk hr hp hsn hs hM hy hz hsl
  go_enter Try.func21, Try.ntmps21
  go_upto_region 2 with (at_builtin; refine wpList_appendTd rfl _ _ rfl w.heap.size _ [] rfl ?c1 A c q rfl ?c2 ?c3 ?c4 ?_)
  case c1 => exact HE.out
  case c2 => exact HTE.out
  case c3 => have := HN.out; simp; omega
  intro v1 w1 hown hgrow
  have HO1 : Hid (OwnT w1 w.heap.size v1 (leftL q s 0)) := Lib.hid (by rw [leftL_zero]; exact hown)
  have HB1 : Hid (Below w.heap.size w w1) := Lib.hid (HBE.out.grown hgrow (by simp) (fun b hb => by simp [Value.ownBlock] at hb; omega))
  clear hown hgrow HBE HE HTE
  go_upto_region 5 with (fail)
  clear hmk
  have hbx : Below w1.heap.size w1 (w1.alloc (.cells (bls (List.replicate q.length false)).toArray 4)) := (Below.refl _ _).alloc (Nat.le_refl _) _
  have HB2 : Hid (Below w.heap.size w (w1.alloc (.cells (bls (List.replicate q.length false)).toArray 4))) := Lib.hid (HB1.out.trans (hbx.mono HB1.out.size))
  have HO2 := Lib.hid (HO1.out.on hbx)
  have HOB2 : Hid (OwnB (w1.alloc (.cells (bls (List.replicate q.length false)).toArray 4)) w1.heap.size (takenL q s 0)) := Lib.hid (by
    rw [takenL_zero]
    show (w1.heap.push _)[w1.heap.size]? = _
    simp)
  have HV : Hid (∀ b, v1.ownBlock = some b → w.heap.size ≤ b ∧ b < w1.heap.size) := Lib.hid (fun b hb => HO1.out.ge b hb)
  have HGZ : Hid (w.heap.size ≤ w1.heap.size ∧ w1.heap.size + 1 ≤ (w1.alloc (.cells (bls (List.replicate q.length false)).toArray 4)).heap.size) := Lib.hid ⟨HB1.out.size, by simp⟩
  clear hbx HO1 HB1
  generalize w1.alloc (.cells (bls (List.replicate q.length false)).toArray 4) = w2 at *
  generalize w1.heap.size = gb at *
  go_loopw [8, 9, 10, 11] (fun v n _ _ wr => ∃ m : Nat, n = .int .i64 m ∧ m ≤ M ∧ Hid (OwnT wr w.heap.size v1 (leftL q s m)) ∧ Hid (OwnB wr gb (takenL q s m)) ∧ Hid (OwnN wr (gb + 1) v (tellL s m)) ∧ Hid (Below w.heap.size w wr) ∧ Hid (gb + 1 ≤ wr.heap.size)) (fun _ n _ _ _ => M - (intOf n).toNat)
  case atStart => exact ⟨0, rfl, Nat.zero_le _, HO2, HOB2, Lib.hid (by rw [tellL_zero]; exact OwnN.nil _ _), HB2, Lib.hid HGZ.out.2⟩
  case round =>
    clear HO2 HOB2 HB2
    obtain ⟨wq, ewq⟩ : ∃ wq, wq = wr := ⟨_, rfl⟩
    subst ewq
    obtain ⟨m, rfl, hmM, HOL, HOT, HON, HBq, HZq⟩ := hrel
    by_cases hlt : m < M
    · have hM' := HM.out
      have hmq : m < q.length := by omega
      have m0 : (0 : Int) ≤ (m : Int) := by omega
      have e1 : decide ((m : Int) < k) = true := by simp; omega
      have e2 : decide ((m : Int) < (q.length : Int)) = true := by simp; omega
      have e2' : decide (m < q.length) = true := by simpa using hmq
      have HMQ := Lib.hid (show m < q.length ∧ m < M from ⟨hmq, hlt⟩)
      have hw1 : IntKind.i64.wrap ((m : Int) + 1) = (m : Int) + 1 := by rw [IntWalk.i64_in _ (by omega)]
      clear hM' hmM hlt hmq
      go_wp2_with fail
      go_loopw [10, 11] (fun b i wr => ∃ i' : Nat, ∃ b' : Int, i = .int .i64 i' ∧ b = .int .i64 b' ∧ Hid (Best q s m i' b') ∧ Hid (Below wq.heap.size wq wr)) (fun _ i _ => q.length - (intOf i).toNat)
      case atStart => exact ⟨0, -1, rfl, rfl, Lib.hid (Best.start q s m), Lib.hid (Below.refl _ _)⟩
      case round =>
        obtain ⟨wi, ewi⟩ : ∃ wi, wi = wr := ⟨_, rfl⟩
        subst ewi
        obtain ⟨i, b, rfl, rfl, HB, HBi⟩ := hrel
        have hiq := HB.out.1
        by_cases hlt : i < q.length
        · have HIL := Lib.hid hlt
          have i0 : (0 : Int) ≤ (i : Int) := by omega
          have i1 : (i : Int) < (q.length : Int) := by omega
          have f1 : decide ((i : Int) < (q.length : Int)) = true := by simpa using i1
          have f1' : decide (i < q.length) = true := by simpa using hlt
          have hw2 : IntKind.i64.wrap ((i : Int) + 1) = (i : Int) + 1 := by have := HN.out; rw [IntWalk.i64_in _ (by omega)]
          have HLw := (H.out.on HBq.out).on HBi.out
          obtain ⟨ad, rfl, hlo, h1⟩ := HLw i hlt
          obtain ⟨_, _, _, a3⟩ := h1.flat
          have cb := (HOT.out.on HBi.out).cell i (by rw [takenL_len]; exact hlt)
          rw [takenL_at q s m i hlt] at cb
          have FB : ∀ p : Regrown, (grow (redrawn wi p.d) p.os).cell? ⟨gb, i, none⟩ = some (.bool (inT s m (td q i))) := fun p => cell_regrown cb p.d p.os
          have FL : ∀ p : Regrown, (grow (redrawn wi p.d) p.os).cell? ⟨(ad.add (i * 4)).block, (ad.add (i * 4)).off + 3, none⟩ = some (.int .i64 (td q i).l) := fun p => cell_regrown a3 p.d p.os
          clear a3 cb hlo h1
          rcases ht : inT s m (td q i) with _ | _
          · rw [ht] at FB
            by_cases hb : b < 0
            · have HBn := Lib.hid (HB.out.first hlt ht hb)
              have g1 : decide (b < 0) = true := by simpa using hb
              have FB2 := True.intro
              clear HB hlt ht hb hiq HLw
              go_upto_region 11 with (fail)
              refine q_enter (by kernel_rfl) (by kernel_rfl) ?_
              iterate 22 (refine q_step ?_; intro K hK; go_simp; refine hK _ ?_; clear hK K)
              refine q_nil ?_
              intro w3 hb3
              have HB3 : Hid (Below wq.heap.size wq w3) := Lib.hid (HBi.out.trans (hb3.mono HBi.out.size))
              clear hb3
              clear FB FL FB2 HBi
              go_wp2_with fail
              go_roundw
              case rel => exact ⟨i + 1, (i : Int), by go_num, rfl, HBn, HB3⟩
              case measure => have := HIL.out; simp [intOf]; omega
            · have hb0 : 0 ≤ b := by omega
              have hbl := HB.out.lt hb0
              obtain ⟨_, e, _, h2⟩ := HLw b.toNat hbl.2
              obtain rfl := Option.some.inj e
              obtain ⟨_, _, _, b3⟩ := h2.flat
              have FB2 : ∀ p : Regrown, (grow (redrawn wi p.d) p.os).cell? ⟨(ad.add (b.toNat * 4)).block, (ad.add (b.toNat * 4)).off + 3, none⟩ = some (.int .i64 (td q b.toNat).l) := fun p => cell_regrown b3 p.d p.os
              have g1 : decide (b < 0) = false := by simpa using hb
              have g2 : b < (q.length : Int) := by omega
              have g2' : b.toNat < q.length := hbl.2
              by_cases hl : (td q b.toNat).l < (td q i).l
              · have HBn := Lib.hid (HB.out.greater hlt ht hb0 hl)
                have g3 : decide ((td q b.toNat).l < (td q i).l) = true := by simpa using hl
                clear HB hlt ht hb hl hiq HLw b3 h2 hbl
                go_upto_region 11 with (fail)
                refine q_enter (by kernel_rfl) (by kernel_rfl) ?_
                iterate 22 (refine q_step ?_; intro K hK; go_simp; refine hK _ ?_; clear hK K)
                refine q_nil ?_
                intro w3 hb3
                have HB3 : Hid (Below wq.heap.size wq w3) := Lib.hid (HBi.out.trans (hb3.mono HBi.out.size))
                clear hb3
                clear FB FL FB2 HBi
                go_wp2_with fail
                go_roundw
                case rel => exact ⟨i + 1, (i : Int), by go_num, rfl, HBn, HB3⟩
                case measure => have := HIL.out; simp [intOf]; omega
              · have HBn := Lib.hid (HLES.out m i b HB.out hlt hb0 (Int.not_lt.1 hl))
                have g3 : decide ((td q b.toNat).l < (td q i).l) = false := by simpa using hl
                clear HB hlt ht hb hl hiq HLw b3 h2 hbl
                go_upto_region 11 with (fail)
                refine q_enter (by kernel_rfl) (by kernel_rfl) ?_
                iterate 22 (refine q_step ?_; intro K hK; go_simp; refine hK _ ?_; clear hK K)
                refine q_nil ?_
                intro w3 hb3
                have HB3 : Hid (Below wq.heap.size wq w3) := Lib.hid (HBi.out.trans (hb3.mono HBi.out.size))
                clear hb3
                clear FB FL FB2 HBi
                go_wp2_with fail
                go_roundw
                case rel => exact ⟨i + 1, b, by go_num, rfl, HBn, HB3⟩
                case measure => have := HIL.out; simp [intOf]; omega
          · rw [ht] at FB
            have HBn := Lib.hid (HB.out.skip hlt ht)
            have FB2 := True.intro
            clear HB hlt ht hiq HLw
            go_upto_region 11 with (fail)
            refine q_enter (by kernel_rfl) (by kernel_rfl) ?_
            iterate 22 (refine q_step ?_; intro K hK; go_simp; refine hK _ ?_; clear hK K)
            refine q_nil ?_
            intro w3 hb3
            have HB3 : Hid (Below wq.heap.size wq w3) := Lib.hid (HBi.out.trans (hb3.mono HBi.out.size))
            clear hb3
            clear FB FL FB2 HBi
            go_wp2_with fail
            go_roundw
            case rel => exact ⟨i + 1, b, by go_num, rfl, HBn, HB3⟩
            case measure => have := HIL.out; simp [intOf]; omega
        · obtain rfl : i = q.length := by omega
          obtain ⟨d, rfl, hdq, hde⟩ := HEND.out m b HMQ.out.1 HB.out
          have f1 : decide ((q.length : Int) < (q.length : Int)) = false := by simp
          have d0 : (0 : Int) ≤ (d : Int) := by omega
          have d1 : (d : Int) < (q.length : Int) := by omega
          have HSU := Lib.hid (HSUC.out m d HMQ.out.1 hdq hde)
          have HLA := Lib.hid (leftL_at q s m d hdq)
          have HLL := Lib.hid (leftL_len q s m)
          have HTL := Lib.hid (takenL_len q s m)
          have HTN : Hid ((tellL s m).length ≤ 100) := Lib.hid (by rw [tellL_len]; have := HN.out; have := HMQ.out; have := Nat.min_le_left m s.length; omega)
          have HQD := Lib.hid (HQB.out d hdq)
          have hff : fT s m (td q d) = td q d := by unfold fT; rw [HSU.out.2.2.2]; rfl
          rw [hff] at HLA
          have HOLi := Lib.hid (HOL.out.on HBi.out)
          have HOTi := Lib.hid (HOT.out.on HBi.out)
          have HONi := Lib.hid (HON.out.on HBi.out)
          have HBwi : Hid (Below w.heap.size w wi) := Lib.hid (HBq.out.trans (HBi.out.mono HBq.out.size))
          have HZi : Hid (gb + 1 ≤ wi.heap.size) := Lib.hid (by have := HZq.out; have := HBi.out.size; omega)
          have HDQ := Lib.hid hdq
          clear HOL HOT HON HBq HZq HBi HB hiq hlt hff hde
          have hlv : (leftL q s m).length = q.length := HLL.out
          obtain ⟨A3, c3, e3, hc3, _⟩ := HOLi.out.lst
          obtain ⟨g3, c4, e4, hg3, hg3l, hc4, hc4m, hfz3⟩ := HOLi.out.opened (by omega)
          rw [hlv] at e4
          subst e4
          have HG3 : Hid (g3 < gb ∧ w.heap.size ≤ g3) := Lib.hid (by have := HV.out g3 rfl; omega)
          clear e3 hc3 hg3 hg3l hc4 hc4m hlv hdq
          obtain ⟨ad, rfl, hlo, h1⟩ := (H.out.on HBwi.out) d HDQ.out
          have HAD : Hid (ad.block < w.heap.size) := Lib.hid (by obtain ⟨_, e, h2, _⟩ := H.out d HDQ.out; injection e with e; subst e; exact h2)
          generalize hx : td q d = x at *
          have HTA := Lib.hid h1
          clear hx h1 hlo
          have cb : ∃ b0, wi.cell? ⟨gb, d, none⟩ = some (.bool b0) := ⟨_, HOTi.out.cell d (by rw [HTL.out]; exact HDQ.out)⟩
          obtain ⟨b0, cb⟩ := cb
          have cf : ∀ o : Nat, wi.frozen? ⟨gb, o, none⟩ = false := HOTi.out.frozen
          -- taken
          have HOT2 : Hid (OwnB (wi.setCell ⟨gb, d, none⟩ (.bool true)) gb (takenL q s (m + 1))) := Lib.hid (by rw [← HSU.out.1]; exact HOTi.out.set d true)
          have hgz : ∀ b : Nat, b ≠ gb → (wi.setCell ⟨gb, d, none⟩ (.bool true)).heap[b]? = wi.heap[b]? := fun b hb => Below.heap_setCell wi ⟨gb, d, none⟩ _ b hb
          have HOL2 : Hid (OwnT (wi.setCell ⟨gb, d, none⟩ (.bool true)) w.heap.size (.slice (some ⟨g3, 0, none⟩) q.length c4) (leftL q s m)) := Lib.hid (HOLi.out.keep (fun b hb => hgz b (by simp [Value.ownBlock] at hb; have := HG3.out.1; omega)))
          have HON2 := Lib.hid (show OwnN (wi.setCell ⟨gb, d, none⟩ (.bool true)) (gb + 1) _ (tellL s m) from HONi.out.keep (fun b hb => hgz b (by have := (HONi.out.ge b hb).1; omega)))
          have HB2 : Hid (Below w.heap.size w (wi.setCell ⟨gb, d, none⟩ (.bool true))) := Lib.hid (HBwi.out.setCell (p := ⟨gb, d, none⟩) (by have := HGZ.out; show w.heap.size ≤ gb; omega) _)
          have HZ2 : Hid (gb + 1 ≤ (wi.setCell ⟨gb, d, none⟩ (.bool true)).heap.size) := Lib.hid (by have := HZi.out; simpa using this)
          have HTA2 : Hid (TAt (wi.setCell ⟨gb, d, none⟩ (.bool true)) (ad.add (d * 4)) x) := Lib.hid (HTA.out.keep fun p hp => World.cell?_of_block (hgz p.block (by rw [hp, block_add]; have := HAD.out; have := HGZ.out; omega)))
          clear HOTi HOLi HONi HBwi HZi HTA hgz hfz3
          go_upto_region 14 with (fail)
          generalize wi.setCell ⟨gb, d, none⟩ (.bool true) = w3 at *
          clear cb cf
          -- told once less
          rw [← HLL.out] at HOL2
          obtain ⟨_, _, _, o3⟩ := HOL2.out.cell d (by rw [HLL.out]; exact HDQ.out)
          have HD3 := Lib.hid (HOL2.out.dec (i := d) (by rw [HLL.out]; exact HDQ.out))
          have hfz : ∀ o : Nat, w3.frozen? ⟨g3, o, none⟩ = false := World.ownsRow.frozenAt (w := w3) HOL2.out
          rw [HLA.out] at o3 HD3
          rw [HSU.out.2.1, HLL.out] at HD3
          have hw3 : IntKind.i64.wrap (x.l - 1) = x.l - 1 := by have := HQD.out; rw [IntWalk.i64_in _ (by omega)]
          have hgz : ∀ b : Nat, b ≠ g3 → (w3.setCell ⟨g3, d * 4 + 3, none⟩ (.int .i64 (x.l - 1))).heap[b]? = w3.heap[b]? := fun b hb => Below.heap_setCell w3 ⟨g3, d * 4 + 3, none⟩ _ b hb
          have HOT3 : Hid (OwnB (w3.setCell ⟨g3, d * 4 + 3, none⟩ (.int .i64 (x.l - 1))) gb (takenL q s (m + 1))) := Lib.hid (HOT2.out.cellAt (by have := HG3.out.1; omega) _)
          have HON3 := Lib.hid (show OwnN (w3.setCell ⟨g3, d * 4 + 3, none⟩ (.int .i64 (x.l - 1))) (gb + 1) _ (tellL s m) from HON2.out.keep (fun b hb => hgz b (by have := (HON2.out.ge b hb).1; have := HG3.out.1; omega)))
          have HB3 : Hid (Below w.heap.size w (w3.setCell ⟨g3, d * 4 + 3, none⟩ (.int .i64 (x.l - 1)))) := Lib.hid (HB2.out.setCell (p := ⟨g3, d * 4 + 3, none⟩) HG3.out.2 _)
          have HZ3 : Hid (gb + 1 ≤ (w3.setCell ⟨g3, d * 4 + 3, none⟩ (.int .i64 (x.l - 1))).heap.size) := Lib.hid (by have := HZ2.out; simpa using this)
          have HTA3 : Hid (TAt (w3.setCell ⟨g3, d * 4 + 3, none⟩ (.int .i64 (x.l - 1))) (ad.add (d * 4)) x) := Lib.hid (HTA2.out.keep fun p hp => World.cell?_of_block (hgz p.block (by rw [hp, block_add]; have := HAD.out; have := HG3.out; omega)))
          clear HOT2 HOL2 HON2 HB2 HZ2 HTA2 hgz
          go_upto_region 15 with (fail)
          generalize w3.setCell ⟨g3, d * 4 + 3, none⟩ (.int .i64 (x.l - 1)) = w4 at *
          clear o3 hfz
          -- told
          obtain ⟨t0, t1, t2, t3⟩ := HTA3.out.flat
          have hbb : Below w4.heap.size w4 (w4.alloc (.cells #[.int .i64 x.w, .int .u64 x.i, .int .i64 x.s] 27)) := (Below.refl _ _).alloc (Nat.le_refl _) _
          have HB5 : Hid (Below w.heap.size w (w4.alloc (.cells #[.int .i64 x.w, .int .u64 x.i, .int .i64 x.s] 27))) := Lib.hid (HB3.out.trans (hbb.mono HB3.out.size))
          have HON5 := Lib.hid (HON3.out.on hbb)
          have HOT5 := Lib.hid (HOT3.out.on hbb)
          have HOL5 := Lib.hid (HD3.out.on hbb)
          have HZ5 : Hid (gb + 1 ≤ (w4.alloc (.cells #[.int .i64 x.w, .int .u64 x.i, .int .i64 x.s] 27)).heap.size) := Lib.hid (by have := HZ3.out; have := hbb.size; omega)
          have HNS : Hid (Ns (w4.alloc (.cells #[.int .i64 x.w, .int .u64 x.i, .int .i64 x.s] 27)) (some ⟨w4.heap.size, 0, none⟩) [x.n]) := Lib.hid (Ns.one w4 x.n _)
          clear hbb HON3 HOT3 HD3 HZ3 HB3 HTA3
          go_wp2_with (at_builtin; refine wpList_appendNw rfl _ _ rfl (gb + 1) _ (tellL s m) rfl ?d1 (some ⟨w4.heap.size, 0, none⟩) 1 [x.n] rfl ?d2 ?d3 ?d4 ?_)
          case d1 => exact HON5.out
          case d2 => exact HNS.out
          case d3 => have := HTN.out; simp; omega
          case d4 => have := HZ5.out; simpa using this
          intro nv w6 hown hgrow
          have HON6 : Hid (OwnN w6 (gb + 1) nv (tellL s (m + 1))) := Lib.hid (by rw [HSU.out.2.2.1]; exact hown)
          have HB6 : Hid (Below w.heap.size w w6) := Lib.hid (HB5.out.grown hgrow HB5.out.size (fun b hb => by have := (HON5.out.ge b hb).1; have := HGZ.out; omega))
          have HOT6 := Lib.hid (HOT5.out.grown hgrow (fun e => by have := (HON5.out.ge _ e).1; omega))
          have HOL6 := Lib.hid (HOL5.out.grown hgrow (fun b hb e => by
            have h1 : g3 = b := by simpa [Value.ownBlock] using hb
            have := (HON5.out.ge b e).1
            have := HG3.out.1
            omega))
          have HZ6 : Hid (gb + 1 ≤ w6.heap.size) := Lib.hid (by have := HZ5.out; have := hgrow.size; omega)
          clear HON5 HB5 HOT5 HOL5 HZ5 HNS hown hgrow t0 t1 t2 t3
          go_wp2_with fail
          go_roundw
          case rel => exact ⟨m + 1, by go_num, HMQ.out.2, HOL6, HOT6, HON6, HB6, HZ6⟩
          case measure => have := HMQ.out; simp [intOf]; omega
    · obtain rfl : m = M := by omega
      have HLV : Hid (∀ b, v1.ownBlock = some b → b < wq.heap.size) := Lib.hid (fun b hb => (HOL.out.ge b hb).2)
      have HLN : Hid (OwnN wq w.heap.size u8 (tellL s m)) := Lib.hid (HON.out.mono (by have := HGZ.out; omega))
      have HLB : Hid (∀ b, u8.ownBlock = some b → b < wq.heap.size) := Lib.hid (fun b hb => (HLN.out.ge b hb).2)
      obtain ⟨LL, hLL⟩ : ∃ LL, LL = leftL q s m := ⟨_, rfl⟩
      have HLL : Hid (LL.length = q.length) := Lib.hid (by rw [hLL]; exact leftL_len q s m)
      have HPO : Hid (∀ i, i < q.length → 0 ≤ (td LL i).l) := Lib.hid (fun i hi => by rw [hLL]; exact HPOS.out m i hi)
      rw [← hLL] at HOL
      obtain ⟨YN, hYN⟩ : ∃ YN, YN = tellL s m := ⟨_, rfl⟩
      rw [← hYN] at HLN
      have HEN : Hid (∀ u w', OwnN w' w.heap.size u8 YN → OwnT w' w.heap.size u (yet LL) → Below w.heap.size w w' → ∃ v u', Ending.returned (.tuple #[u8, u]) = Ending.returned (.tuple #[v, u']) ∧ OwnN w' w.heap.size v (tellL s m) ∧ OwnT w' w.heap.size u' (yet (leftL q s m)) ∧ Below w.heap.size w w') := Lib.hid (fun u w' h1 h2 h3 => ⟨u8, u, rfl, by rw [← hYN]; exact h1, by rw [← hLL]; exact h2, h3⟩)
      have HMM := HM.out
      have hcase : ((m : Int) = k) ∨ m = q.length := by omega
      clear hLL hYN HON HOT HZq hlt hmM HMM HSUC HEND HPOS HLES HQB HM
      have f0 : decide ((q.length : Int) < (q.length : Int)) = false := by simp
      have hG0 : Hid (wq.heap.size ≤ wq.heap.size) := Lib.hid (Nat.le_refl _)
      have HG0 : Hid (w.heap.size ≤ wq.heap.size) := Lib.hid HBq.out.size
      obtain ⟨wa, hwa⟩ : ∃ wa, wa = wq := ⟨_, rfl⟩
      have HG1 : Hid (wq.heap.size ≤ wa.heap.size) := Lib.hid (by rw [hwa]; exact Nat.le_refl _)
      have HLa : Hid (OwnT wa w.heap.size v1 LL) := by rw [hwa]; exact HOL
      have HNa : Hid (OwnN wa w.heap.size u8 YN) := by rw [hwa]; exact HLN
      have HBa : Hid (Below w.heap.size w wa) := by rw [hwa]; exact HBq
      rw [← hwa]
      generalize wq.heap.size = G2 at *
      clear hwa HOL HLN HBq hG0 HGZ
      rcases hcase with hcase | hcase
      · subst hcase
        have f1 : decide ((m : Int) < (m : Int)) = false := by simp
        go_wp2_with fail
        go_loopw [12, 13] (fun v n wr => ∃ j : Nat, n = .int .i64 j ∧ j ≤ q.length ∧ Hid (OwnT wr G2 v (yet (LL.take j))) ∧ Hid (OwnT wr w.heap.size v1 LL) ∧ Hid (OwnN wr w.heap.size u8 YN) ∧ Hid (Below w.heap.size w wr) ∧ Hid (G2 ≤ wr.heap.size)) (fun _ n _ => q.length - (intOf n).toNat)
        case atStart => exact ⟨0, rfl, Nat.zero_le _, Lib.hid (OwnT.nil _ _), HLa, HNa, HBa, HG1⟩
        case round =>
          clear HLa HNa HBa HG1
          obtain ⟨wb, ewb⟩ : ∃ wb, wb = wr := ⟨_, rfl⟩
          subst ewb
          obtain ⟨j, rfl, hj, HR, HLb, HNb, HBb, HGb⟩ := hrel
          by_cases hlt : j < q.length
          · have j0 : (0 : Int) ≤ (j : Int) := by omega
            have j1 : (j : Int) < (q.length : Int) := by omega
            have j2 : decide ((j : Int) < (q.length : Int)) = true := by simpa using j1
            have j2' : decide (j < q.length) = true := by simpa using hlt
            have hw1 : IntKind.i64.wrap ((j : Int) + 1) = (j : Int) + 1 := by have := HN.out; rw [IntWalk.i64_in _ (by omega)]
            have hll := HLL.out
            obtain ⟨A3, c3, e3, _, _⟩ := HLb.out.lst
            obtain ⟨g3, c4, e4, _, _, _, _, _⟩ := HLb.out.opened (by omega)
            rw [hll] at e4
            subst e4
            clear e3
            rw [← hll] at HLb
            obtain ⟨o0, o1, o2, o3⟩ := HLb.out.cell j (by omega)
            rw [hll] at HLb
            have hps := HPO.out j hlt
            have HYS := Lib.hid (yet_take_succ LL j (by omega))
            have HRL : Hid ((yet (LL.take j)).length ≤ 100) := Lib.hid (by have h1 := yet_len (LL.take j); have := HN.out; rw [List.length_take] at h1; omega)
            have HJ := Lib.hid (show j + 1 ≤ q.length ∧ j < q.length from ⟨hlt, hlt⟩)
            generalize td LL j = x at *
            by_cases hx : x.l = 0
            · have g0 : decide (0 < x.l) = false := by simp; omega
              have HR' : Hid (OwnT wb G2 _ (yet (LL.take (j + 1)))) := Lib.hid (by rw [HYS.out, if_pos hx]; exact HR.out)
              clear hlt hj hll hps hx HYS HR HRL
              go_wp2_with fail
              clear o0 o1 o2 o3
              go_roundw
              case rel => exact ⟨j + 1, by go_num, HJ.out.1, HR', HLb, HNb, HBb, HGb⟩
              case measure => have := HJ.out; simp [intOf]; omega
            · have g0 : decide (0 < x.l) = true := by simp; omega
              have HYS' : Hid (yet (LL.take (j + 1)) = yet (LL.take j) ++ [x]) := Lib.hid (by rw [HYS.out, if_neg hx])
              clear hlt hj hll hps hx HYS
              have hbb : Below wb.heap.size wb (wb.alloc (.cells #[.int .i64 x.w, .int .u64 x.i, .int .i64 x.s, .int .i64 x.l] 59)) := (Below.refl _ _).alloc (Nat.le_refl _) _
              have HB5 : Hid (Below w.heap.size w (wb.alloc (.cells #[.int .i64 x.w, .int .u64 x.i, .int .i64 x.s, .int .i64 x.l] 59))) := Lib.hid (HBb.out.trans (hbb.mono HBb.out.size))
              have HR5 := Lib.hid (HR.out.on hbb)
              have HL5 := Lib.hid (HLb.out.on hbb)
              have HN5 := Lib.hid (HNb.out.on hbb)
              have HG5 : Hid (G2 ≤ (wb.alloc (.cells #[.int .i64 x.w, .int .u64 x.i, .int .i64 x.s, .int .i64 x.l] 59)).heap.size) := Lib.hid (by have := HGb.out; have := hbb.size; omega)
              have HT5 := Lib.hid (Ts.one wb x 59)
              clear hbb HR HLb HNb HBb HGb
              go_wp2_with (at_builtin; refine wpList_appendTd rfl _ _ rfl G2 _ (yet (LL.take j)) rfl ?e10 (some ⟨wb.heap.size, 0, none⟩) 1 [x] rfl ?e11 ?e12 ?e13 ?_)
              case e10 => exact HR5.out
              case e11 => exact HT5.out
              case e12 => have := HRL.out; simp; omega
              case e13 => have := HG5.out; simpa using this
              intro rv w6 hown hgrow
              have HR6 : Hid (OwnT w6 G2 rv (yet (LL.take (j + 1)))) := Lib.hid (by rw [HYS'.out]; exact hown)
              have HB6 : Hid (Below w.heap.size w w6) := Lib.hid (HB5.out.grown hgrow HB5.out.size (fun b hb => by have := (HR5.out.ge b hb).1; have := HG0.out; omega))
              have HL6 := Lib.hid (HL5.out.grown hgrow (fun b hb e => by have h1 := HLV.out b hb; have := (HR5.out.ge b e).1; omega))
              have HN6 := Lib.hid (HN5.out.grown hgrow (fun b hb e => by have h1 := HLB.out b hb; have := (HR5.out.ge b e).1; omega))
              have HG6 : Hid (G2 ≤ w6.heap.size) := Lib.hid (by have := HG5.out; have := hgrow.size; omega)
              clear HB5 HR5 HL5 HN5 HG5 HT5 hown hgrow o0 o1 o2 o3
              go_wp2_with fail
              go_roundw
              case rel => exact ⟨j + 1, by go_num, HJ.out.1, HR6, HL6, HN6, HB6, HG6⟩
              case measure => have := HJ.out; simp [intOf]; omega
          · obtain rfl : j = q.length := by omega
            have j2 : decide ((q.length : Int) < (q.length : Int)) = false := by simp
            have HRE := Lib.hid (HEN.out _ wb HNb.out (by have := HR.out; rw [← HLL.out, List.take_length] at this; exact this.mono HG0.out) HBb.out)
            obtain ⟨A3, c3, rfl, _, _⟩ := HLb.out.lst
            rw [HLL.out]
            clear HR HLb HNb hlt hj HEN
            go_wp2_with fail
            go_ret2
            exact HRE.out
      · subst hcase
        by_cases hk : ((q.length : Nat) : Int) < k
        · have f1 : decide (((q.length : Nat) : Int) < k) = true := by simpa using hk
          go_wp2_with fail
          go_loopw [12, 13] (fun v n wr => ∃ j : Nat, n = .int .i64 j ∧ j ≤ q.length ∧ Hid (OwnT wr G2 v (yet (LL.take j))) ∧ Hid (OwnT wr w.heap.size v1 LL) ∧ Hid (OwnN wr w.heap.size u8 YN) ∧ Hid (Below w.heap.size w wr) ∧ Hid (G2 ≤ wr.heap.size)) (fun _ n _ => q.length - (intOf n).toNat)
          case atStart => exact ⟨0, rfl, Nat.zero_le _, Lib.hid (OwnT.nil _ _), HLa, HNa, HBa, HG1⟩
          case round =>
            clear HLa HNa HBa HG1
            obtain ⟨wb, ewb⟩ : ∃ wb, wb = wr := ⟨_, rfl⟩
            subst ewb
            obtain ⟨j, rfl, hj, HR, HLb, HNb, HBb, HGb⟩ := hrel
            by_cases hlt : j < q.length
            · have j0 : (0 : Int) ≤ (j : Int) := by omega
              have j1 : (j : Int) < (q.length : Int) := by omega
              have j2 : decide ((j : Int) < (q.length : Int)) = true := by simpa using j1
              have j2' : decide (j < q.length) = true := by simpa using hlt
              have hw1 : IntKind.i64.wrap ((j : Int) + 1) = (j : Int) + 1 := by have := HN.out; rw [IntWalk.i64_in _ (by omega)]
              have hll := HLL.out
              obtain ⟨A3, c3, e3, _, _⟩ := HLb.out.lst
              obtain ⟨g3, c4, e4, _, _, _, _, _⟩ := HLb.out.opened (by omega)
              rw [hll] at e4
              subst e4
              clear e3
              rw [← hll] at HLb
              obtain ⟨o0, o1, o2, o3⟩ := HLb.out.cell j (by omega)
              rw [hll] at HLb
              have hps := HPO.out j hlt
              have HYS := Lib.hid (yet_take_succ LL j (by omega))
              have HRL : Hid ((yet (LL.take j)).length ≤ 100) := Lib.hid (by have h1 := yet_len (LL.take j); have := HN.out; rw [List.length_take] at h1; omega)
              have HJ := Lib.hid (show j + 1 ≤ q.length ∧ j < q.length from ⟨hlt, hlt⟩)
              generalize td LL j = x at *
              by_cases hx : x.l = 0
              · have g0 : decide (0 < x.l) = false := by simp; omega
                have HR' : Hid (OwnT wb G2 _ (yet (LL.take (j + 1)))) := Lib.hid (by rw [HYS.out, if_pos hx]; exact HR.out)
                clear hlt hj hll hps hx HYS HR HRL
                go_wp2_with fail
                clear o0 o1 o2 o3
                go_roundw
                case rel => exact ⟨j + 1, by go_num, HJ.out.1, HR', HLb, HNb, HBb, HGb⟩
                case measure => have := HJ.out; simp [intOf]; omega
              · have g0 : decide (0 < x.l) = true := by simp; omega
                have HYS' : Hid (yet (LL.take (j + 1)) = yet (LL.take j) ++ [x]) := Lib.hid (by rw [HYS.out, if_neg hx])
                clear hlt hj hll hps hx HYS
                have hbb : Below wb.heap.size wb (wb.alloc (.cells #[.int .i64 x.w, .int .u64 x.i, .int .i64 x.s, .int .i64 x.l] 59)) := (Below.refl _ _).alloc (Nat.le_refl _) _
                have HB5 : Hid (Below w.heap.size w (wb.alloc (.cells #[.int .i64 x.w, .int .u64 x.i, .int .i64 x.s, .int .i64 x.l] 59))) := Lib.hid (HBb.out.trans (hbb.mono HBb.out.size))
                have HR5 := Lib.hid (HR.out.on hbb)
                have HL5 := Lib.hid (HLb.out.on hbb)
                have HN5 := Lib.hid (HNb.out.on hbb)
                have HG5 : Hid (G2 ≤ (wb.alloc (.cells #[.int .i64 x.w, .int .u64 x.i, .int .i64 x.s, .int .i64 x.l] 59)).heap.size) := Lib.hid (by have := HGb.out; have := hbb.size; omega)
                have HT5 := Lib.hid (Ts.one wb x 59)
                clear hbb HR HLb HNb HBb HGb
                go_wp2_with (at_builtin; refine wpList_appendTd rfl _ _ rfl G2 _ (yet (LL.take j)) rfl ?e20 (some ⟨wb.heap.size, 0, none⟩) 1 [x] rfl ?e21 ?e22 ?e23 ?_)
                case e20 => exact HR5.out
                case e21 => exact HT5.out
                case e22 => have := HRL.out; simp; omega
                case e23 => have := HG5.out; simpa using this
                intro rv w6 hown hgrow
                have HR6 : Hid (OwnT w6 G2 rv (yet (LL.take (j + 1)))) := Lib.hid (by rw [HYS'.out]; exact hown)
                have HB6 : Hid (Below w.heap.size w w6) := Lib.hid (HB5.out.grown hgrow HB5.out.size (fun b hb => by have := (HR5.out.ge b hb).1; have := HG0.out; omega))
                have HL6 := Lib.hid (HL5.out.grown hgrow (fun b hb e => by have h1 := HLV.out b hb; have := (HR5.out.ge b e).1; omega))
                have HN6 := Lib.hid (HN5.out.grown hgrow (fun b hb e => by have h1 := HLB.out b hb; have := (HR5.out.ge b e).1; omega))
                have HG6 : Hid (G2 ≤ w6.heap.size) := Lib.hid (by have := HG5.out; have := hgrow.size; omega)
                clear HB5 HR5 HL5 HN5 HG5 HT5 hown hgrow o0 o1 o2 o3
                go_wp2_with fail
                go_roundw
                case rel => exact ⟨j + 1, by go_num, HJ.out.1, HR6, HL6, HN6, HB6, HG6⟩
                case measure => have := HJ.out; simp [intOf]; omega
            · obtain rfl : j = q.length := by omega
              have j2 : decide ((q.length : Int) < (q.length : Int)) = false := by simp
              have HRE := Lib.hid (HEN.out _ wb HNb.out (by have := HR.out; rw [← HLL.out, List.take_length] at this; exact this.mono HG0.out) HBb.out)
              obtain ⟨A3, c3, rfl, _, _⟩ := HLb.out.lst
              rw [HLL.out]
              clear HR HLb HNb hlt hj HEN
              go_wp2_with fail
              go_ret2
              exact HRE.out
        · have f1 : decide (((q.length : Nat) : Int) < k) = false := by simpa using hk
          go_wp2_with fail
          go_loopw [12, 13] (fun v n wr => ∃ j : Nat, n = .int .i64 j ∧ j ≤ q.length ∧ Hid (OwnT wr G2 v (yet (LL.take j))) ∧ Hid (OwnT wr w.heap.size v1 LL) ∧ Hid (OwnN wr w.heap.size u8 YN) ∧ Hid (Below w.heap.size w wr) ∧ Hid (G2 ≤ wr.heap.size)) (fun _ n _ => q.length - (intOf n).toNat)
          case atStart => exact ⟨0, rfl, Nat.zero_le _, Lib.hid (OwnT.nil _ _), HLa, HNa, HBa, HG1⟩
          case round =>
            clear HLa HNa HBa HG1
            obtain ⟨wb, ewb⟩ : ∃ wb, wb = wr := ⟨_, rfl⟩
            subst ewb
            obtain ⟨j, rfl, hj, HR, HLb, HNb, HBb, HGb⟩ := hrel
            by_cases hlt : j < q.length
            · have j0 : (0 : Int) ≤ (j : Int) := by omega
              have j1 : (j : Int) < (q.length : Int) := by omega
              have j2 : decide ((j : Int) < (q.length : Int)) = true := by simpa using j1
              have j2' : decide (j < q.length) = true := by simpa using hlt
              have hw1 : IntKind.i64.wrap ((j : Int) + 1) = (j : Int) + 1 := by have := HN.out; rw [IntWalk.i64_in _ (by omega)]
              have hll := HLL.out
              obtain ⟨A3, c3, e3, _, _⟩ := HLb.out.lst
              obtain ⟨g3, c4, e4, _, _, _, _, _⟩ := HLb.out.opened (by omega)
              rw [hll] at e4
              subst e4
              clear e3
              rw [← hll] at HLb
              obtain ⟨o0, o1, o2, o3⟩ := HLb.out.cell j (by omega)
              rw [hll] at HLb
              have hps := HPO.out j hlt
              have HYS := Lib.hid (yet_take_succ LL j (by omega))
              have HRL : Hid ((yet (LL.take j)).length ≤ 100) := Lib.hid (by have h1 := yet_len (LL.take j); have := HN.out; rw [List.length_take] at h1; omega)
              have HJ := Lib.hid (show j + 1 ≤ q.length ∧ j < q.length from ⟨hlt, hlt⟩)
              generalize td LL j = x at *
              by_cases hx : x.l = 0
              · have g0 : decide (0 < x.l) = false := by simp; omega
                have HR' : Hid (OwnT wb G2 _ (yet (LL.take (j + 1)))) := Lib.hid (by rw [HYS.out, if_pos hx]; exact HR.out)
                clear hlt hj hll hps hx HYS HR HRL
                go_wp2_with fail
                clear o0 o1 o2 o3
                go_roundw
                case rel => exact ⟨j + 1, by go_num, HJ.out.1, HR', HLb, HNb, HBb, HGb⟩
                case measure => have := HJ.out; simp [intOf]; omega
              · have g0 : decide (0 < x.l) = true := by simp; omega
                have HYS' : Hid (yet (LL.take (j + 1)) = yet (LL.take j) ++ [x]) := Lib.hid (by rw [HYS.out, if_neg hx])
                clear hlt hj hll hps hx HYS
                have hbb : Below wb.heap.size wb (wb.alloc (.cells #[.int .i64 x.w, .int .u64 x.i, .int .i64 x.s, .int .i64 x.l] 59)) := (Below.refl _ _).alloc (Nat.le_refl _) _
                have HB5 : Hid (Below w.heap.size w (wb.alloc (.cells #[.int .i64 x.w, .int .u64 x.i, .int .i64 x.s, .int .i64 x.l] 59))) := Lib.hid (HBb.out.trans (hbb.mono HBb.out.size))
                have HR5 := Lib.hid (HR.out.on hbb)
                have HL5 := Lib.hid (HLb.out.on hbb)
                have HN5 := Lib.hid (HNb.out.on hbb)
                have HG5 : Hid (G2 ≤ (wb.alloc (.cells #[.int .i64 x.w, .int .u64 x.i, .int .i64 x.s, .int .i64 x.l] 59)).heap.size) := Lib.hid (by have := HGb.out; have := hbb.size; omega)
                have HT5 := Lib.hid (Ts.one wb x 59)
                clear hbb HR HLb HNb HBb HGb
                go_wp2_with (at_builtin; refine wpList_appendTd rfl _ _ rfl G2 _ (yet (LL.take j)) rfl ?e30 (some ⟨wb.heap.size, 0, none⟩) 1 [x] rfl ?e31 ?e32 ?e33 ?_)
                case e30 => exact HR5.out
                case e31 => exact HT5.out
                case e32 => have := HRL.out; simp; omega
                case e33 => have := HG5.out; simpa using this
                intro rv w6 hown hgrow
                have HR6 : Hid (OwnT w6 G2 rv (yet (LL.take (j + 1)))) := Lib.hid (by rw [HYS'.out]; exact hown)
                have HB6 : Hid (Below w.heap.size w w6) := Lib.hid (HB5.out.grown hgrow HB5.out.size (fun b hb => by have := (HR5.out.ge b hb).1; have := HG0.out; omega))
                have HL6 := Lib.hid (HL5.out.grown hgrow (fun b hb e => by have h1 := HLV.out b hb; have := (HR5.out.ge b e).1; omega))
                have HN6 := Lib.hid (HN5.out.grown hgrow (fun b hb e => by have h1 := HLB.out b hb; have := (HR5.out.ge b e).1; omega))
                have HG6 : Hid (G2 ≤ w6.heap.size) := Lib.hid (by have := HG5.out; have := hgrow.size; omega)
                clear HB5 HR5 HL5 HN5 HG5 HT5 hown hgrow o0 o1 o2 o3
                go_wp2_with fail
                go_roundw
                case rel => exact ⟨j + 1, by go_num, HJ.out.1, HR6, HL6, HN6, HB6, HG6⟩
                case measure => have := HJ.out; simp [intOf]; omega
            · obtain rfl : j = q.length := by omega
              have j2 : decide ((q.length : Int) < (q.length : Int)) = false := by simp
              have HRE := Lib.hid (HEN.out _ wb HNb.out (by have := HR.out; rw [← HLL.out, List.take_length] at this; exact this.mono HG0.out) HBb.out)
              obtain ⟨A3, c3, rfl, _, _⟩ := HLb.out.lst
              rw [HLL.out]
              clear HR HLb HNb hlt hj HEN
              go_wp2_with fail
              go_ret2
              exact HRE.out
end Go.Proofs.Ytipepmnnjhhjbaa
