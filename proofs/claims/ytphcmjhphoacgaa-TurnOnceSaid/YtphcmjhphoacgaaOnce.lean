/-
  TurnOnce: in each whole order each node is asked just once: the law returns true for every input.
-/
import Derived.Test.YtphcmjhphoacgaaSt
import Derived.Test.YtphcmjhphoacgaaApp
namespace Go.Proofs.Ytphcmjhphoacgaa.lawOnce
open Go.Sort Go.ChangeShapes Go.WideShapes Go.ChangeAt Go.RowKit Go.Proofs.Ytphcmjhphoacgaa.Pure

def bad (s : ByteArray) (a : Int) (l : List Int) : Bool := !(decide (l.length ≤ 12) && (nodesB l && okD s a))

theorem many_one {l : List Int} {y : Int} (hl : numsB l = true) (hy : y ∈ l) : many l y = 1 := by rw [many_count, ((numsB_iff l).1 hl).2.count, if_pos hy]
/-- At the end of each whole order nobody is left. -/
theorem ends (L : List UInt8) (l : List Int) (hl : l ≠ []) (s : Tn) (h : left l s = []) : ∀ r, left l (run L l (r * l.length) s) = [] := by
  intro r
  induction r with
  | zero => rw [Nat.zero_mul]; exact h
  | succ r ih =>
    rw [Nat.add_mul, Nat.one_mul, run_add]
    exact (whole_left ih hl).1

set_option maxRecDepth 100000 in
set_option maxHeartbeats 4000000 in
theorem walk (s0 : ByteArray) (a : Int) (A : Option Addr) (c : Nat) (xs0 : List Int) (w : World) (hs0 : s0.size ≤ maxLen) (hxc : xs0.length ≤ c) (hcm : c ≤ maxLen) (hx0 : Has w 0 w.heap.size A xs0) :
    Calls Try.prog 5 #[.agg #[.string s0, .int .i64 a], .slice A xs0.length c] w fun e w' => e = .returned (.bool true) ∧ Below w.heap.size w w' := by
  have HF := Lib.hid (fun W => few_any s0 a W hs0)
  have HCut := Lib.hid (fun (W : World) (h : Has W 0 w.heap.size A xs0) => fewl_any A c 0 w.heap.size xs0 W hxc hcm h)
  have HX00 := Lib.hid hx0
  have HX0 : Hid (Has w 0 w.heap.size A (cutF xs0)) := Lib.hid (hx0.take 65)
  have hxl := cutF_len xs0
  have hft := fewB_size s0
  generalize fewB s0 = s at *
  generalize hX : cutF xs0 = l at *
  clear hx0 hX hxc
  go_enter Try.func5, Try.ntmps5
  go_wp2_with fail
  refine (HF.out _).mono ?_
  rintro e w1 ⟨rfl, hb1⟩
  go_wp2_with fail
  refine (HCut.out _ (HX00.out.on (((Below.refl _ _).alloc (Nat.le_refl _) _).trans (hb1.mono (by simp))) (Nat.le_refl _))).mono ?_
  rintro e w' ⟨rfl, rfl⟩
  have HD := Lib.hid (((Box.new w s0 a 26).on hb1).put s a)
  obtain ⟨x0, x1, xf0, xf1⟩ := (Box.new w s0 a 26).on hb1
  have hz1 : w.heap.size < w1.heap.size := by have := hb1.size; simp at this; omega
  have HB1 : Hid (Below w.heap.size w ((w1.setCell ⟨w.heap.size, 0, none⟩ (.string s)).setCell ⟨w.heap.size, 1, none⟩ (.int .i64 a))) :=
    Lib.hid (((((Below.refl _ _).alloc (Nat.le_refl _) _).trans (hb1.mono (by simp))).setCell (by simp) _).setCell (by simp) _)
  clear hb1 HCut HF HX00
  go_upto_region 2 with (fail)
  clear x0 x1 xf0 xf1 hz1
  generalize (w1.setCell ⟨w.heap.size, 0, none⟩ (.string s)).setCell ⟨w.heap.size, 1, none⟩ (.int .i64 a) = w2 at *
  obtain ⟨N, hN⟩ : ∃ N, nodesB l = N := ⟨_, rfl⟩
  obtain ⟨K, hK⟩ : ∃ K, okD s a = K := ⟨_, rfl⟩
  have HNS := Lib.hid (fun (W : World) (h : Has W 0 w.heap.size A l) (hh : w.heap.size ≤ W.heap.size) => nodes_t A c 0 w.heap.size l W (by omega) h hh N hN)
  have HKS := Lib.hid (fun (W : World) => rdmay_any s a W K hK)
  have hbad : Hid (bad s a l = !(decide (l.length ≤ 12) && (N && K))) := Lib.hid (by unfold bad; rw [hN, hK])
  clear hN hK
  go_cut [30] from 18 to 30 (fun sx wx => sx = .bool (bad s a l) ∧ Hid (Below w2.heap.size w2 wx))
  case first =>
    by_cases h12 : 12 < l.length
    · have d1 : decide ((12 : Int) < (l.length : Int)) = true := by simp; omega
      have d2 : decide (12 < l.length) = true := by simp; omega
      have d3 : decide (l.length ≤ 12) = false := by simp; omega
      go_wp2_with fail
      go_meet
      exact ⟨by rw [hbad.out, d3]; rfl, Lib.hid (Below.refl _ _)⟩
    · have d1 : decide ((12 : Int) < (l.length : Int)) = false := by simp; omega
      have d2 : decide (12 < l.length) = false := by simp; omega
      have d3 : decide (l.length ≤ 12) = true := by simp; omega
      go_wp2_with fail
      refine (HNS.out _ (HX0.out.on HB1.out (Nat.le_refl _)) HB1.out.size).mono ?_
      rintro e w3 ⟨rfl, hb3⟩
      have HC3 : Hid (Below w2.heap.size w2 w3) := Lib.hid hb3
      have HD3 := Lib.hid (HD.out.on hb3)
      clear hb3
      rcases N with _ | _
      · have z1 : okE false = 1 := rfl
        go_wp2_with fail
        go_meet
        exact ⟨by rw [hbad.out, d3]; rfl, HC3⟩
      · have z0 : okE true = 0 := rfl
        obtain ⟨y0, y1, _, _⟩ := HD3.out
        go_wp2_with fail
        refine (HKS.out _).mono ?_
        rintro e w4 ⟨rfl, hb4⟩
        have HC4 : Hid (Below w2.heap.size w2 w4) := Lib.hid (HC3.out.trans (hb4.mono HC3.out.size))
        clear hb4 y0 y1
        go_wp2_with fail
        go_meet
        exact ⟨by rw [hbad.out, d3]; cases K <;> rfl, HC4⟩
  case rest =>
  obtain ⟨rfl, HC⟩ := hcut
  have HCo := HC.out
  have HB_1 : Hid (Below w.heap.size w wc) := Lib.hid (HB1.out.trans (HCo.mono HB1.out.size))
  have D_1 := Lib.hid (HD.out.on HCo)
  clear HB1 HD HCo
  have HBD : Hid (bad s a l = false → l.length ≤ 12 ∧ nodesB l = true ∧ 0 ≤ a ∧ a ≤ (s.size : Int)) := Lib.hid (fun h => by
    simp only [bad, okD, Bool.not_eq_false', Bool.and_eq_true, decide_eq_true_iff] at h
    exact ⟨h.1, h.2.1, h.2.2.1, h.2.2.2⟩)
  generalize bad s a l = B at *
  clear hbad HNS HKS HC
  rcases B with _ | _
  rotate_left
  · go_wp2_with fail
    refine (awake_any _).mono ?_
    rintro e wE ⟨rfl, hbE⟩
    have HE : Hid (Below w.heap.size w wE) := Lib.hid (HB_1.out.trans (hbE.mono HB_1.out.size))
    clear hbE
    go_wp2_with fail
    go_ret
    exact ⟨rfl, HE.out⟩
  obtain ⟨h12, hn, ha0, ha1⟩ := HBD.out rfl
  obtain ⟨b, rfl⟩ := Int.eq_ofNat_of_zero_le ha0
  have hb' : b ≤ s.size := by omega
  clear HBD
  go_upto_region 5 with (fail)
  have hbn : Below wc.heap.size wc (wc.alloc (.cells #[.slice none 0 0, .int .i64 0] 24)) := (Below.refl _ _).alloc (Nat.le_refl _) _
  have HT := Lib.hid (Tb.new wc (.slice none 0 0) 0 24)
  have hgw : Hid (w.heap.size < wc.heap.size) := Lib.hid D_1.out.lt
  have HB_2 : Hid (Below w.heap.size w (wc.alloc (.cells #[.slice none 0 0, .int .i64 0] 24))) := Lib.hid (HB_1.out.trans (hbn.mono HB_1.out.size))
  have D_2 := Lib.hid (D_1.out.on hbn)
  clear HB_1 D_1 hbn
  have hgs : Hid (wc.heap.size < (wc.alloc (.cells #[.slice none 0 0, .int .i64 0] 24)).heap.size) := Lib.hid (by simp)
  generalize wc.alloc (.cells #[.slice none 0 0, .int .i64 0] 24) = w4 at *
  generalize wc.heap.size = gt at *
  have HV : Hid (Sv w4 gt w.heap.size s (fun j => (Value.slice none 0 0).ownBlock = some j) (run s.data.toList l (0 * l.length) ⟨[], 0, b⟩)) := Lib.hid (by rw [Nat.zero_mul]; exact Sv.start HT.out D_2.out)
  clear HT D_2
  have HE : Hid (l ≠ [] → ∀ r, left l (run s.data.toList l (r * l.length) ⟨[], 0, b⟩) = []) := Lib.hid (fun h r => ends _ l h _ rfl r)
  have hok0 : Hid (l ≠ [] → ∀ k, OkS s.data.toList (run s.data.toList l k ⟨[], 0, b⟩)) := Lib.hid (fun h k => run_ok ⟨nums_nil, Nat.le_refl _, by simpa using hb'⟩ (nodesB_nums hn) h k)
  have HLN0 := Lib.hid (fun (hln : l ≠ []) (W : World) (st : Tn) (A3 : Option Addr) (c3 lo hi : Nat) (hst : OkS s.data.toList st) (h : Has W lo hi A3 st.T) (hh : hi ≤ W.heap.size) (h' : Has W 0 w.heap.size A l) (hh' : w.heap.size ≤ W.heap.size) => l_next s st A3 A c3 c lo hi 0 w.heap.size l W (by omega) hst hn hln h hh h' hh')
  go_wp2_with fail
  go_loopw [6] (fun i wr => ∃ r : Nat, i = .int .i64 r ∧ r ≤ 3 ∧ Hid (Sv wr gt w.heap.size s (fun j => (Value.slice none 0 0).ownBlock = some j) (run s.data.toList l (r * l.length) ⟨[], 0, b⟩)) ∧ Hid (gt < wr.heap.size) ∧ Hid (Below w.heap.size w wr)) (fun i _ => 3 - (intOf i).toNat)
  case atStart => exact ⟨0, rfl, by omega, HV, hgs, HB_2⟩
  case round =>
    clear HV hgs HB_2
    obtain ⟨r, rfl, hr, hv0, hgr, hbr⟩ := hrel
    by_cases hr3 : r < 3
    · have e1 : decide ((r : Int) < 3) = true := decide_eq_true (by omega)
      have e2 : decide (r < 3) = true := decide_eq_true hr3
      obtain ⟨wO, hwO⟩ : ∃ wO, wO = wr := ⟨_, rfl⟩
      subst hwO
      have hE := Lib.hid (fun h => HE.out h r)
      have hok : Hid (l ≠ [] → ∀ k, OkS s.data.toList (run s.data.toList l k (run s.data.toList l (r * l.length) ⟨[], 0, b⟩))) := Lib.hid (fun h k => by rw [← run_add]; exact hok0.out h _)
      have hNX : Hid (run s.data.toList l ((r + 1) * l.length) ⟨[], 0, b⟩ = run s.data.toList l l.length (run s.data.toList l (r * l.length) ⟨[], 0, b⟩)) := Lib.hid (by rw [Nat.add_mul, Nat.one_mul, run_add])
      have HPN : Hid ((run s.data.toList l l.length (run s.data.toList l (r * l.length) ⟨[], 0, b⟩)).p = l.length) := Lib.hid (by
        by_cases h : l = []
        · subst h; rfl
        · exact (whole_left (HE.out h r) h).2)
      have HMA : Hid (∀ q, q < l.length → many (asked s.data.toList l (run s.data.toList l (r * l.length) ⟨[], 0, b⟩) l.length) (l.getD q 0) = 1) := Lib.hid (fun q hq => by
        have h : l ≠ [] := fun h => by rw [h] at hq; simp at hq
        rw [whole_asked (HE.out h r), many_perm (order_perm _ l)]
        exact many_one (nodesB_nums hn) (getD_mem l q hq))
      generalize run s.data.toList l (r * l.length) ⟨[], 0, b⟩ = sr at *
      go_wp2_with fail
      go_loopw [7, 8] (fun (va : Value) i wr => ∃ k : Nat, i = .int .i64 k ∧ k ≤ l.length ∧ Hid (Sv wr gt w.heap.size s (fun j => va.ownBlock = some j) (run s.data.toList l k sr)) ∧ Hid (Own wr wO.heap.size va (asked s.data.toList l sr k)) ∧ Hid (wO.heap.size ≤ wr.heap.size) ∧ Hid (Below w.heap.size w wr)) (fun _ i _ => l.length - (intOf i).toNat)
      case atStart => exact ⟨0, rfl, Nat.zero_le _, hv0, Lib.hid (Own.nil _ _), Lib.hid (Nat.le_refl _), hbr⟩
      case round =>
        clear hv0 hbr
        obtain ⟨k, rfl, hk, hv, hw, hcb, hb⟩ := hrel
        by_cases hlt : k < l.length
        · have hln : l ≠ [] := fun h => by rw [h] at hlt; simp at hlt
          have hok' := Lib.hid (hok.out hln)
          have HLN := Lib.hid (HLN0.out hln)
          clear hok
          have hok := hok'
          clear hok'
          have hg1 := hgw.out
          have hg2 := hgr.out
          have e3 : decide ((k : Int) < (l.length : Int)) = true := decide_eq_true (by omega)
          have e4 : decide (k < l.length) = true := decide_eq_true hlt
          have HGE := Lib.hid hw.out.ge
          have hst := hok.out k
          have HKN := Lib.hid (fun W A3 c3 lo hi => HLN.out W _ A3 c3 lo hi hst)
          have HAS := Lib.hid (asked_succ (L := s.data.toList) (l := l) (s := sr) k)
          have hasl := asked_len (L := s.data.toList) (l := l) (s := sr) k
          obtain ⟨st', hst'⟩ : ∃ st', st' = stp s.data.toList l (run s.data.toList l k sr) := ⟨_, rfl⟩
          rw [← hst'] at HKN
          have HS' : Hid (st' = run s.data.toList l (k + 1) sr) := Lib.hid hst'
          obtain ⟨y, hy⟩ : ∃ y, y = who s.data.toList l (run s.data.toList l k sr) := ⟨_, rfl⟩
          rw [← hy] at HKN HAS
          clear hst' hst hy
          obtain ⟨ask, hask⟩ : ∃ ask, ask = asked s.data.toList l sr k := ⟨_, rfl⟩
          rw [← hask] at hw HAS hasl
          clear hask
          generalize (run s.data.toList l k sr) = st at *
          obtain ⟨A3, c3, hT, hD, hC⟩ := hv.out
          obtain ⟨t0, t1, tf0, tf1⟩ := hT
          obtain ⟨y0, y1, yf0, yf1⟩ := hD
          obtain ⟨lo, hi, hC1, _, hC3⟩ := hC
          have hgt := hv.out.lt
          go_wp2_with fail
          refine (HKN.out wr A3 c3 lo hi hC3 hC1 (HX0.out.on hb.out (Nat.le_refl _)) hb.out.size).mono ?_
          rintro e w7 ⟨A4, c4, rfl, hh4, hb7⟩
          have HH4 : Hid (Clear w7 (fun j => j = gt ∨ j = w.heap.size ∨ u7.ownBlock = some j) A4 st'.T) := Lib.hid (hh4.clear (Nat.le_refl _) (fun j hj => .inl (by rcases hj with h | h | h <;> (first | omega | exact (hw.out.ge j h).2))))
          clear t0 t1 tf0 tf1 y0 y1 yf0 yf1 hC1 hC3 HKN hh4
          have hz7 := Lib.hid hb7.size
          have HB_3 : Hid (Below w.heap.size w w7) := Lib.hid (hb.out.trans (hb7.mono hb.out.size))
          have V_3 := Lib.hid (hv.out.on hb7)
          have W_3 := Lib.hid (hw.out.on hb7)
          clear hb hv hw hb7
          obtain ⟨hT', hD', hbn⟩ := boxes_new w7 (.slice A4 st'.T.length c4) (st'.p : Nat) s (st'.a : Nat)
          have HT' := Lib.hid hT'
          have HD' := Lib.hid hD'
          have HH5 := Lib.hid (HH4.out.on hbn)
          have hz8 : Hid (w7.heap.size + 1 < ((w7.alloc (.cells #[.slice A4 st'.T.length c4, .int .i64 (st'.p : Nat)] 24)).alloc (.cells #[.string s, .int .i64 (st'.a : Nat)] 26)).heap.size) := Lib.hid (by simp)
          clear hT' hD' HH4
          have HB_4 : Hid (Below w.heap.size w ((w7.alloc (.cells #[.slice A4 st'.T.length c4, .int .i64 (st'.p : Nat)] 24)).alloc (.cells #[.string s, .int .i64 (st'.a : Nat)] 26))) := Lib.hid (HB_3.out.trans (hbn.mono HB_3.out.size))
          have V_4 := Lib.hid (V_3.out.on hbn)
          have W_4 := Lib.hid (W_3.out.on hbn)
          clear HB_3 V_3 W_3 hbn
          go_upto_region 13 with (fail)
          generalize (w7.alloc (.cells #[.slice A4 st'.T.length c4, .int .i64 (st'.p : Nat)] 24)).alloc (.cells #[.string s, .int .i64 (st'.a : Nat)] 26) = w8 at *
          generalize w7.heap.size = g1 at *
          go_upto_region 15 with (fail)
          have hb9 : Below w8.heap.size w8 (w8.alloc (.cells #[.int .i64 y] 3)) := (Below.refl _ _).alloc (Nat.le_refl _) _
          have hw1 := hcb.out
          have hw2 := hz7.out
          have hw3 := hz8.out
          have HW9 := Lib.hid (W_4.out.on hb9)
          have HV9 := Lib.hid (V_4.out.on hb9)
          have HT9 := Lib.hid (HT'.out.on hb9)
          have HD9 := Lib.hid (HD'.out.on hb9)
          have HH9 := Lib.hid (HH5.out.on hb9)
          have HB9 := Lib.hid (HB_4.out.trans (hb9.mono HB_4.out.size))
          go_wp2_with (at_builtin; refine append_one rfl _ _ rfl wO.heap.size u7 ask rfl HW9.out w8.heap.size y rfl ?c1 ?c2 ?c3 ?_)
          case c1 => go_simp
          case c2 => omega
          case c3 => simp; omega
          intro v' w10 hown hgrow hloc
          have hsz9 : (w8.alloc (.cells #[.int .i64 y] 3)).heap.size = w8.heap.size + 1 := by simp
          generalize w8.alloc (.cells #[.int .i64 y] 3) = w9 at *
          clear hb9
          have hge := HGE.out
          have hgw' := hgw.out
          have HC10 : Hid (Clear w10 (fun j => j = gt ∨ j = w.heap.size ∨ v'.ownBlock = some j) A4 st'.T) := Lib.hid (((HH9.out.imp (Y := fun j => (j = gt ∨ j = w.heap.size ∨ u7.ownBlock = some j) ∨ v'.ownBlock = some j) (fun j hj => by
            rcases hj with h | h
            · exact .inl h
            · rcases hloc with e | e
              · exact .inl (.inr (.inr (e ▸ h)))
              · rw [e] at h; injection h with h; exact .inr (by omega))).grown hgrow (fun j hj => .inl (.inr (.inr hj)))).imp (fun j hj => .inl (by
            rcases hj with h | h | h
            · exact .inl (.inl h)
            · exact .inl (.inr (.inl h))
            · exact .inr h)))
          have hr0 : u7.ownBlock ≠ some (gt) := fun h => by have := (hge _ h).1; omega
          have hr1 : u7.ownBlock ≠ some (w.heap.size) := fun h => by have := (hge _ h).1; omega
          have hr2 : u7.ownBlock ≠ some g1 := fun h => by have := (hge _ h).2; omega
          have hr3 : u7.ownBlock ≠ some (g1 + 1) := fun h => by have := (hge _ h).2; omega
          obtain ⟨A5, c5, hT5, hD5, _⟩ := HV9.out
          have HT5 := Lib.hid (hT5.grown hgrow hr0)
          have HD5 := Lib.hid (hD5.grown hgrow hr1)
          have HT6 := Lib.hid (HT9.out.grown hgrow hr2)
          have HD6 := Lib.hid (HD9.out.grown hgrow hr3)
          have HB10 : Hid (Below w.heap.size w w10) := Lib.hid (HB9.out.grown hgrow HB9.out.size (fun j hj => by have := (hge _ hj).1; omega))
          have HO10 := Lib.hid hown
          have hz10 : Hid (wO.heap.size ≤ w10.heap.size) := Lib.hid (by have := hgrow.size; omega)
          clear hown hgrow hloc hge hT5 hD5 HV9 HT9 HD9 HH9 HW9 HB9 HT' HD' HH5 hr0 hr1 hr2 hr3 hsz9
          obtain ⟨t0, t1, tf0, tf1⟩ := HT5.out
          obtain ⟨y0, y1, yf0, yf1⟩ := HD5.out
          obtain ⟨e0', e1', _, _⟩ := HT6.out
          obtain ⟨d0, d1, _, _⟩ := HD6.out
          have n1 : ¬ g1 = gt := by omega
          have n2 : ¬ g1 + 1 = gt := by omega
          have n3 : ¬ g1 = w.heap.size := by omega
          have n4 : ¬ g1 + 1 = w.heap.size := by omega
          have n5 : ¬ gt = w.heap.size := by omega
          have n6 : ¬ w.heap.size = gt := by omega
          go_wp2_with fail
          go_region
          go_wp2_with fail
          go_roundw
          case rel => exact ⟨k + 1, by go_num, by omega, Lib.hid (by rw [← HS'.out]; exact Sv.put HT5.out HD5.out (by omega) A4 c4 HC10.out), Lib.hid (by rw [HAS.out]; exact HO10.out.four (by omega) (by omega) _ _ _ _), Lib.hid (by simp [World.setCell, World.drew]; exact hz10.out), Lib.hid (below_four HB10.out (by omega) (Nat.le_refl _) _ _ _ _)⟩
          case measure => simp [intOf]; omega
        · obtain rfl : k = l.length := by omega
          have e3 : decide ((l.length : Int) < (l.length : Int)) = false := by simp
          obtain ⟨A7, c7, he7, _, hh7⟩ := hw.out.has
          have hasl := asked_len (L := s.data.toList) (l := l) (s := sr) l.length
          subst he7
          rw [hasl]
          have HVN : Hid (Sv wr gt w.heap.size s (fun j => (Value.slice none 0 0).ownBlock = some j) (run s.data.toList l ((r + 1) * l.length) ⟨[], 0, b⟩)) := Lib.hid (by
            rw [hNX.out]
            obtain ⟨A3, c3, h1, h2, h3⟩ := hv.out
            exact ⟨A3, c3, h1, h2, h3.imp (fun k hk => by rcases hk with h | h | h <;> (first | exact .inl (.inl h) | exact .inl (.inr (.inl h)) | cases h))⟩)
          have HMY := Lib.hid (fun (y : Int) => many_any A7 c7 wO.heap.size wr.heap.size (asked s.data.toList l sr l.length) y wr (by rw [hasl]; omega) hh7)
          rw [hasl] at HMY
          obtain ⟨A5, c5, hT5, _, _⟩ := hv.out
          rw [HPN.out] at hT5
          have HT5 := Lib.hid hT5
          have HLX : Hid (Has wr 0 w.heap.size A l) := Lib.hid (HX0.out.on hb.out (Nat.le_refl _))
          clear hh7 hv hw hT5 hok HLN0
          generalize asked s.data.toList l sr l.length = ask at *
          have hgr' : Hid (gt < wr.heap.size) := Lib.hid HT5.out.lt
          go_wp2_with fail
          go_loop [13] (fun i => ∃ q : Nat, i = .int .i64 q ∧ q ≤ l.length) (fun i => l.length - (intOf i).toNat)
          case atStart => exact ⟨0, rfl, Nat.zero_le _⟩
          case round =>
            obtain ⟨q, rfl, hq⟩ := hrel
            by_cases hqt : q < l.length
            · obtain ⟨ad, rfl, _, _, hcq⟩ := HLX.out q hqt
              have hma := HMA.out q hqt
              have q0 : (0 : Int) ≤ (q : Int) := by omega
              have q1 : (q : Int) < (l.length : Int) := by omega
              have HM1 := Lib.hid (HMY.out (l.getD q 0))
              rw [hma] at HM1
              clear hma
              generalize l.getD q 0 = y at *
              go_wp2_with fail
              refine HM1.out.mono ?_
              rintro e w' ⟨rfl, rfl⟩
              clear HM1
              go_wp2_with fail
              go_round
              case rel => exact ⟨q + 1, by go_num, by omega⟩
              case measure => simp [intOf]; omega
            · obtain rfl : q = l.length := by omega
              obtain ⟨t0, t1, _, _⟩ := HT5.out
              have e5 : ((l.length : Int) != (l.length : Int)) = false := by simp
              go_wp2_with fail
              go_roundw
              case rel => exact ⟨r + 1, by go_num, by omega, HVN, hgr', hb⟩
              case measure => simp [intOf]; omega
    · obtain rfl : r = 3 := by omega
      clear hv0
      go_wp2_with fail
      refine (awake_any _).mono ?_
      rintro e wE ⟨rfl, hbE⟩
      have HE : Hid (Below w.heap.size w wE) := Lib.hid (hbr.out.trans (hbE.mono hbr.out.size))
      clear hbE
      go_wp2_with fail
      go_ret
      exact ⟨rfl, HE.out⟩

/-! ### the statement -/
theorem parOk : ∀ t ∈ (#[26, 22] : Array TypeId).toList, Try.prog.readableRec t = true ∧ t < Try.prog.types.size := by
  have hall : ([26, 22].all fun t => Try.prog.readableRec t && decide (t < Try.prog.types.size)) = true := by kernel_rfl
  intro t ht
  simpa using List.all_eq_true.1 hall t ht

set_option maxRecDepth 100000 in
/-- What the walk gives, for every argument. -/
theorem contract (H : Type) (enc : TypeId × Value → H) (W : World) (base : Nat) (args : Array Value) (ds gs : List (DataW H)) (before : List MemPlace)
    (hval : ∀ (j : Nat) t v, Try.f5.params[j]? = some t → args[j]? = some v → Value.okWide Try.prog W .any base t v)
    (hW : DataW.Whole enc Try.prog Try.f5.params.toList Rows.turnOnceSpec.vars false W args.toList ds gs before) :
    Calls Try.prog 5 args W fun e W' => ∃ v, e = .returned v ∧ Rows.turnOnceSpec.post enc Try.prog Try.f5 false true false false W args v W' := by
  have hW' := hW
  obtain ⟨p, q, hA0, hV, rfl, hfz, hnd⟩ := hW
  have hA : DataW.TrodAll enc Try.prog W 0 (fun _ => true) true Try.f5.params.toList args.toList ds p := hA0
  rw [Try.params5] at hA hval
  obtain ⟨v0, vs0, d0, ds0, p0, q0, hargs, rfl, rfl, h0, r0⟩ := trodAll_cons hA
  obtain ⟨v1, vs1, d1, ds1, p1, q1, rfl, rfl, rfl, h1, r1⟩ := trodAll_cons r0
  obtain ⟨rfl, rfl, rfl⟩ := trodAll_nil r1
  obtain rfl : args = #[v0, v1] := by cases args; simp_all
  obtain ⟨rfl, rfl⟩ := trodVars_none hV
  obtain ⟨s, a, rfl, hs, _, _⟩ := open_dice (hval 0 26 v0 rfl rfl) h0
  obtain ⟨A, c, xs, rfl, hxc, hcm, hx⟩ := open_nums (hval 1 22 v1 rfl rfl) h1
  clear hA0
  refine (walk s a A c xs W hs hxc hcm hx).mono fun e W' ⟨he, hb⟩ => ?_
  subst he
  exact ⟨_, rfl, law_post rfl (by rw [Try.params5]; exact parOk) rfl hW' rfl rfl rfl hb⟩

set_option maxRecDepth 100000 in
theorem lifted (os : Os) (started : os.Started) (H : Type) (enc : TypeId × Value → H) :
    ReturnsInHanded {} Try.checked os 5 .any (Rows.turnOnceSpec.pre6 enc Try.prog Try.f5 Rows.turnOnceRow.domain false) (Rows.turnOnceSpec.post enc Try.prog Try.f5 false true false false) := by
  refine returnsInHanded_of_change (C := Try.checked) own started (by kernel_rfl) Try.func5
    (ChangeSpec.witness6 (enc := enc) (C := Try.checked) false ⟨#[], #[.agg #[.string ⟨#[]⟩, .int .i64 0], .slice none 0 0], []⟩ 8 (by kernel_rfl) (by kernel_rfl) (by kernel_rfl) (by kernel_rfl)) ?_
  intro W base args ds gs before hval hW _ _
  exact contract H enc W base args ds gs before hval hW

/-- THE STATEMENT. -/
theorem said : Rows.TurnOnceSaid :=
  OpenClaim.holds_of_wide 5 Try.f5 rfl rfl rfl rfl rfl rfl rfl ⟨rfl, rfl, rfl, rfl, rfl⟩ rfl rfl rfl rfl rfl (by kernel_rfl) Try.func5 (by kernel_rfl)
    (of_decide_eq_true (by kernel_rfl)) (by unfold Func.isWrapper; first | (rw [if_pos (by decide +kernel)]; kernel_rfl) | (rw [if_neg (by decide +kernel)]; exact ⟨rfl, rfl⟩))
    (fun os started H enc _ => lifted os started H enc)
end Go.Proofs.Ytphcmjhphoacgaa.lawOnce
