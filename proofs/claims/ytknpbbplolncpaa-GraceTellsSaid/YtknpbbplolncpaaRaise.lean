/-
  The walk of Raise.
-/
import Derived.Test.YtknpbbplolncpaaSearch
namespace Go.Proofs.Ytknpbbplolncpaa
open Go.Sort Go.RowKit Go.Proofs.Ytknpbbplolncpaa.Pure

/-- A call answers doubts, of its own, and an error. -/
def GivesD (w : World) (R : List Dt) (er : Int) (e : Ending) (w' : World) : Prop :=
  ∃ v ys, e = .returned (.tuple #[v, .int .i64 er]) ∧ OwnD w' w.heap.size v ys ∧ ys.map Db.ct = R ∧ Below w.heap.size w w'
theorem gives {w w' : World} {R : List Dt} {er : Int} {v : Value} {ys : List Db} (h1 : OwnD w' w.heap.size v ys) (h2 : ys.map Db.ct = R) (hb : Below w.heap.size w w') : GivesD w R er (.returned (.tuple #[v, .int .i64 er])) w' := ⟨v, ys, rfl, h1, h2, hb⟩

set_option maxRecDepth 100000 in
set_option maxHeartbeats 2000000 in
theorem raise_bad (A : Option Addr) (c hi : Nat) (l : List Db) (who inc b now : Int) (w : World) (hs : Sm l) (h : Ds w hi A l) (hh : hi ≤ w.heap.size) (hm : mayR (l.map Db.ct) who b now = false) :
    Calls Try.prog 16 #[.slice A l.length c, .int .i64 who, .int .u64 inc, .int .i64 b, .int .i64 now] w (GivesD w (l.map Db.ct) 1) := by
  have HC := Lib.hid (copied_any A c hi l w hs h hh)
  obtain ⟨L, hL⟩ : ∃ L, mayD (l.map Db.ct) = L := ⟨_, rfl⟩
  have HK := Lib.hid (fun (W : World) (hb : Below w.heap.size w W) => check_any A c hi l W hs (h.on hb hh) (Nat.le_trans hh hb.size) L hL)
  have H1 := Lib.hid (fun W => node_any who W)
  have H2 := Lib.hid (fun W => node_any b W)
  have H3 := Lib.hid (fun W => tick_any now W)
  have HM : Hid ((L && (nodeB who && (nodeB b && tickB now))) = false) := Lib.hid (by rw [← hL]; exact hm)
  clear h hs hh hm hL
  generalize nodeB who = M1 at *
  generalize nodeB b = M2 at *
  generalize tickB now = M3 at *
  go_enter Try.func16, Try.ntmps16
  go_upto_region 2 with (go_at_call 31; refine HC.out.mono ?_; rintro e w1 ⟨v, ys, rfl, ho, he, hb⟩)
  have HO1 := Lib.hid ho
  have HE := Lib.hid he
  have HB1 := Lib.hid hb
  clear HC ho he hb
  have HKK := Lib.hid (HK.out w1 HB1.out)
  clear HK
  rcases L with _ | _
  · have hk : okE false = 1 := rfl
    rw [hk] at HKK
    go_wp2_with (go_at_call 14; refine HKK.out.mono ?_; rintro e w2 ⟨rfl, hb2⟩)
    refine bodyPost_ret (v := .tuple #[v, .int .i64 1]) (by simp [results, Try.results16, go_sem]) rfl ?_
    exact gives (HO1.out.on hb2) HE.out (HB1.out.trans (hb2.mono HB1.out.size))
  have hk : okE true = 0 := rfl
  rw [hk] at HKK
  rcases M1 with _ | _
  · go_wp2_with (first | (go_at_call 14; refine HKK.out.mono ?_; rintro e w2 ⟨rfl, hb2⟩) | (go_at_call 32; refine (H1.out _).mono ?_; rintro e w' ⟨rfl, rfl⟩))
    refine bodyPost_ret (v := .tuple #[v, .int .i64 1]) (by simp [results, Try.results16, go_sem]) rfl ?_
    exact gives (HO1.out.on hb2) HE.out (HB1.out.trans (hb2.mono HB1.out.size))
  rcases M2 with _ | _
  · go_wp2_with (first | (go_at_call 14; refine HKK.out.mono ?_; rintro e w2 ⟨rfl, hb2⟩) | (go_at_call 32; first | (with_reducible refine (H1.out _).mono ?_; rintro e w' ⟨rfl, rfl⟩) | (with_reducible refine (H2.out _).mono ?_; rintro e w' ⟨rfl, rfl⟩)))
    refine bodyPost_ret (v := .tuple #[v, .int .i64 1]) (by simp [results, Try.results16, go_sem]) rfl ?_
    exact gives (HO1.out.on hb2) HE.out (HB1.out.trans (hb2.mono HB1.out.size))
  obtain rfl : M3 = false := by
    rcases M3 with _ | _
    · rfl
    · exact absurd HM.out (by decide)
  go_wp2_with (first | (go_at_call 14; refine HKK.out.mono ?_; rintro e w2 ⟨rfl, hb2⟩) | (go_at_call 32; first | (with_reducible refine (H1.out _).mono ?_; rintro e w' ⟨rfl, rfl⟩) | (with_reducible refine (H2.out _).mono ?_; rintro e w' ⟨rfl, rfl⟩)) | (go_at_call 28; refine (H3.out _).mono ?_; rintro e w' ⟨rfl, rfl⟩))
  refine bodyPost_ret (v := .tuple #[v, .int .i64 1]) (by simp [results, Try.results16, go_sem]) rfl ?_
  exact gives (HO1.out.on hb2) HE.out (HB1.out.trans (hb2.mono HB1.out.size))

theorem mayR_iff (l : List Dt) (who b now : Int) : mayR l who b now = true ↔ mayD l = true ∧ nodeB who = true ∧ nodeB b = true ∧ tickB now = true := by simp [mayR]
theorem raise_put {l : List Dt} {who inc b now : Int} (h : hitN (whos l) who = false) : raiseD l who inc b now = l.take (posN (whos l) who) ++ ⟨who, inc, now, [b]⟩ :: l.drop (posN (whos l) who) := by
  unfold raiseD; rw [if_neg (by rw [h]; decide)]
theorem raise_new {l : List Dt} {who inc b now : Int} (h : hitN (whos l) who = true) (h2 : (dt l (posN (whos l) who)).i < inc) : raiseD l who inc b now = l.set (posN (whos l) who) ⟨who, inc, now, [b]⟩ := by
  unfold raiseD; rw [if_pos h, if_pos h2]
theorem raise_with {l : List Dt} {who inc b now : Int} (h : hitN (whos l) who = true) (h2 : (dt l (posN (whos l) who)).i = inc) : raiseD l who inc b now = l.set (posN (whos l) who) ⟨(dt l (posN (whos l) who)).w, (dt l (posN (whos l) who)).i, (dt l (posN (whos l) who)).t, withN (dt l (posN (whos l) who)).b b⟩ := by
  unfold raiseD; rw [if_pos h, if_neg (by omega), if_pos h2]
theorem raise_old {l : List Dt} {who inc b now : Int} (h : hitN (whos l) who = true) (h2 : inc < (dt l (posN (whos l) who)).i) : raiseD l who inc b now = l := by
  unfold raiseD; rw [if_pos h, if_neg (by omega), if_neg (by omega)]

set_option maxRecDepth 100000 in
set_option maxHeartbeats 4000000 in
theorem raise_ok (A : Option Addr) (c hi : Nat) (l : List Db) (who inc b now : Int) (w : World) (hs : Sm l) (h : Ds w hi A l) (hh : hi ≤ w.heap.size) (hm : mayR (l.map Db.ct) who b now = true) :
    Calls Try.prog 16 #[.slice A l.length c, .int .i64 who, .int .u64 inc, .int .i64 b, .int .i64 now] w (GivesD w (raiseD (l.map Db.ct) who inc b now) 0) := by
  obtain ⟨hm1, hm2, hm3, hm4⟩ := (mayR_iff _ _ _ _).1 hm
  have HC := Lib.hid (copied_any A c hi l w hs h hh)
  have HK := Lib.hid (fun (W : World) (hb : Below w.heap.size w W) => check_any A c hi l W hs (h.on hb hh) (Nat.le_trans hh hb.size) true hm1)
  have hk : okE true = 0 := rfl
  rw [hk] at HK
  have H1 := Lib.hid (fun W => node_any who W)
  have H2 := Lib.hid (fun W => node_any b W)
  have H3 := Lib.hid (fun W => tick_any now W)
  rw [hm2] at H1
  rw [hm3] at H2
  rw [hm4] at H3
  have HS := Lib.hid hs
  have HMD := Lib.hid hm1
  clear h hs hh hm hm1 hm2 hm3 hm4 hk
  go_enter Try.func16, Try.ntmps16
  go_upto_region 2 with (go_at_call 31; refine HC.out.mono ?_; rintro e w1 ⟨v, ys, rfl, ho, he, hb⟩)
  have HO1 := Lib.hid ho
  have HSY := Lib.hid (HS.out.ct he)
  have HMY : Hid (mayD (ys.map Db.ct) = true) := Lib.hid (by rw [he]; exact HMD.out)
  have HE := Lib.hid he
  have HB1 := Lib.hid hb
  clear HC ho he hb HMD HS
  have HKK := Lib.hid (HK.out w1 HB1.out)
  clear HK
  go_upto_region 4 with (first | (go_at_call 14; refine HKK.out.mono ?_; rintro e w2 ⟨rfl, hb2⟩) | (go_at_call 32; first | (with_reducible refine (H1.out _).mono ?_; rintro e w' ⟨rfl, rfl⟩) | (with_reducible refine (H2.out _).mono ?_; rintro e w' ⟨rfl, rfl⟩)) | (go_at_call 28; refine (H3.out _).mono ?_; rintro e w' ⟨rfl, rfl⟩))
  have HO2 := Lib.hid (HO1.out.on hb2)
  have HB2 : Hid (Below w.heap.size w w2) := Lib.hid (HB1.out.trans (hb2.mono HB1.out.size))
  clear HKK hb2 HO1 HB1 H1 H2 H3
  obtain ⟨x, hx⟩ : ∃ x : Db, x = ⟨who, inc, now, some ⟨w2.heap.size, 0, none⟩, 1, [b]⟩ := ⟨_, rfl⟩
  have hba : Below w2.heap.size w2 (w2.alloc (.cells #[.int .i64 b] 3)) := (Below.refl _ _).alloc (Nat.le_refl _) _
  have hbb : Below w2.heap.size w2 ((w2.alloc (.cells #[.int .i64 b] 3)).alloc (.cells #[.int .i64 who, .int .u64 inc, .int .i64 now, .slice (some ⟨w2.heap.size, 0, none⟩) 1 1] 55)) := hba.alloc (by simp) _
  have BX : Hid (Bt ((w2.alloc (.cells #[.int .i64 b] 3)).alloc (.cells #[.int .i64 who, .int .u64 inc, .int .i64 now, .slice (some ⟨w2.heap.size, 0, none⟩) 1 1] 55)) (w2.heap.size + 1) x) := Lib.hid (by
    have := Bt.new (w2.alloc (.cells #[.int .i64 b] 3)) x 55
    rw [hx] at this ⊢
    simpa using this)
  have RX : Hid (Rd ((w2.alloc (.cells #[.int .i64 b] 3)).alloc (.cells #[.int .i64 who, .int .u64 inc, .int .i64 now, .slice (some ⟨w2.heap.size, 0, none⟩) 1 1] 55)) (fun k => k = w2.heap.size) x) := Lib.hid (by
    rw [hx]
    refine ⟨((Ns.one w2 b 3).imp fun k hk hk2 => ?_).on ((Below.refl _ _).alloc (Nat.le_refl _) _), Nat.le_refl _, by show (1 : Nat) ≤ maxLen; unfold maxLen; omega⟩
    show k = w2.heap.size
    simp at hk
    omega)
  have HO3 := Lib.hid (HO2.out.on hbb)
  have HB3 : Hid (Below w.heap.size w ((w2.alloc (.cells #[.int .i64 b] 3)).alloc (.cells #[.int .i64 who, .int .u64 inc, .int .i64 now, .slice (some ⟨w2.heap.size, 0, none⟩) 1 1] 55))) := Lib.hid (HB2.out.trans (hbb.mono HB2.out.size))
  have HGS : Hid (∀ k, v.ownBlock = some k → k < w2.heap.size) := Lib.hid (fun k hk => (HO2.out.ge k hk).2)
  have HBS : Hid (w.heap.size ≤ w2.heap.size) := Lib.hid HB2.out.size
  have HXC : Hid (x.ct = ⟨who, inc, now, [b]⟩) := Lib.hid (by rw [hx]; rfl)
  have HXV : Hid (x.w = who ∧ x.i = inc ∧ x.t = now ∧ x.A = some ⟨w2.heap.size, 0, none⟩ ∧ x.b = [b] ∧ x.c = 1) := Lib.hid (by rw [hx]; exact ⟨rfl, rfl, rfl, rfl, rfl, rfl⟩)
  clear hba hbb HO2 HB2 hx
  go_upto_region 5 with (fail)
  generalize ((w2.alloc (.cells #[.int .i64 b] 3)).alloc (.cells #[.int .i64 who, .int .u64 inc, .int .i64 now, .slice (some ⟨w2.heap.size, 0, none⟩) 1 1] 55)) = w3 at *
  generalize w2.heap.size = nb at *
  obtain ⟨A1, c1, rfl, hc1, hm1, hn1, hds⟩ := HO3.out.ds0
  have hll := HSY.out.1
  have HSE := Lib.hid (search_any A1 c1 w3.heap.size ys who w3 HSY.out.1 ((mayD_iff _).1 HMY.out).2 hds (Nat.le_refl _))
  have HRA := Lib.hid (fun (h : hitN (whos (ys.map Db.ct)) who = false) => raise_put (inc := inc) (b := b) (now := now) h)
  have HRB := Lib.hid (fun (h : hitN (whos (ys.map Db.ct)) who = true) h2 => raise_new (inc := inc) (b := b) (now := now) h h2)
  have HRC := Lib.hid (fun (h : hitN (whos (ys.map Db.ct)) who = true) h2 => raise_with (inc := inc) (b := b) (now := now) h h2)
  have HRD := Lib.hid (fun (h : hitN (whos (ys.map Db.ct)) who = true) h2 => raise_old (inc := inc) (b := b) (now := now) h h2)
  have HPL : Hid (posN (whos (ys.map Db.ct)) who ≤ ys.length) := Lib.hid (by have := posN_le (whos (ys.map Db.ct)) who; rwa [whos_len, List.length_map] at this)
  have HPH : Hid (hitN (whos (ys.map Db.ct)) who = true → posN (whos (ys.map Db.ct)) who < ys.length) := Lib.hid (fun h => by
    have : (decide (posN (whos (ys.map Db.ct)) who < (whos (ys.map Db.ct)).length) && _) = true := h
    rw [whos_len, List.length_map, Bool.and_eq_true, decide_eq_true_iff] at this
    exact this.1)
  simp only [ct_at] at HRB HRC HRD
  rw [HE.out] at HRA HRB HRC HRD
  generalize raiseD (l.map Db.ct) who inc b now = R at *
  rw [← HE.out] at HRA HRB HRC HRD
  have HC1 := Lib.hid (And.intro hc1 (And.intro hm1 hn1))
  generalize hitN (whos (ys.map Db.ct)) who = T at *
  generalize posN (whos (ys.map Db.ct)) who = p at *
  clear HE hds hc1 hm1 hn1
  go_upto_region 6 with (go_at_call 33; refine HSE.out.mono ?_; rintro e w4 ⟨rfl, hb4⟩)
  have BX4 := Lib.hid (BX.out.on hb4)
  have RX4 := Lib.hid (RX.out.on hb4)
  have HO4 := Lib.hid (HO3.out.on hb4)
  have HB4 : Hid (Below w.heap.size w w4) := Lib.hid (HB3.out.trans (hb4.mono HB3.out.size))
  have HNB : Hid (nb + 1 < w4.heap.size) := Lib.hid BX4.out.lt
  clear hb4 BX RX HO3 HB3 HSE
  obtain ⟨x0, x1, x2, x3⟩ := BX4.out
  rcases T with _ | _
  · have HRA' := Lib.hid (HRA.out rfl)
    have HPD := Lib.hid (putD_any A1 c1 p w4.heap.size ys x w4 HC1.out.2.2 HSY.out.1 HC1.out.1 HC1.out.2.1 HPL.out (by
      obtain ⟨A2, c2, e, _, _, hd⟩ := HO4.out.ds
      injection e with e1 _ e3
      subst e1
      exact hd) (Nat.le_refl _) (RX4.out.imp fun k hk _ => hk))
    clear HRA HRB HRC HRD HPH RX4
    go_wp2_with fail
    refine HPD.out.mono ?_
    rintro e w5 ⟨v', rfl, ho5, hb5⟩
    have HO5 := Lib.hid (ho5.mono HB4.out.size)
    have HB5 : Hid (Below w.heap.size w w5) := Lib.hid (HB4.out.trans (hb5.mono HB4.out.size))
    clear ho5 hb5 HPD HO4 HB4 x0 x1 x2 x3 BX4
    go_wp2_with fail
    refine bodyPost_ret (v := .tuple #[v', .int .i64 0]) (by simp [results, Try.results16, go_sem]) rfl ?_
    refine gives HO5.out ?_ HB5.out
    rw [HRA'.out, ← HXC.out, List.map_append, List.map_cons, List.map_take, List.map_drop]
  · have hpl := HPH.out rfl
    have hO := HO4.out
    obtain ⟨g, c', e, hg, hgl, _, _, hf⟩ := hO.opened (by omega)
    injection e with e1 e2 e3
    clear e2
    subst e1 e3
    obtain ⟨o0, o1, o2, o3⟩ := hO.cell p hpl
    have f0 := hf (p * 4)
    have f1 := hf (p * 4 + 1)
    have f2 := hf (p * 4 + 2)
    have f3 := hf (p * 4 + 3)
    have p0 : (0 : Int) ≤ (p : Int) := by omega
    have p1 : (p : Int) < (ys.length : Int) := by omega
    have hgx : ¬g = nb + 1 := by have := HGS.out g rfl; omega
    have hgx' : ¬nb + 1 = g := by omega
    have HGB := Lib.hid hg
    have HGL := Lib.hid hgl
    have HOK := Lib.hid hO
    rcases Int.lt_trichotomy (db ys p).i inc with hlt | heq | hgt
    · have HRB' := Lib.hid (HRB.out rfl hlt)
      have d0 : decide ((db ys p).i < inc) = true := by simpa using hlt
      have HOS := Lib.hid (hO.set (i := p) x (RX4.out.imp fun k _ hk e => by have := Option.some.inj e; have := HGS.out g rfl; omega))
      have HBS' : Hid (Below w.heap.size w ((((w4.setCell ⟨g, p * 4, none⟩ (.int .i64 x.w)).setCell ⟨g, p * 4 + 1, none⟩ (.int .u64 x.i)).setCell ⟨g, p * 4 + 2, none⟩ (.int .i64 x.t)).setCell ⟨g, p * 4 + 3, none⟩ (.slice x.A x.b.length x.c))) := Lib.hid ((((HB4.out.setCell (p := ⟨g, p * 4, none⟩) hg _).setCell (p := ⟨g, p * 4 + 1, none⟩) hg _).setCell (p := ⟨g, p * 4 + 2, none⟩) hg _).setCell (p := ⟨g, p * 4 + 3, none⟩) hg _)
      clear HRA HRB HRC HRD HPH RX4 hO HO4 HB4 hf HOK hlt
      generalize db ys p = z at *
      go_upto_region 12 with (fail)
      generalize ((((w4.setCell ⟨g, p * 4, none⟩ (.int .i64 x.w)).setCell ⟨g, p * 4 + 1, none⟩ (.int .u64 x.i)).setCell ⟨g, p * 4 + 2, none⟩ (.int .i64 x.t)).setCell ⟨g, p * 4 + 3, none⟩ (.slice x.A x.b.length x.c)) = w5 at *
      clear x0 x1 x2 x3 o0 o1 o2 o3 f0 f1 f2 f3 BX4
      go_wp2_with fail
      refine bodyPost_ret (v := .tuple #[.slice (some ⟨g, 0, none⟩) ys.length c1, .int .i64 0]) (by simp [results, Try.results16, go_sem]) rfl ?_
      refine gives HOS.out ?_ HBS'.out
      rw [HRB'.out, ← HXC.out, List.map_set]
    · have HRC' := Lib.hid (HRC.out rfl heq)
      have hrd := hO.2 _ (db_mem ys hpl)
      have hok := ((mayD_iff _).1 HMY.out).1 p (by rw [List.length_map]; exact hpl)
      rw [ct_at] at hok
      obtain ⟨_, hbn, hbr⟩ := hok
      have HSB := Lib.hid (fun (W : World) (h : OwnD W w.heap.size (.slice (some ⟨g, 0, none⟩) ys.length c1) ys) A' c' b' hy => h.setBy hpl A' c' b' hy)
      have HBL := Lib.hid (HSY.out.2 _ (db_mem ys hpl))
      have HCT : Hid (∀ y : Db, (ys.set p y).map Db.ct = (ys.map Db.ct).set p y.ct) := Lib.hid (fun y => by rw [List.map_set])
      have d0 : decide ((db ys p).i < inc) = false := by simp; omega
      have d1 : ((db ys p).i == inc) = true := by simpa using heq
      have HRC2 := Lib.hid (show R = (ys.map Db.ct).set p ⟨(db ys p).w, (db ys p).i, (db ys p).t, withN (db ys p).b b⟩ from HRC'.out)
      have hbn' : (db ys p).b ≠ [] := hbn
      have hbr' : riseB (db ys p).b = true := hbr
      clear HRA HRB HRC HRC' HRD HPH RX4 hO HO4 hf heq hbn hbr
      generalize db ys p = z at *
      obtain ⟨ad, hza⟩ : ∃ ad, z.A = some ad := by
        rcases hb : z.b with _ | ⟨y, r⟩
        · exact absurd hb hbn'
        · obtain ⟨ad, e, _⟩ := hrd.1 0 (by rw [hb]; simp)
          exact ⟨ad, e⟩
      have hrd' := hrd.1
      rw [hza] at hrd' o3
      have HWI := Lib.hid (with_any ad z.c _ z.b b w4 HBL.out hrd.2.1 hrd.2.2 ((riseB_iff _).1 hbr') hrd')
      clear hrd hrd' hza hbr' hbn'
      go_upto_region 11 with (fail)
      go_wp2_with fail
      refine HWI.out.mono ?_
      rintro e w5 ⟨A5, c5, rfl, ⟨k1, k2, k3⟩, hb5⟩
      have o3' := (hb5.cell (p := ⟨g, p * 4 + 3, none⟩) HGL.out).trans o3
      have hO5 := HOK.out.on hb5
      have f3' : w5.frozen? ⟨g, p * 4 + 3, none⟩ = false := World.ownsRow.frozenAt (w := w5) hO5.1 _
      have HOS := Lib.hid (HSB.out w5 hO5 A5 c5 (withN z.b b) ⟨k3.imp (fun k _ hk e => by
        rcases hk with hk | hk
        · exact hk e
        · have := Option.some.inj e; have := HGL.out; omega), k1, k2⟩)
      have HBS' : Hid (Below w.heap.size w (w5.setCell ⟨g, p * 4 + 3, none⟩ (.slice A5 (withN z.b b).length c5))) := Lib.hid ((HB4.out.trans (hb5.mono HB4.out.size)).setCell (p := ⟨g, p * 4 + 3, none⟩) HGB.out _)
      have HCC := Lib.hid (HCT.out ⟨z.w, z.i, z.t, A5, c5, withN z.b b⟩)
      clear hO5 hb5 k1 k2 k3 HSB HCT HOK HB4 o0 o1 o2 o3 f0 f1 f2 f3 x0 x1 x2 x3 BX4 HWI
      go_upto_region 12 with (fail)
      generalize w5.setCell ⟨g, p * 4 + 3, none⟩ (.slice A5 (withN z.b b).length c5) = w6 at *
      clear o3' f3'
      go_wp2_with fail
      refine bodyPost_ret (v := .tuple #[.slice (some ⟨g, 0, none⟩) ys.length c1, .int .i64 0]) (by simp [results, Try.results16, go_sem]) rfl ?_
      refine gives HOS.out ?_ HBS'.out
      rw [HRC2.out, HCC.out]
      rfl
    · have HRD' := Lib.hid (HRD.out rfl hgt)
      have d0 : decide ((db ys p).i < inc) = false := by simp; omega
      have d1 : ((db ys p).i == inc) = false := by simp; omega
      clear HRA HRB HRC HRD HPH RX4 hO HO4 hf hgt f0 f1 f2 f3
      generalize db ys p = z at *
      go_wp2_with fail
      refine bodyPost_ret (v := .tuple #[.slice (some ⟨g, 0, none⟩) ys.length c1, .int .i64 0]) (by simp [results, Try.results16, go_sem]) rfl ?_
      exact gives HOK.out HRD'.out.symm HB4.out
end Go.Proofs.Ytknpbbplolncpaa
