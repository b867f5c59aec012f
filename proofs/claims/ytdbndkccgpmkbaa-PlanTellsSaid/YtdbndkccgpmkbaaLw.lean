/-
  The chapter's examples, and what comes in: what is put, and moves.
-/
import Derived.Test.YtdbndkccgpmkbaaCt
import Derived.Test.YtdbndkccgpmkbaaLk
import Derived.Test.YtdbndkccgpmkbaaLaw
namespace Go.Proofs.Ytdbndkccgpmkbaa
open Go.ChangeMaps (open_string)
open Go.Sort Go.ChangeShapes Go.WideShapes Go.ChangeAt Go.RowKit Go.Joins Go.Proofs.Ytdbndkccgpmkbaa.Pure

theorem cellsV1 : Try.prog.cellsOf 39 = 3 := by kernel_rfl
theorem cellsVs : Try.prog.cellsOf 23 = 1 := by kernel_rfl
def FitV1 (x : Mv) : Prop := (x.t).size ≤ maxLen ∧ (-9223372036854775808 ≤ x.f ∧ x.f ≤ 9223372036854775807) ∧ (-9223372036854775808 ≤ x.g ∧ x.g ≤ 9223372036854775807)
/-- Cells that read as one are that. -/
theorem one_V {H : Type} {enc : TypeId × Value → H} {W : World} {n : Nat} {cs : List Value} {x : DataW H × List MemPlace} (h : DataW.trod enc Try.prog W 0 (fun _ => true) true n 39 cs = some x) :
    ∃ y : Mv, cs = cV1 y ∧ FitV1 y := by
  have hl : cs.length = 3 := by
    obtain ⟨xs, n', _, _, hl, _⟩ := DataW.trod_struct Try.underlying39 h
    rw [hl, cellsV1]
  match cs, hl with
  | [c0, c1, c2], _ =>
    obtain ⟨xs, n', _, hx, _, hlen, hg⟩ := DataW.trod_struct Try.underlying39 h
    match xs, hlen with
    | [y0, y1, y2], _ =>
      have g0 : DataW.trod enc Try.prog W 0 (fun _ => true) true n' 9 ((([c0, c1, c2] : List Value).drop 0).take (Try.prog.cellsOf 9)) = some y0 := hg 0 _ rfl
      have g1 : DataW.trod enc Try.prog W 0 (fun _ => true) true n' 3 ((([c0, c1, c2] : List Value).drop 1).take (Try.prog.cellsOf 3)) = some y1 := hg 1 _ rfl
      have g2 : DataW.trod enc Try.prog W 0 (fun _ => true) true n' 3 ((([c0, c1, c2] : List Value).drop 2).take (Try.prog.cellsOf 3)) = some y2 := hg 2 _ rfl
      rw [cellsStr] at g0
      rw [cellsInt] at g1
      rw [cellsInt] at g2
      simp only [List.drop_zero, List.drop_succ_cons, List.take_succ_cons, List.take_zero] at g0 g1 g2
      obtain ⟨v0, e0, _, w0⟩ := DataW.trod_string Try.underlying9 g0
      obtain ⟨v1, e1, _, w1⟩ := DataW.trod_int Try.underlying3 g1
      obtain ⟨v2, e2, _, w2⟩ := DataW.trod_int Try.underlying3 g2
      simp only [List.cons.injEq, and_true] at e0 e1 e2
      subst e0 e1 e2
      exact ⟨⟨v0, v1, v2⟩, rfl, w0, i64_of_wf w1, i64_of_wf w2⟩
def FitV (l : List Mv) : Prop := ∀ j, j < l.length → FitV1 (mv l j)
theorem V_of (W : World) (a : Addr) : ∀ m : Nat, (∀ i, i < m → ∃ y : Mv, VAt W (a.add (i * 3)) y ∧ FitV1 y) → ∃ xs : List Mv, xs.length = m ∧ (∀ i, i < m → VAt W (a.add (i * 3)) (mv xs i)) ∧ FitV xs := by
  intro m
  induction m with
  | zero => intro _; exact ⟨[], rfl, fun i hi => absurd hi (Nat.not_lt_zero i), fun j hj => absurd hj (Nat.not_lt_zero j)⟩
  | succ m ih =>
    intro h
    obtain ⟨xs, hl, hx, hf⟩ := ih fun i hi => h i (by omega)
    obtain ⟨y, hy, hb⟩ := h m (by omega)
    have e1 : ∀ i, i < m → mv (xs ++ [y]) i = mv xs i := fun i hi => by simp [mv, List.getD, List.getElem?_append_left (show i < xs.length by omega)]
    have e2 : mv (xs ++ [y]) m = y := by simp [mv, List.getD, ← hl]
    refine ⟨xs ++ [y], by simp [hl], fun i hi => ?_, fun i hi => ?_⟩
    · by_cases e : i < m
      · rw [e1 i e]; exact hx i e
      · obtain rfl : i = m := by omega
        rw [e2]; exact hy
    · have hi' : i < m + 1 := by simpa [hl] using hi
      by_cases e : i < m
      · rw [e1 i e]; exact hf i (by omega)
      · obtain rfl : i = m := by omega
        rw [e2]; exact hb
theorem V_trod {H : Type} {enc : TypeId × Value → H} {W : World} {fuel : Nat} {cs : List Value} {x : DataW H × List MemPlace} (h : DataW.trod enc Try.prog W 0 (fun _ => true) true fuel 23 cs = some x) :
    ∃ (A : Option Addr) (c : Nat) (xs : List Mv), cs = [.slice A xs.length c] ∧ xs.length ≤ c ∧ c ≤ maxLen ∧ Vs W A xs ∧ FitV xs := by
  rcases Go.Deep.open_slice Try.underlying23 h with ⟨rfl, _⟩ | ⟨a, len, cap, m, n, D, Pl, rfl, _, hl, hm, hmm, _, hi⟩
  · exact ⟨none, 0, [], rfl, by simp, by simp, Vs.nil _ _, fun j hj => absurd hj (Nat.not_lt_zero j)⟩
  · simp only [if_true] at hmm
    rw [cellsV1] at hi
    obtain ⟨xs, hxl, hx, hf⟩ := V_of W a len fun i hil => by
      obtain ⟨cs', hc, ht⟩ := hi i (by omega)
      obtain ⟨y, rfl, hy⟩ := one_V ht
      obtain ⟨_, _, hat⟩ := World.cells?_some hc
      exact ⟨y, ⟨hat 0 (by decide), hat 1 (by decide), hat 2 (by decide)⟩, hy⟩
    refine ⟨some a, cap, xs, by rw [hxl], by omega, hm, fun j hj => ⟨a, rfl, ?_, hx j (by omega)⟩, hf⟩
    have := World.block_lt_of_cell? W _ (hx j (by omega)).1
    rwa [block_add] at this
set_option maxRecDepth 100000 in
/-- A slice of them that came in. -/
theorem open_V {H : Type} {enc : TypeId × Value → H} {W : World} {b0 : Nat} {v : Value} {d : DataW H} {p : List MemPlace} (hval : Value.okWide Try.prog W .any b0 23 v) (h : DataW.Trod enc Try.prog W 0 (fun _ => true) true 23 v d p) :
    ∃ (A : Option Addr) (c : Nat) (xs : List Mv), v = .slice A xs.length c ∧ xs.length ≤ c ∧ c ≤ maxLen ∧ Vs W A xs ∧ FitV xs := by
  obtain ⟨a0, len, cap, rfl⟩ := okWide_slice Try.underlying23 hval
  obtain ⟨fuel, hf⟩ := h
  obtain ⟨A, c, xs, e, h1, h2, h3, h4⟩ := V_trod hf
  simp only [Value.cells, List.cons.injEq, and_true] at e
  exact ⟨A, c, xs, e, h1, h2, h3, h4⟩
set_option maxRecDepth 100000 in
/-- What is put that came in. -/
theorem open_puts {H : Type} {enc : TypeId × Value → H} {W : World} {b0 : Nat} {v : Value} {d : DataW H} {p : List MemPlace} (hval : Value.okWide Try.prog W .any b0 22 v) (h : DataW.Trod enc Try.prog W 0 (fun _ => true) true 22 v d p) :
    ∃ (A : Option Addr) (c : Nat) (xs : List Pu), v = .slice A xs.length c ∧ xs.length ≤ c ∧ c ≤ maxLen ∧ Us W A xs ∧ ShrtU xs := by
  obtain ⟨a0, len, cap, rfl⟩ := okWide_slice Try.underlying22 hval
  obtain ⟨fuel, hf⟩ := h
  obtain ⟨A, c, xs, e, h1, h2, h3, h4⟩ := puts_trod hf
  simp only [Value.cells, List.cons.injEq, and_true] at e
  exact ⟨A, c, xs, e, h1, h2, h3, h4⟩
theorem FitV.map {l : List Mv} (h : FitV l) : Shrt (l.map Mv.t) := fun j hj => by
  have hj' : j < l.length := by simpa using hj
  rw [ba_mapV l hj']
  exact (h j hj').1
theorem ShrtU.take {l : List Pu} (h : ShrtU l) (k : Nat) : ShrtU (l.take k) := fun j hj => by
  rw [List.length_take] at hj
  rw [pu_take l k j (by omega)]
  exact h j (by omega)
theorem FitV.take {l : List Mv} (h : FitV l) (k : Nat) : FitV (l.take k) := fun j hj => by
  rw [List.length_take] at hj
  rw [mv_take l k j (by omega)]
  exact h j (by omega)
theorem take_len {α : Type} (l : List α) : (l.take 101).length = min 101 l.length := by rw [List.length_take]
/-- Names that may be are short. -/
theorem shrt_put {a : List Pu} (h : OkP (fun t => nameB t = true) a) : Shrt (a.map Pu.t) := fun j hj => by
  have hj' : j < a.length := by simpa using hj
  rw [ba_map a hj']
  have := h.nm (pu a j) (by rw [pu_lt a hj']; exact List.getElem_mem hj')
  unfold nameB at this
  simp only [Bool.and_eq_true, decide_eq_true_eq] at this
  exact Nat.le_trans this.2.2 (by decide)
theorem shrt_mov {l : List Mv} (h : OkM (fun t => nameB t = true) l) : Shrt (l.map Mv.t) := fun j hj => by
  have hj' : j < l.length := by simpa using hj
  rw [ba_mapV l hj']
  have := h.nm (mv l j) (by rw [mv_lt l hj']; exact List.getElem_mem hj')
  unfold nameB at this
  simp only [Bool.and_eq_true, decide_eq_true_eq] at this
  exact Nat.le_trans this.2.2 (by decide)
def tA : ByteArray := ⟨#[97]⟩
def tB : ByteArray := ⟨#[98]⟩
def tC : ByteArray := ⟨#[99]⟩
theorem shrtL {l : List ByteArray} (h : ∀ t ∈ l, t.size ≤ 20) : Shrt l := fun j hj => Nat.le_trans (h _ (ba_mem l hj)) (by decide)
theorem aw1 : dE [⟨tA, 1⟩, ⟨tB, 2⟩] [⟨tA, 1⟩, ⟨tC, 2⟩] = 0 ∧ dR [⟨tA, 1⟩, ⟨tB, 2⟩] [⟨tA, 1⟩, ⟨tC, 2⟩] = [⟨tB, 2, -1⟩, ⟨tC, -1, 2⟩] := by constructor <;> decide +kernel
theorem aw2 : aE [⟨tA, 1⟩, ⟨tB, 2⟩] [⟨tB, 1, 2⟩] = 8 := by decide +kernel
theorem aw3 : dE [⟨tA, 1⟩, ⟨tB, 2⟩] [⟨tA, 1⟩, ⟨tB, 2⟩] = 0 ∧ dR [⟨tA, 1⟩, ⟨tB, 2⟩] [⟨tA, 1⟩, ⟨tB, 2⟩] = [] := by constructor <;> decide +kernel
set_option maxRecDepth 100000 in
set_option maxHeartbeats 4000000 in
theorem awake_any (w : World) : Calls Try.prog 19 #[] w fun e w' => e = .returned (.bool true) ∧ Below w.heap.size w w' := by
  have sh1 : Shrt ([⟨tA, 1⟩, ⟨tB, 2⟩].map Pu.t) := shrtL (by decide)
  have sh2 : Shrt ([⟨tA, 1⟩, ⟨tC, 2⟩].map Pu.t) := shrtL (by decide)
  have sh3 : Shrt ([⟨tB, 1, 2⟩].map Mv.t) := shrtL (by decide)
  have HD1 : Hid (∀ (A B : Option Addr) (W : World), Us W A [⟨tA, 1⟩, ⟨tB, 2⟩] → Us W B [⟨tA, 1⟩, ⟨tC, 2⟩] → Calls Try.prog 11 #[.slice A 2 2, .slice B 2 2] W fun e w' => ∃ v, e = .returned (.tuple #[v, .int .i64 0]) ∧ OwnV w' W.heap.size v [⟨tB, 2, -1⟩, ⟨tC, -1, 2⟩] ∧ Below W.heap.size W w') := Lib.hid (fun A B W h h' => by
    have := diff_any A B 2 2 [⟨tA, 1⟩, ⟨tB, 2⟩] [⟨tA, 1⟩, ⟨tC, 2⟩] W (by decide) (by decide) h h' sh1 sh2
    rw [aw1.1, aw1.2] at this
    exact this)
  have HD2 : Hid (∀ (A B : Option Addr) (W : World), Us W A [⟨tA, 1⟩, ⟨tB, 2⟩] → Us W B [⟨tA, 1⟩, ⟨tB, 2⟩] → Calls Try.prog 11 #[.slice A 2 2, .slice B 2 2] W fun e w' => ∃ v, e = .returned (.tuple #[v, .int .i64 0]) ∧ OwnV w' W.heap.size v [] ∧ Below W.heap.size W w') := Lib.hid (fun A B W h h' => by
    have := diff_any A B 2 2 [⟨tA, 1⟩, ⟨tB, 2⟩] [⟨tA, 1⟩, ⟨tB, 2⟩] W (by decide) (by decide) h h' sh1 sh1
    rw [aw3.1, aw3.2] at this
    exact this)
  have HAP : Hid (∀ (A B : Option Addr) (W : World), Us W A [⟨tA, 1⟩, ⟨tB, 2⟩] → Vs W B [⟨tB, 1, 2⟩] → Calls Try.prog 12 #[.slice A 2 2, .slice B 1 1] W fun e w' => ∃ v, e = .returned (.tuple #[v, .int .i64 8]) ∧ Below W.heap.size W w') := Lib.hid (fun A B W h h' => by
    have := apply_any A B 2 1 [⟨tA, 1⟩, ⟨tB, 2⟩] [⟨tB, 1, 2⟩] W (by decide) (by decide) h h' sh1 sh3
    rw [aw2] at this
    refine this.mono ?_
    rintro e w' ⟨v, rfl, _, hb⟩
    exact ⟨v, rfl, hb⟩)
  have HS : Hid (∀ (A B : Option Addr) (c : Nat) (W : World), Vs W A [⟨tB, 2, -1⟩, ⟨tC, -1, 2⟩] → Vs W B [⟨tB, 2, -1⟩, ⟨tC, -1, 2⟩] → Calls Try.prog 18 #[.slice A 2 c, .slice B 2 2] W fun e w' => e = .returned (.bool true) ∧ Below W.heap.size W w') := Lib.hid (fun A B c W h h' => same_mvs A B c 2 _ _ W (by decide) h h' true (by simp))
  have HU1 : Hid (Us (w.alloc (.cells #[.string tA, .int .i64 1, .string tB, .int .i64 2] 53)) (some ⟨w.heap.size, 0, none⟩) [⟨tA, 1⟩, ⟨tB, 2⟩]) := Lib.hid (Us.two w ⟨tA, 1⟩ ⟨tB, 2⟩ _)
  have HU2 : Hid (∀ W : World, Us (W.alloc (.cells #[.string tA, .int .i64 1, .string tC, .int .i64 2] 53)) (some ⟨W.heap.size, 0, none⟩) [⟨tA, 1⟩, ⟨tC, 2⟩]) := Lib.hid (fun W => Us.two W ⟨tA, 1⟩ ⟨tC, 2⟩ _)
  have HV1 : Hid (∀ W : World, Vs (W.alloc (.cells #[.string tB, .int .i64 1, .int .i64 2] 39)) (some ⟨W.heap.size, 0, none⟩) [⟨tB, 1, 2⟩]) := Lib.hid (fun W => Vs.one W ⟨tB, 1, 2⟩ _)
  have HV2 : Hid (∀ W : World, Vs (W.alloc (.cells #[.string tB, .int .i64 2, .int .i64 (-1), .string tC, .int .i64 (-1), .int .i64 2] 39)) (some ⟨W.heap.size, 0, none⟩) [⟨tB, 2, -1⟩, ⟨tC, -1, 2⟩]) := Lib.hid (fun W => Vs.two W ⟨tB, 2, -1⟩ ⟨tC, -1, 2⟩ _)
  clear sh1 sh2 sh3
  unfold tA tB tC at HD1
  unfold tA tC at HU2
  unfold tB tC at HV2 HS
  unfold tA tB at HD2 HAP HU1
  unfold tB at HV1
  go_enter Try.func19, Try.ntmps19
  go_upto_region 2 with (fail)
  obtain ⟨w1, hw1⟩ : ∃ w1, w.alloc (.cells #[.string ⟨#[97]⟩, .int .i64 1, .string ⟨#[98]⟩, .int .i64 2] 53) = w1 := ⟨_, rfl⟩
  have HB1 : Hid (Below w.heap.size w w1) := Lib.hid (by rw [← hw1]; exact (Below.refl _ _).alloc (Nat.le_refl _) _)
  rw [hw1] at HU1 ⊢
  clear hw1
  go_upto_region 3 with (fail)
  have hbx : Below w1.heap.size w1 (w1.alloc (.cells #[.string ⟨#[97]⟩, .int .i64 1, .string ⟨#[99]⟩, .int .i64 2] 53)) := (Below.refl _ _).alloc (Nat.le_refl _) _
  have HU21 := Lib.hid (HU2.out w1)
  have HU11 := Lib.hid (HU1.out.on hbx)
  have HB2 := Lib.hid (HB1.out.trans (hbx.mono HB1.out.size))
  obtain ⟨w2, hw2⟩ : ∃ w2, w1.alloc (.cells #[.string ⟨#[97]⟩, .int .i64 1, .string ⟨#[99]⟩, .int .i64 2] 53) = w2 := ⟨_, rfl⟩
  rw [hw2] at HU21 HU11 HB2 ⊢
  clear hw2 hbx HU1 HU2 HB1
  go_wp2_with fail
  refine (HD1.out _ _ _ HU11.out HU21.out).mono ?_
  rintro e w3 ⟨v3, rfl, ho3, hb3⟩
  obtain ⟨A3, c3, rfl, hc3, hv3⟩ := ho3.lst
  have HL3 := Lib.hid hv3
  have HU3 := Lib.hid (HU11.out.on hb3)
  have HB3 := Lib.hid (HB2.out.trans (hb3.mono HB2.out.size))
  clear ho3 hv3 hb3 HU11 HU21 HB2 HD1
  go_upto_region 4 with (fail)
  go_wp2_with fail
  have hby : Below w3.heap.size w3 (w3.alloc (.cells #[.string ⟨#[98]⟩, .int .i64 1, .int .i64 2] 39)) := (Below.refl _ _).alloc (Nat.le_refl _) _
  refine (HAP.out _ _ _ (HU3.out.on hby) (HV1.out w3)).mono ?_
  rintro e w4 ⟨v4, rfl, hb4⟩
  have hb34 : Below w3.heap.size w3 w4 := hby.trans (hb4.mono (by simp))
  have HL4 := Lib.hid (HL3.out.on hb34)
  have HU4 := Lib.hid (HU3.out.on hb34)
  have HB4 := Lib.hid (HB3.out.trans (hb34.mono HB3.out.size))
  clear hby hb4 hb34 HL3 HU3 HB3 HAP HV1
  go_wp2_with fail
  refine (HD2.out _ _ _ HU4.out HU4.out).mono ?_
  rintro e w5 ⟨v5, rfl, ho5, hb5⟩
  obtain ⟨A5, c5, rfl, hc5, _⟩ := ho5.lst
  have HL5 := Lib.hid (HL4.out.on hb5)
  have HB5 := Lib.hid (HB4.out.trans (hb5.mono HB4.out.size))
  clear ho5 hb5 HL4 HU4 HB4 HD2
  go_wp2_with fail
  have hbz : Below w5.heap.size w5 (w5.alloc (.cells #[.string ⟨#[98]⟩, .int .i64 2, .int .i64 (-1), .string ⟨#[99]⟩, .int .i64 (-1), .int .i64 2] 39)) := (Below.refl _ _).alloc (Nat.le_refl _) _
  refine (HS.out _ _ _ _ (HL5.out.on hbz) (HV2.out w5)).mono ?_
  rintro e w6 ⟨rfl, hb6⟩
  have HB6 := Lib.hid (HB5.out.trans ((hbz.trans (hb6.mono (by simp))).mono HB5.out.size))
  clear hbz hb6 HL5 HB5 HS HV2
  go_wp2_with fail
  go_ret
  exact ⟨rfl, HB6.out⟩
end Go.Proofs.Ytdbndkccgpmkbaa
