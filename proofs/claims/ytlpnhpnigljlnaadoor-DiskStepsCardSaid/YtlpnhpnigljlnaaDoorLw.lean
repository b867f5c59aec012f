/-
  What comes in: what is saved, one and many, a disk, octets.
-/
import Derived.Test.YtlpnhpnigljlnaaDoorCt
import Derived.Test.YtlpnhpnigljlnaaDoorLaw
import Derived.Lib.SmallJoins
import Derived.Deep.Slices
namespace Go.Proofs.YtlpnhpnigljlnaaDoor
open Go.ChangeMaps (open_string)
open Go.Sort Go.ChangeShapes Go.WideShapes Go.ChangeAt Go.RowKit Go.Joins Go.Proofs.YtlpnhpnigljlnaaDoor.Pure

theorem block_add (a : Addr) (n : Nat) : (a.add n).block = a.block := by unfold Addr.add; split <;> rfl
theorem cellsInt : Tryd.prog.cellsOf 3 = 1 := by kernel_rfl
theorem cellsU64 : Tryd.prog.cellsOf 24 = 1 := by kernel_rfl
theorem cellsU8 : Tryd.prog.cellsOf 5 = 1 := by kernel_rfl
theorem cellsStr : Tryd.prog.cellsOf 9 = 1 := by kernel_rfl
theorem cellsDk : Tryd.prog.cellsOf 23 = 2 := by kernel_rfl
theorem u64_of_wf {a : Int} (h : (Lit.int .u64 a).wf = true) : 0 ≤ a ∧ a < 18446744073709551616 := by
  have : 0 ≤ a ∧ a ≤ 18446744073709551615 := by simpa [Lit.wf, IntKind.min, IntKind.max, IntKind.signed, IntKind.bits] using h
  omega
theorem i64_of_wf {a : Int} (h : (Lit.int .i64 a).wf = true) : -9223372036854775808 ≤ a ∧ a ≤ 9223372036854775807 := by
  simpa [Lit.wf, IntKind.min, IntKind.max, IntKind.signed, IntKind.bits] using h
theorem u8_of_wf {a : Int} (h : (Lit.int .u8 a).wf = true) : 0 ≤ a ∧ a ≤ 255 := by
  simpa [Lit.wf, IntKind.min, IntKind.max, IntKind.signed, IntKind.bits] using h
theorem u16_of_wf {a : Int} (h : (Lit.int .u16 a).wf = true) : 0 ≤ a ∧ a ≤ 65535 := by
  simpa [Lit.wf, IntKind.min, IntKind.max, IntKind.signed, IntKind.bits] using h
theorem u32_of_wf {a : Int} (h : (Lit.int .u32 a).wf = true) : 0 ≤ a ∧ a ≤ 4294967295 := by
  simpa [Lit.wf, IntKind.min, IntKind.max, IntKind.signed, IntKind.bits] using h
/-- The k-th of them. -/
def sv (l : List Sv) (j : Nat) : Sv := l.getD j nilD
def WAt (w : World) (a : Addr) (x : Sv) : Prop := w.cell? a = some (.int .u64 x.q) ∧ w.cell? (a.add 1) = some (.int .u64 x.b) ∧ w.cell? (a.add 2) = some (.int .u64 x.i) ∧ w.cell? (a.add 3) = some (.int .u64 x.e) ∧ w.cell? (a.add 4) = some (.int .i64 x.u)
/-- The slice that begins at A holds l. -/
def Ws (w : World) (A : Option Addr) (l : List Sv) : Prop := ∀ j, j < l.length → ∃ ad, A = some ad ∧ ad.block < w.heap.size ∧ WAt w (ad.add (j * 5)) (sv l j)
def cW1 (x : Sv) : List Value := [.int .u64 x.q, .int .u64 x.b, .int .u64 x.i, .int .u64 x.e, .int .i64 x.u]
section
variable {w w' : World} {A : Option Addr} {l : List Sv} {a : Addr} {x : Sv}
theorem WAt.keep (h : WAt w a x) (hk : ∀ p : Addr, p.block = a.block → w'.cell? p = w.cell? p) : WAt w' a x :=
  ⟨(hk _ rfl).trans h.1, (hk _ (block_add _ _)).trans h.2.1, (hk _ (block_add _ _)).trans h.2.2.1, (hk _ (block_add _ _)).trans h.2.2.2.1, (hk _ (block_add _ _)).trans h.2.2.2.2⟩
theorem WAt.flat (h : WAt w a x) : w.cell? a = some (.int .u64 x.q) ∧ w.cell? ⟨a.block, a.off + 1, none⟩ = some (.int .u64 x.b) ∧ w.cell? ⟨a.block, a.off + 2, none⟩ = some (.int .u64 x.i) ∧ w.cell? ⟨a.block, a.off + 3, none⟩ = some (.int .u64 x.e) ∧ w.cell? ⟨a.block, a.off + 4, none⟩ = some (.int .i64 x.u) := h
theorem Ws.on (h : Ws w A l) (hb : Below w.heap.size w w') : Ws w' A l := fun j hj => by
  obtain ⟨ad, e, h1, h2⟩ := h j hj
  have hs := hb.size
  exact ⟨ad, e, by omega, h2.keep fun p hp => hb.cell (by rw [hp, block_add]; exact h1)⟩
theorem Ws.nil (w : World) (A : Option Addr) : Ws w A [] := fun j hj => absurd hj (by simp)
end
section
variable {H : Type} {enc : TypeId × Value → H}
theorem cellsW1 : Tryd.prog.cellsOf 26 = 5 := by kernel_rfl
theorem cellsWs : Tryd.prog.cellsOf 48 = 1 := by kernel_rfl
def FitW1 (x : Sv) : Prop := (0 ≤ x.q ∧ x.q < 18446744073709551616) ∧ (0 ≤ x.b ∧ x.b < 18446744073709551616) ∧ (0 ≤ x.i ∧ x.i < 18446744073709551616) ∧ (0 ≤ x.e ∧ x.e < 18446744073709551616) ∧ (-9223372036854775808 ≤ x.u ∧ x.u ≤ 9223372036854775807)
/-- Cells that read as one are that. -/
theorem one_W {H : Type} {enc : TypeId × Value → H} {W : World} {n : Nat} {cs : List Value} {x : DataW H × List MemPlace} (h : DataW.trod enc Tryd.prog W 0 (fun _ => true) true n 26 cs = some x) :
    ∃ y : Sv, cs = cW1 y ∧ FitW1 y := by
  have hl : cs.length = 5 := by
    obtain ⟨xs, n', _, _, hl, _⟩ := DataW.trod_struct Tryd.underlying26 h
    rw [hl, cellsW1]
  match cs, hl with
  | [c0, c1, c2, c3, c4], _ =>
    obtain ⟨xs, n', _, hx, _, hlen, hg⟩ := DataW.trod_struct Tryd.underlying26 h
    match xs, hlen with
    | [y0, y1, y2, y3, y4], _ =>
      have g0 : DataW.trod enc Tryd.prog W 0 (fun _ => true) true n' 24 ((([c0, c1, c2, c3, c4] : List Value).drop 0).take (Tryd.prog.cellsOf 24)) = some y0 := hg 0 _ rfl
      have g1 : DataW.trod enc Tryd.prog W 0 (fun _ => true) true n' 24 ((([c0, c1, c2, c3, c4] : List Value).drop 1).take (Tryd.prog.cellsOf 24)) = some y1 := hg 1 _ rfl
      have g2 : DataW.trod enc Tryd.prog W 0 (fun _ => true) true n' 24 ((([c0, c1, c2, c3, c4] : List Value).drop 2).take (Tryd.prog.cellsOf 24)) = some y2 := hg 2 _ rfl
      have g3 : DataW.trod enc Tryd.prog W 0 (fun _ => true) true n' 24 ((([c0, c1, c2, c3, c4] : List Value).drop 3).take (Tryd.prog.cellsOf 24)) = some y3 := hg 3 _ rfl
      have g4 : DataW.trod enc Tryd.prog W 0 (fun _ => true) true n' 3 ((([c0, c1, c2, c3, c4] : List Value).drop 4).take (Tryd.prog.cellsOf 3)) = some y4 := hg 4 _ rfl
      rw [cellsU64] at g0
      rw [cellsU64] at g1
      rw [cellsU64] at g2
      rw [cellsU64] at g3
      rw [cellsInt] at g4
      simp only [List.drop_zero, List.drop_succ_cons, List.take_succ_cons, List.take_zero] at g0 g1 g2 g3 g4
      obtain ⟨v0, e0, _, w0⟩ := DataW.trod_int Tryd.underlying24 g0
      obtain ⟨v1, e1, _, w1⟩ := DataW.trod_int Tryd.underlying24 g1
      obtain ⟨v2, e2, _, w2⟩ := DataW.trod_int Tryd.underlying24 g2
      obtain ⟨v3, e3, _, w3⟩ := DataW.trod_int Tryd.underlying24 g3
      obtain ⟨v4, e4, _, w4⟩ := DataW.trod_int Tryd.underlying3 g4
      simp only [List.cons.injEq, and_true] at e0 e1 e2 e3 e4
      subst e0 e1 e2 e3 e4
      exact ⟨⟨v0, v1, v2, v3, v4⟩, rfl, u64_of_wf w0, u64_of_wf w1, u64_of_wf w2, u64_of_wf w3, i64_of_wf w4⟩
def FitW (l : List Sv) : Prop := ∀ j, j < l.length → FitW1 (sv l j)
theorem W_of (W : World) (a : Addr) : ∀ m : Nat, (∀ i, i < m → ∃ y : Sv, WAt W (a.add (i * 5)) y ∧ FitW1 y) → ∃ xs : List Sv, xs.length = m ∧ (∀ i, i < m → WAt W (a.add (i * 5)) (sv xs i)) ∧ FitW xs := by
  intro m
  induction m with
  | zero => intro _; exact ⟨[], rfl, fun i hi => absurd hi (Nat.not_lt_zero i), fun j hj => absurd hj (Nat.not_lt_zero j)⟩
  | succ m ih =>
    intro h
    obtain ⟨xs, hl, hx, hf⟩ := ih fun i hi => h i (by omega)
    obtain ⟨y, hy, hb⟩ := h m (by omega)
    have e1 : ∀ i, i < m → sv (xs ++ [y]) i = sv xs i := fun i hi => by simp [sv, List.getD, List.getElem?_append_left (show i < xs.length by omega)]
    have e2 : sv (xs ++ [y]) m = y := by simp [sv, List.getD, ← hl]
    refine ⟨xs ++ [y], by simp [hl], fun i hi => ?_, fun i hi => ?_⟩
    · by_cases e : i < m
      · rw [e1 i e]; exact hx i e
      · obtain rfl : i = m := by omega
        rw [e2]; exact hy
    · have hi' : i < m + 1 := by simpa [hl] using hi
      by_cases e : i < m
      · rw [e1 i e]; exact hf i (by omega)
      · obtain rfl : i = m := by omega
        rw [e2]; exact hb
theorem W_trod {H : Type} {enc : TypeId × Value → H} {W : World} {fuel : Nat} {cs : List Value} {x : DataW H × List MemPlace} (h : DataW.trod enc Tryd.prog W 0 (fun _ => true) true fuel 48 cs = some x) :
    ∃ (A : Option Addr) (c : Nat) (xs : List Sv), cs = [.slice A xs.length c] ∧ xs.length ≤ c ∧ c ≤ maxLen ∧ Ws W A xs ∧ FitW xs := by
  rcases Go.Deep.open_slice Tryd.underlying48 h with ⟨rfl, _⟩ | ⟨a, len, cap, m, n, D, Pl, rfl, _, hl, hm, hmm, _, hi⟩
  · exact ⟨none, 0, [], rfl, by simp, by simp, Ws.nil _ _, fun j hj => absurd hj (Nat.not_lt_zero j)⟩
  · simp only [if_true] at hmm
    rw [cellsW1] at hi
    obtain ⟨xs, hxl, hx, hf⟩ := W_of W a len fun i hil => by
      obtain ⟨cs', hc, ht⟩ := hi i (by omega)
      obtain ⟨y, rfl, hy⟩ := one_W ht
      obtain ⟨_, _, hat⟩ := World.cells?_some hc
      exact ⟨y, ⟨hat 0 (by decide), hat 1 (by decide), hat 2 (by decide), hat 3 (by decide), hat 4 (by decide)⟩, hy⟩
    refine ⟨some a, cap, xs, by rw [hxl], by omega, hm, fun j hj => ⟨a, rfl, ?_, hx j (by omega)⟩, hf⟩
    have := World.block_lt_of_cell? W _ (hx j (by omega)).1
    rwa [block_add] at this
set_option maxRecDepth 100000 in
/-- A slice of them that came in. -/
theorem open_W {H : Type} {enc : TypeId × Value → H} {W : World} {b0 : Nat} {v : Value} {d : DataW H} {p : List MemPlace} (hval : Value.okWide Tryd.prog W .any b0 48 v) (h : DataW.Trod enc Tryd.prog W 0 (fun _ => true) true 48 v d p) :
    ∃ (A : Option Addr) (c : Nat) (xs : List Sv), v = .slice A xs.length c ∧ xs.length ≤ c ∧ c ≤ maxLen ∧ Ws W A xs ∧ FitW xs := by
  obtain ⟨a0, len, cap, rfl⟩ := okWide_slice Tryd.underlying48 hval
  obtain ⟨fuel, hf⟩ := h
  obtain ⟨A, c, xs, e, h1, h2, h3, h4⟩ := W_trod hf
  simp only [Value.cells, List.cons.injEq, and_true] at e
  exact ⟨A, c, xs, e, h1, h2, h3, h4⟩
/-- One that came in. -/
theorem open_saved {W : World} {b0 : Nat} {v : Value} {d : DataW H} {p : List MemPlace} (hval : Value.okWide Tryd.prog W .any b0 26 v) (h : DataW.Trod enc Tryd.prog W 0 (fun _ => true) true 26 v d p) :
    ∃ x : Sv, v = .agg #[.int .u64 x.q, .int .u64 x.b, .int .u64 x.i, .int .u64 x.e, .int .i64 x.u] ∧ FitS x := by
  obtain ⟨cs, rfl, _⟩ := okWide_struct Tryd.underlying26 hval
  obtain ⟨fuel, hf⟩ := h
  obtain ⟨y, e, hy⟩ := one_W hf
  refine ⟨y, ?_, ⟨hy.1, hy.2.1, hy.2.2.1, hy.2.2.2.1, hy.2.2.2.2⟩⟩
  have : cs.toList = cW1 y := e
  obtain ⟨l⟩ := cs
  simp only at this
  rw [this]
  rfl
/-- A disk that came in. -/
theorem open_disk {W : World} {b0 : Nat} {v : Value} {d : DataW H} {p : List MemPlace} (hval : Value.okWide Tryd.prog W .any b0 23 v) (h : DataW.Trod enc Tryd.prog W 0 (fun _ => true) true 23 v d p) :
    ∃ x : Dk, v = .agg #[.string x.a, .string x.b] ∧ x.a.size ≤ maxLen ∧ x.b.size ≤ maxLen := by
  obtain ⟨cs, rfl, hsz⟩ := okWide_struct Tryd.underlying23 hval
  obtain ⟨l⟩ := cs
  match l, hsz.trans cellsDk with
  | [c0, c1], _ =>
    obtain ⟨fuel, hf⟩ := h
    obtain ⟨y0, y1, k, _, _, h0, h1⟩ := trod_struct2 Tryd.underlying23 hf
    have g0 : DataW.trod enc Tryd.prog W 0 (fun _ => true) true k 9 ((([c0, c1] : List Value).drop 0).take (Tryd.prog.cellsOf 9)) = some y0 := h0
    have g1 : DataW.trod enc Tryd.prog W 0 (fun _ => true) true k 9 ((([c0, c1] : List Value).drop 1).take (Tryd.prog.cellsOf 9)) = some y1 := h1
    rw [cellsStr] at g0 g1
    simp only [List.drop_zero, List.drop_succ_cons, List.take_succ_cons, List.take_zero] at g0 g1
    obtain ⟨a, e0, _, w0⟩ := DataW.trod_string Tryd.underlying9 g0
    obtain ⟨b, e1, _, w1⟩ := DataW.trod_string Tryd.underlying9 g1
    simp only [List.cons.injEq, and_true] at e0 e1
    subst e0 e1
    exact ⟨⟨a, b⟩, rfl, w0, w1⟩
theorem open_nat {k : IntKind} {t : TypeId} {m : Int} (ht : Tryd.prog.underlying t = some (.int k)) (hm : ∀ a, (Lit.int k a).wf = true → 0 ≤ a ∧ a ≤ m) {W : World} {b0 : Nat} {v : Value} {d : DataW H} {p : List MemPlace} (hval : Value.okWide Tryd.prog W .any b0 t v) (h : DataW.Trod enc Tryd.prog W 0 (fun _ => true) true t v d p) :
    ∃ a : Nat, v = .int k (a : Int) ∧ (a : Int) ≤ m := by
  obtain ⟨n, rfl⟩ := okWide_int ht hval
  obtain ⟨fuel, hf⟩ := h
  obtain ⟨a, e, _, hw⟩ := DataW.trod_int ht hf
  simp only [Value.cells, List.cons.injEq, and_true, Value.int.injEq, true_and] at e
  subst e
  have := hm _ hw
  obtain ⟨m, rfl⟩ := Int.eq_ofNat_of_zero_le this.1
  exact ⟨m, rfl, by omega⟩
/-- Octets that came in. -/
theorem open_octs {W : World} {b0 : Nat} {v : Value} {d : DataW H} {p : List MemPlace} (hval : Value.okWide Tryd.prog W .any b0 49 v) (h : DataW.Trod enc Tryd.prog W 0 (fun _ => true) true 49 v d p) :
    ∃ (A : Option Addr) (c : Nat) (is : List Int), v = .slice A is.length c ∧ is.length ≤ c ∧ c ≤ maxLen ∧ (∀ j, j < is.length → ∃ ad, A = some ad ∧ ad.block < W.heap.size ∧ W.cell? (ad.add j) = some (.int .u8 (is.getD j 0))) ∧ ∀ i ∈ is, 0 ≤ i ∧ i ≤ 255 := by
  obtain ⟨a0, len, cap, rfl⟩ := okWide_slice Tryd.underlying49 hval
  obtain ⟨fuel, hf⟩ := h
  rcases open_ints Tryd.underlying49 Tryd.underlying5 cellsU8 hf with ⟨hcs, hx⟩ | ⟨a, len', cap', zs, hcs, _, hl, hm, hz, hx, hcell, hwz⟩
  · simp [Value.cells] at hcs
    obtain ⟨rfl, rfl, rfl⟩ := hcs
    exact ⟨none, 0, [], rfl, by simp, by simp, fun j hj => absurd hj (Nat.not_lt_zero j), fun _ h => (List.not_mem_nil h).elim⟩
  · simp [Value.cells] at hcs
    obtain ⟨rfl, rfl, rfl⟩ := hcs
    simp only [if_true] at hz
    have hlen : (zs.take len).length = len := by simp; omega
    refine ⟨some a, cap, zs.take len, by rw [hlen], by omega, hm, fun j hj => ?_, fun i hi => ?_⟩
    · rw [hlen] at hj
      have hc := hcell j (by omega)
      refine ⟨a, rfl, by have := World.block_lt_of_cell? W _ hc; rwa [block_add] at this, ?_⟩
      rw [hc]
      simp [List.getD, hj]
    · exact u8_of_wf (hwz i (List.mem_of_mem_take hi))
end
end Go.Proofs.YtlpnhpnigljlnaaDoor
