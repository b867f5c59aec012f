/-
  DiceOrders: of n numbers, over all scripts of n less 1 draws that are as great as can be told apart, each order comes once: the law returns true for every input.
-/
import Derived.Test.YtincniaekhiceaaBoth
import Derived.Test.YtincniaekhiceaaOrdMath
import Derived.StillTactics
import Derived.BigQuiet
import Derived.Deep.QuietTactic
import Derived.Deep.RegionLaw
import Derived.Deep.AppendLies
import Derived.Deep.DeepCutAuto
import Derived.Maps.OwnSet
import Derived.Laws.IdiomStrings
namespace Go.Proofs.Ytincniaekhiceaa.lawOrders
open Go.ChangeShapes Go.WideShapes Go.ChangeAt Go.RowKit Go.Proofs.Ytincniaekhiceaa.Pure
open Go.Maps (Keyed string_keyed)

/-- A look-up in a map of the call's own whose elements are bools, at a key that is not there. -/
theorem lookup_new {H : Type} {P : Program} (w : World) {ops : Array Oper} {rest : List Oper} {o : Oper} {a : Act} {Q : Exit → Act → World → Prop}
    (hg : o.guard = none) (m x : Operand) (t : TypeId) (hop : o.op = Op.lookup t m x false) (k e : TypeId) (K : Keyed P k) (ht : P.underlying t = some (.map k e)) (he : P.underlying e = some .bool)
    (hz : (zeroValue e).run P w = .ok (.bool false) w) (b n : Nat) (D : DataW H) (hm : a.eval m = .map (some b)) (hown : w.ownsMap P k (plainElem P e) b n D) (key : Value) (kl : Lit) (hx : a.eval x = key) (hkey : keyOf P k key = some kl)
    (hD : Maps.has D kl = false) (hK : wpList P ops Q rest (a.put o.dst (.bool false)) w) : wpList P ops Q (o :: rest) a w := by
  refine wpList_plain hg fun K' hK' => ?_
  obtain ⟨v, ps, hrun, hv⟩ := hown.lookup K ht hz (plainElem_bool he false) hkey
  rw [Maps.atKey_of_not_has hD] at hv
  have hvb : v = .bool false := by
    unfold plainElem at hv
    rw [he] at hv
    cases v <;> simp at hv
    rw [hv.1]
  subst hvb
  unfold Oper.wp
  simp [execOp, hop, hm, hx, hrun, Result.andThen]
  exact hK' _ _ hK

theorem infoStr : (Try.prog.info? 9).map (fun i => (i.zero, i.size, i.bytes)) = some (some (.string ⟨#[]⟩), 1, 16) := by kernel_rfl
theorem zeroBool (w : World) : (zeroValue 4).run Try.prog w = .ok (.bool false) w := by kernel_rfl

/-- The cells of texts. -/
def strs (L : List (List UInt8)) : List Value := L.map fun l => .string ⟨l.toArray⟩
/-- The slice v is the call's own, in blocks from B on, and holds the texts L. -/
def OwnS (w : World) (B : Nat) (v : Value) (L : List (List UInt8)) : Prop := w.ownsRow B 9 1 v L.length (strs L)
/-- The slice that begins at A holds the texts L, in blocks below hi. -/
def HasS (w : World) (hi : Nat) (A : Option Addr) (L : List (List UInt8)) : Prop := ∀ j, j < L.length → ∃ ad, A = some ad ∧ ad.block < hi ∧ w.cell? (ad.add j) = some (.string ⟨(L.getD j []).toArray⟩)

theorem HasS.on {w w' : World} {hi B : Nat} {A : Option Addr} {L : List (List UInt8)} (h : HasS w hi A L) (hb : Below B w w') (hB : hi ≤ B) : HasS w' hi A L := fun j hj => by
  obtain ⟨ad, e, h1, h2⟩ := h j hj
  exact ⟨ad, e, h1, (hb.cell (p := ad.add j) (by rw [block_add]; omega)).trans h2⟩
theorem OwnS.has {w : World} {B : Nat} {v : Value} {L : List (List UInt8)} (h : OwnS w B v L) : ∃ (A : Option Addr) (c : Nat), v = .slice A L.length c ∧ L.length ≤ c ∧ HasS w w.heap.size A L := by
  rcases h.2 with ⟨rfl, hn⟩ | ⟨g, cap, cur, rfl, hg, hh, hcap, _, _, _⟩
  · have : L = [] := List.eq_nil_of_length_eq_zero hn
    subst this
    exact ⟨none, 0, rfl, Nat.le_refl _, fun j hj => absurd hj (by simp)⟩
  · have hlt := World.ownsRow.lt (w := w) (v := .slice (some ⟨g, 0, none⟩) L.length cap) h g rfl
    refine ⟨some ⟨g, 0, none⟩, cap, rfl, hcap, fun j hj => ⟨_, rfl, hlt.2, ?_⟩⟩
    exact World.ownsRow.cells (w := w) (v := .slice (some ⟨g, 0, none⟩) L.length cap) h (g := g) rfl j _ (by simp [strs, List.getD, hj])
theorem OwnS.ge {w : World} {B : Nat} {v : Value} {L : List (List UInt8)} (h : OwnS w B v L) : ∀ k, v.ownBlock = some k → B ≤ k ∧ k < w.heap.size := World.ownsRow.lt (w := w) h

/-- A slice of one octet as a text. -/
theorem one_text {P : Program} (X : Int) (o : UInt8) (hX : X = (o.toNat : Int)) (g : Nat) (src dst : TypeId) (hs : P.underlying src = some (.slice 5)) (he : P.underlying 5 = some (.int .u8)) (hd : P.underlying dst = some .string)
    (W : World) (hc : W.cell? ⟨g, 0, none⟩ = some (.int .u8 X)) : (convert src dst (.slice (some ⟨g, 0, none⟩) 1 1)).run P W = .ok (.string ⟨#[o]⟩) W := by
  subst hX
  exact run_convert_bytes_back W src dst 5 ⟨g, 0, none⟩ 1 [o] hs he hd fun j hj => by
    match j, hj with
    | 0, _ => simpa [Addr.add] using hc
theorem text_snoc (l : List UInt8) (o : UInt8) : (ByteArray.mk l.toArray ++ ByteArray.mk #[o]) = ⟨(l ++ [o]).toArray⟩ := ByteArray.mk_append_mk l [o]
theorem octet_int (x : Nat) (h : x < 256) : (x : Int) = ((UInt8.ofNat x).toNat : Int) := by rw [UInt8.toNat_ofNat']; omega

set_option maxRecDepth 100000 in
set_option maxHeartbeats 4000000 in
theorem walk (n0 : Nat) (w : World) (hn0 : n0 ≤ 255) :
    Calls Try.prog 5 #[.int .u8 n0] w fun e w' => e = .returned (.bool true) ∧ Below w.heap.size w w' := by
  obtain ⟨is0, his, hsz0, hsz1, hsz2⟩ := info_parts infoStr
  obtain ⟨n, hn⟩ : ∃ n, n = n0 % 6 := ⟨_, rfl⟩
  have hn6 : n < 6 := by omega
  have HM : Hid (((n0 : Int) % 6) = (n : Int)) := Lib.hid (by omega)
  clear hn
  go_enter Try.func5, Try.ntmps5
  go_upto_region 5 with (fail)
  rw [HM.out]
  have HB0 : Hid (Below w.heap.size w (w.alloc (.cells #[.string ⟨#[]⟩] 9))) := Lib.hid ((Below.refl _ _).alloc (Nat.le_refl _) _)
  have HS0 : Hid (OwnS (w.alloc (.cells #[.string ⟨#[]⟩] 9)) 0 (.slice (some ⟨w.heap.size, 0, none⟩) 1 1) (scr n 0)) := Lib.hid (World.ownsRow_lit w #[.string ⟨#[]⟩] 1 (Nat.zero_le _) (by decide) rfl)
  generalize w.alloc (.cells #[.string ⟨#[]⟩] 9) = w1 at *
  go_wp2_with fail
  go_loopw [4, 7] (fun v i wr => ∃ j : Nat, j ≤ n ∧ i = .int .i64 j ∧ Hid (Own wr w1.heap.size v (upTo j)) ∧ Hid (Below w1.heap.size w1 wr)) (fun _ i _ => n - (intOf i).toNat)
  case atStart => exact ⟨0, Nat.zero_le _, rfl, Lib.hid (World.ownsRow_nil _ _ _ _), Lib.hid (Below.refl _ _)⟩
  case round =>
    obtain ⟨j, hj, rfl, hown, hb⟩ := hrel
    by_cases hlt : j < n
    · have HU := Lib.hid (upTo_succ j)
      have hul : (upTo j).length ≤ 10 := by rw [upTo_len]; omega
      have hzb := hb.out.size
      go_wp2_with (at_builtin; refine wpList_append_has rfl _ _ rfl w1.heap.size _ (upTo j) rfl ?c1 (some ⟨wr.heap.size, 0, none⟩) 1 0 (wr.heap.size + 1) [(j : Int)] rfl ?c2 ?c3 ?c4 ?_)
      case c1 => exact hown.out.alloc _
      case c2 => exact has_one wr j _
      case c3 => simp; omega
      case c4 => simp; omega
      intro v' w4 hown' hgrow
      have HO := Lib.hid hown'
      have HBn : Hid (Below w1.heap.size w1 w4) := Lib.hid ((hb.out.alloc hzb _).grown hgrow (by simp; omega) (fun k hk => (hown.out.ge k hk).1))
      rw [← HU.out] at HO
      clear hown' hgrow hown hb
      go_wp2_with fail
      go_roundw
      case rel => exact ⟨j + 1, by omega, by go_num, HO, HBn⟩
      case measure => simp [intOf]; omega
    · obtain rfl : n = j := by omega
      obtain ⟨A4, c4, rfl, hc4, hh4⟩ := hown.out.has
      have HL := Lib.hid hh4
      have HB1 := Lib.hid (HB0.out.trans (hb.out.mono HB0.out.size))
      have HS1 : Hid (OwnS wr 0 (.slice (some ⟨w.heap.size, 0, none⟩) 1 1) (scr n 0)) := Lib.hid (World.ownsRow.kept (w := w1) HS0.out ⟨hb.out.os, hb.out.tape, hb.out.output, hb.out.size, fun k hk _ => hb.out.block k hk⟩ (row := none) (.inr (by simp [Value.ownBlock])))
      have HH1 : Hid (HasS wr wr.heap.size (some ⟨w.heap.size, 0, none⟩) (scr n 0)) := Lib.hid (by
        obtain ⟨A, c, e, _, h⟩ := HS1.out.has
        injection e with e1
        rw [e1]
        exact h)
      clear hown hb hh4 HS0 HB0 HS1
      obtain ⟨w2, e⟩ : ∃ w2, w2 = wr := ⟨_, rfl⟩
      subst e
      go_wp2_with fail
      go_loopw [5, 6, 8] (fun v5 v6 v8 wq => ∃ (i j : Nat) (L : List (List UInt8)) (A : Option Addr) (c : Nat), i + j = n ∧ (1 ≤ i ∨ j = 0) ∧ Hid (L = scr n j) ∧ L.length ≤ 120 ∧ v5 = .slice A L.length c ∧ v6 = .int .i64 (L.length : Nat) ∧ v8 = .int .i64 i ∧
        Hid (HasS wq wq.heap.size A L) ∧ Hid (Below w2.heap.size w2 wq)) (fun _ _ i _ => (intOf i).toNat)
      case atStart => exact ⟨n, 0, scr n 0, _, 1, by omega, .inr rfl, Lib.hid rfl, show 1 ≤ 120 by omega, rfl, rfl, rfl, HH1, Lib.hid (Below.refl _ _)⟩
      case round =>
        obtain ⟨i, j, L, A, c, hij, hi1, hL, hlen, rfl, rfl, rfl, hh, hb⟩ := hrel
        obtain ⟨wq, e⟩ : ∃ wq, wq = wr := ⟨_, rfl⟩
        subst e
        by_cases h1 : 1 < i
        · have hLn : Hid (L.length * i ≤ 120) := Lib.hid (by
            have e1 := scr_len n (j + 1)
            have e2 := fall_few n hn6 (j + 1) (by omega)
            rw [scr, ← hL.out, grow_len, show n - j = i by omega] at e1
            omega)
          have HG : Hid (grow i L = scr n (j + 1)) := Lib.hid (by rw [scr, ← hL.out, show n - j = i by omega])
          clear hi1 HH1
          have d1 : decide ((1 : Int) < (i : Int)) = true := by simp; omega
          go_wp2_with fail
          go_loopw [9, 10] (fun v9 v10 wk => ∃ k : Nat, k ≤ L.length ∧ v10 = .int .i64 k ∧ Hid (OwnS wk wq.heap.size v9 (grow i (L.take k))) ∧ Hid (Below wq.heap.size wq wk)) (fun _ k _ => L.length - (intOf k).toNat)
          case atStart => exact ⟨0, Nat.zero_le _, rfl, Lib.hid (World.ownsRow_nil _ _ _ _), Lib.hid (Below.refl _ _)⟩
          case round =>
            obtain ⟨k, hk, rfl, hown, hbk⟩ := hrel
            obtain ⟨wk, e⟩ : ∃ wk, wk = wr := ⟨_, rfl⟩
            subst e
            by_cases hkl : k < L.length
            · have hgl : Hid ((grow i (L.take k)).length ≤ 600) := Lib.hid (by
                rw [grow_len, List.length_take]
                exact Nat.le_trans (Nat.mul_le_mul (Nat.min_le_left _ _) (show i ≤ 5 by omega)) (by omega))
              obtain ⟨ad, rfl, had, _⟩ := hh.out k hkl
              have HC0 : Hid (∀ wx, Below wq.heap.size wq wx → wx.cell? (ad.add k) = some (.string ⟨(L.getD k []).toArray⟩)) := Lib.hid fun wx hbx => by
                obtain ⟨ad', e, h1, h2⟩ := (hh.out.on hbx (Nat.le_refl _)) k hkl
                injection e with e
                rw [e]
                exact h2
              have hsl : Hid ((L.getD k []).length = j) := Lib.hid (by
                have e : L.getD k [] = L[k] := by simp [List.getD, hkl]
                rw [e]
                exact scr_size n j _ (by rw [← hL.out]; exact List.getElem_mem hkl))
              have HGT := Lib.hid (grow_take_succ i L k hkl)
              generalize L.getD k [] = s at *
              generalize grow i (L.take k) = G at *
              go_wp2_with fail
              go_loopw [9, 11] (fun v9 v11 wx => ∃ x : Nat, x ≤ i ∧ v11 = .int .i64 x ∧ Hid (OwnS wx wq.heap.size v9 (G ++ grow1 x s)) ∧ Hid (Below wq.heap.size wq wx)) (fun _ x _ => i - (intOf x).toNat)
              case atStart => exact ⟨0, Nat.zero_le _, rfl, by simpa [grow1] using hown, hbk⟩
              case round =>
                clear hown hbk
                obtain ⟨x, hx, rfl, hown, hbx⟩ := hrel
                obtain ⟨wx, e⟩ : ∃ wx, wx = wr := ⟨_, rfl⟩
                subst e
                by_cases hxi : x < i
                · have hcell := HC0.out wx hbx.out
                  have hzx := hbx.out.size
                  have hadx : (ad.add k).block < wx.heap.size := by rw [block_add]; omega
                  have hne : some (ad.add k).block ≠ u9.ownBlock := fun e => by
                    have := (hown.out.ge _ e.symm).1
                    rw [block_add] at this
                    omega
                  have hx2 : x < 256 := by omega
                  have hwr : IntKind.u8.wrap (x : Int) = (x : Int) := IntWalk.u8_in _ ⟨by omega, by omega⟩
                  have hconv := fun g => one_text (P := Try.prog) (x : Int) (UInt8.ofNat x) (octet_int x hx2) g 45 9 Try.underlying45 Try.underlying5 Try.underlying9
                  have hGs : (G ++ grow1 x s).length ≤ 700 := by
                    rw [List.length_append]
                    have := hgl.out
                    simp [grow1]
                    omega
                  obtain ⟨t, ht⟩ : ∃ t : ByteArray, t = ⟨s.toArray⟩ := ⟨_, rfl⟩
                  obtain ⟨u, hu⟩ : ∃ u : ByteArray, u = ⟨#[UInt8.ofNat x]⟩ := ⟨_, rfl⟩
                  have hts : t.size ≤ 10 := by rw [ht]; show s.toArray.size ≤ 10; have := hsl.out; simp; omega
                  have hus : u.size ≤ 1 := by rw [hu]; exact Nat.le_refl _
                  have HTU : Hid (t ++ u = ⟨(s ++ [UInt8.ofNat x]).toArray⟩) := Lib.hid (by rw [ht, hu]; exact text_snoc s _)
                  rw [← ht] at hcell
                  rw [← hu] at hconv
                  have hcat : ¬ 9223372036854775807 < t.size + u.size := by omega
                  clear ht hu
                  have HN2 : Hid (((wx.alloc (.cells #[.int .u8 x] 5)).alloc (.cells #[.string (t ++ u)] 9)).heap[wx.heap.size + 1]? = some (.cells #[.string (t ++ u)] 9)) := Lib.hid (by
                    have := heap_alloc_new (wx.alloc (.cells #[.int .u8 x] 5)) (.cells #[.string (t ++ u)] 9)
                    simpa using this)
                  have HP2 : Hid (((wx.alloc (.cells #[.int .u8 x] 5)).alloc (.cells #[.string (t ++ u)] 9)).cell? (ad.add k) = some (.string t)) := Lib.hid ((World.cell?_alloc_lt _ _ _ (by simp; omega)).trans ((World.cell?_alloc_lt _ _ _ hadx).trans hcell))
                  go_wp2_with fail
                  go_region_law
                    ((refine step_append_lies _ (by rfl) _ _ _ (by rfl) wq.heap.size 9 is0 _ 1 16 Try.underlying44 his hsz0 hsz1 hsz2 rfl (by omega) _ _ (strs (G ++ grow1 x s)) (by rfl) (((World.ownsRow.alloc (World.ownsRow.alloc hown.out _) _)).drew)
                        ⟨wx.heap.size + 1, 0, none⟩ 1 1 [.string (t ++ u)] (by rfl) (by rfl) (World.news_of_block (cs := #[.string (t ++ u)]) (t := 9) (fr := (0, 0)) HN2.out) (by simp [Value.oneCell'])
                        (by omega) (by unfold maxLen; omega) (by omega) (by simp [World.drew]; omega) (wx.heap.size + 2) (by simp [World.drew]) ?_; intro gg cap w5 hown5 hgrow5 hat5 hlt5))
                  all_goals
                    have HO : Hid (OwnS w5 wq.heap.size (.slice (some ⟨gg, 0, none⟩) (G.length + (grow1 x s).length + 1) cap) (G ++ grow1 (x + 1) s)) := Lib.hid (by
                      have e1 : G ++ grow1 (x + 1) s = (G ++ grow1 x s) ++ [s ++ [UInt8.ofNat x]] := by rw [grow1_take_succ, List.append_assoc]
                      rw [e1]
                      rw [HTU.out] at hown5
                      simpa [OwnS, strs, Nat.add_assoc] using hown5)
                    have HBn : Hid (Below wq.heap.size wq w5) := Lib.hid (((hbx.out.alloc hzx _).alloc (by simp; omega) _).drew.grown hgrow5 (by simp [World.drew]; omega) (fun b e => (hown.out.ge b e).1))
                    clear hown5 hgrow5 hat5 hown hbx hcell hconv HN2 HP2 HTU hne
                    go_wp2_with fail
                    go_roundw
                    case rel => exact ⟨x + 1, by omega, by go_num, HO, HBn⟩
                    case measure => simp [intOf]; omega
                · obtain rfl : i = x := by omega
                  have HO : Hid (OwnS wx wq.heap.size u9 (grow i (L.take (k + 1)))) := Lib.hid (by rw [HGT.out]; exact hown.out)
                  clear hown
                  go_wp2_with fail
                  go_roundw
                  case rel => exact ⟨k + 1, by omega, by go_num, HO, hbx⟩
                  case measure => simp [intOf]; omega
            · obtain rfl : k = L.length := by omega
              have HO : Hid (OwnS wk wq.heap.size u9 (grow i L)) := Lib.hid (by have := hown.out; rwa [List.take_of_length_le (Nat.le_refl _)] at this)
              obtain ⟨A9, c9, rfl, hc9, hh9⟩ := HO.out.has
              have HH9 := Lib.hid hh9
              have hlm : Hid ((grow i L).length = L.length * i) := Lib.hid (grow_len i L)
              have hmul : IntKind.i64.wrap ((L.length : Int) * (i : Int)) = ((grow i L).length : Int) := by rw [show ((L.length : Int) * (i : Int)) = ((L.length * i : Nat) : Int) by simp, IntWalk.i64_in _ ⟨by omega, by have := hLn.out; omega⟩, hlm.out]
              have hg120 : (grow i L).length ≤ 120 := by rw [hlm.out]; exact hLn.out
              have HBq := Lib.hid (hb.out.trans (hbk.out.mono hb.out.size))
              generalize grow i L = M at *
              clear hown hh9 hbk HO
              go_wp2_with fail
              go_roundw
              case rel => exact ⟨i - 1, j + 1, M, A9, c9, by omega, .inl (by omega), HG, hg120, rfl, rfl, by go_num, HH9, HBq⟩
              case measure => simp [intOf]; omega
        · have hj1 : n - 1 = j := by omega
          have HK : Hid ((L.map (order n)).Nodup) := Lib.hid (by have := orders_apart n hn6; rw [orders, hj1, ← hL.out] at this; exact this)
          have HSz : Hid (∀ k, k < L.length → (L.getD k []).length = j) := Lib.hid fun k hk => by
            have e : L.getD k [] = L[k] := by simp [List.getD, hk]
            rw [e]
            exact scr_size n j _ (by rw [← hL.out]; exact List.getElem_mem hk)
          have HL2 : Hid (Has wq w1.heap.size w2.heap.size A4 (upTo n)) := Lib.hid (HL.out.on hb.out (Nat.le_refl _))
          have HBq : Hid (Below w.heap.size w wq) := Lib.hid (HB1.out.trans (hb.out.mono HB1.out.size))
          have hzq := hb.out.size
          have hmm := @run_makeMap Try.prog
          clear hi1 hL HH1 HL HB1 hb
          have HM0 : Hid ((wq.alloc (.map #[] 0)).ownsMap Try.prog 9 (plainElem (H := Unit) Try.prog 4) wq.heap.size 0 (.map [])) := Lib.hid (World.ownsMap_made _ _ _ _)
          have HB0 : Hid (Below wq.heap.size wq (wq.alloc (.map #[] 0))) := Lib.hid ((Below.refl _ _).alloc (Nat.le_refl _) _)
          go_wp2_with fail
          go_loopw [13] (fun v13 wm => ∃ (k : Nat) (D : DataW Unit), k ≤ L.length ∧ v13 = .int .i64 k ∧ Hid (wm.ownsMap Try.prog 9 (plainElem (H := Unit) Try.prog 4) wq.heap.size k D) ∧ Hid (Maps.size D = k) ∧
            Hid (∀ l ∈ (L.map (order n)).drop k, Maps.has D (.string l) = false) ∧ Hid (Below wq.heap.size wq wm)) (fun k _ => L.length - (intOf k).toNat)
          case atStart => exact ⟨0, .map [], Nat.zero_le _, rfl, HM0, Lib.hid rfl, Lib.hid (fun _ _ => rfl), HB0⟩
          case round =>
            clear HM0 HB0
            obtain ⟨k, D, hk, rfl, hown, hsz, hnew, hbm⟩ := hrel
            obtain ⟨wm, e⟩ : ∃ wm, wm = wr := ⟨_, rfl⟩
            subst e
            by_cases hkl : k < L.length
            · have hcell := Lib.hid ((hh.out.on hbm.out (Nat.le_refl _)) k hkl)
              have hsl := HSz.out k hkl
              obtain ⟨ad, rfl, had, hc⟩ := hcell.out
              have i0 : (0 : Int) ≤ (k : Int) := by omega
              have i1 : (k : Int) < (L.length : Int) := by omega
              have HKk : Hid ((L.map (order n)).drop k = order n (L.getD k []) :: (L.map (order n)).drop (k + 1)) := Lib.hid (by
                rw [List.drop_eq_getElem_cons (by simpa using hkl)]
                simp [List.getD, hkl])
              generalize L.getD k [] = s at *
              obtain ⟨t, ht⟩ : ∃ t : ByteArray, t = ⟨s.toArray⟩ := ⟨_, rfl⟩
              have hts : t.size = j := by rw [ht, ← hsl]; show s.toArray.size = _; simp
              have htl : t.data.toList = s := by rw [ht]
              have HSh := Lib.hid (fun W h hh => shuffle_yes t 0 c4 w1.heap.size w2.heap.size A4 (upTo n) W (by omega) (Nat.zero_le _) (by rw [upTo_len]; omega) h hh)
              have hat := shufAll_at t.data.toList 0 (upTo n) (Nat.zero_le _)
              have hat' : (shufAll t.data.toList 0 (upTo n)).2 = j := by rw [hat, upTo_len]; simp; omega
              rw [hat', htl] at HSh
              rw [← ht] at hc
              have hzm := hbm.out.size
              have hyl := shufAll_len s 0 (upTo n)
              rw [upTo_len] at hyl
              have HYM := Lib.hid (fun y hy => shuf_mem s n y hy)
              have HOR : Hid (order n s = (shufAll s 0 (upTo n)).1.map fun y => UInt8.ofNat y.toNat) := Lib.hid rfl
              generalize (shufAll s 0 (upTo n)).1 = ys at *
              have HYL := Lib.hid hyl
              have g1 : (((upTo n).length : Int) != (n : Int)) = false := by rw [upTo_len]; simp
              have g2 : ((j : Int) != (t.size : Int)) = false := by rw [hts]; simp
              have ht5 : t.size ≤ 5 := by omega
              have HTL := Lib.hid hts
              have hln : Hid ((upTo n).length = n) := Lib.hid (upTo_len n)
              clear hat hat' ht htl hts hj1 hsl hyl
              go_wp2_with fail
              refine (HSh.out _ (HL2.out.on hbm.out (by omega)) (by omega)).mono ?_
              rintro e w4 ⟨A5, c5, rfl, hc5, hh5, hb5⟩
              have HC4 := Lib.hid ((hb5.cell (p := ad.add k) (by rw [block_add]; omega)).trans hc)
              have hz5 := hb5.size
              have HX5 := Lib.hid (Box.new w4 t j 23)
              have HY5 := Lib.hid (hh5.alloc (.cells #[.string t, .int .i64 j] 23) (Nat.le_refl _))
              have HC5 := Lib.hid ((World.cell?_alloc_lt w4 (.cells #[.string t, .int .i64 j] 23) (ad.add k) (by rw [block_add]; omega)).trans HC4.out)
              have HB5 := Lib.hid ((hb5.alloc hz5 (.cells #[.string t, .int .i64 j] 23)))
              clear hb5 hh5 hc HC4
              go_upto_region 27 with (fail)
              have hz6 : w4.heap.size < (w4.alloc (.cells #[.string t, .int .i64 j] 23)).heap.size := by simp
              generalize w4.alloc (.cells #[.string t, .int .i64 j] 23) = w5 at *
              obtain ⟨x0, x1, xf0, xf1⟩ := HX5.out
              have hc5' := HC5.out
              go_quiet (fail)
              go_wp2_with fail
              have HB6 := Lib.hid (below_drewN HB5.out nq)
              have HY6 := Lib.hid (HY5.out.drewN nq)
              have hz7 : wm.heap.size ≤ (w5.drewN nq).heap.size := HB6.out.size
              have hy6 : w4.heap.size ≤ (w5.drewN nq).heap.size := by show _ ≤ w5.heap.size; omega
              generalize w5.drewN nq = w6 at *
              clear x0 x1 xf0 xf1 HX5 HC5 HB5 HY5 hc5'
              go_loopw [17, 18] (fun v17 v18 wz => ∃ (i : Nat) (b : ByteArray), i ≤ n ∧ v18 = .int .i64 i ∧ v17 = .string b ∧ b.size ≤ i ∧ Hid (b = ⟨((order n s).take i).toArray⟩) ∧ Hid (Below w6.heap.size w6 wz)) (fun _ i _ => n - (intOf i).toNat)
              case atStart => exact ⟨0, ⟨#[]⟩, Nat.zero_le _, rfl, rfl, Nat.le_refl _, Lib.hid rfl, Lib.hid (Below.refl _ _)⟩
              case round =>
                obtain ⟨y, b, hy, rfl, rfl, hbs, hbt, hbz⟩ := hrel
                obtain ⟨wz, e⟩ : ∃ wz, wz = wr := ⟨_, rfl⟩
                subst e
                by_cases hyn : y < n
                · have HYz := HY6.out.on hbz.out (by omega)
                  obtain ⟨ad5, rfl, _, _, hcy⟩ := HYz y (by rw [HYL.out]; exact hyn)
                  have j0 : (0 : Int) ≤ (y : Int) := by omega
                  have j1 : (y : Int) < ((upTo n).length : Int) := by rw [hln.out]; omega
                  have hge : ys.getD y 0 = ys[y]'(by rw [HYL.out]; exact hyn) := by simp [List.getD, HYL.out, hyn]
                  have hz0 := HYM.out (ys.getD y 0) (by rw [hge]; exact List.getElem_mem _)
                  have hol := order_len n s
                  have HT : Hid ((order n s).take (y + 1) = (order n s).take y ++ [UInt8.ofNat (ys.getD y 0).toNat]) := Lib.hid (by
                    rw [List.take_succ_eq_append_getElem (by rw [hol]; exact hyn)]
                    congr 2
                    simp only [HOR.out, List.getElem_map]
                    rw [hge])
                  clear hge hol HYz
                  generalize ys.getD y 0 = z at *
                  obtain ⟨z, rfl⟩ := Int.eq_ofNat_of_zero_le hz0.1
                  have hzn : z < 6 := by omega
                  have hconv := fun g => one_text (P := Try.prog) (z : Int) (UInt8.ofNat z) (octet_int z (by omega)) g 45 9 Try.underlying45 Try.underlying5 Try.underlying9
                  obtain ⟨u, hu⟩ : ∃ u : ByteArray, u = ⟨#[UInt8.ofNat z]⟩ := ⟨_, rfl⟩
                  have hus : u.size ≤ 1 := by rw [hu]; exact Nat.le_refl _
                  have HTU : Hid (b ++ u = ⟨((order n s).take (y + 1)).toArray⟩) := Lib.hid (by rw [HT.out, hbt.out, hu]; exact text_snoc _ _)
                  rw [← hu] at hconv
                  clear hu hz0
                  go_wp2_with fail
                  go_roundw
                  case rel => exact ⟨y + 1, b ++ u, by omega, by go_num, rfl, by rw [ByteArray.size_append]; omega, HTU, Lib.hid (hbz.out.alloc hbz.out.size _)⟩
                  case measure => simp [intOf]; omega
                · obtain rfl : n = y := by omega
                  have HOB : Hid (b.data.toList = order n s) := Lib.hid (by rw [hbt.out, List.take_of_length_le (by rw [order_len]; exact Nat.le_refl _)])
                  have HBz := Lib.hid (HB6.out.trans (hbz.out.mono HB6.out.size))
                  have HOz : Hid (wz.ownsMap Try.prog 9 (plainElem (H := Unit) Try.prog 4) wq.heap.size k D) := Lib.hid (hown.out.kept (row := none) ⟨HBz.out.os, HBz.out.tape, HBz.out.output, HBz.out.size, fun b hb _ => HBz.out.block b hb⟩ (by simp))
                  have hkey : keyOf Try.prog 9 (.string b) = some (.string (order n s)) := by rw [← HOB.out]; exact Go.WideMaps.keyOf_string_mk Try.underlying9 (by unfold maxLen; omega)
                  have HN0 : Hid (Maps.has D (.string (order n s)) = false) := Lib.hid (hnew.out _ (by rw [HKk.out]; exact List.mem_cons_self))
                  have HKey := Lib.hid hkey
                  clear hkey hbt hbz
                  go_wp2_with (first
                    | (at_lookup; refine lookup_new _ rfl _ _ 46 rfl 9 4 (string_keyed Try.underlying9) Try.underlying46 Try.underlying4 (zeroBool _) wq.heap.size k D rfl HOz.out _ _ rfl HKey.out HN0.out ?_)
                    | (at_mapUpdate; refine wpList_mapUpdate_own _ rfl _ _ _ 46 rfl 9 4 (string_keyed Try.underlying9) Try.underlying46 _ wq.heap.size k D rfl HOz.out (by unfold maxLen; omega) _ _ _ rfl rfl HKey.out _ [] (plainElem_bool Try.underlying4 true) ?_; intro w9 hown9 hgrow9))
                  have HSz' : Hid (Maps.size (D.put (.string (order n s)) (.lit (.bool true))) = k + 1) := Lib.hid (by rw [Maps.size_put (hown.out.tidy (string_keyed Try.underlying9)), HN0.out]; simp [hsz.out])
                  have HNew' : Hid (∀ l ∈ (L.map (order n)).drop (k + 1), Maps.has (D.put (.string (order n s)) (.lit (.bool true))) (.string l) = false) := Lib.hid fun l hl => by
                    have hnd := HK.out.sublist (List.drop_sublist k _)
                    rw [HKk.out] at hnd
                    have hne : l ≠ order n s := fun e => (List.nodup_cons.1 hnd).1 (e ▸ hl)
                    rw [Maps.has_put_other (by intro e; injection e with e; exact hne e)]
                    exact hnew.out l (by rw [HKk.out]; exact List.mem_cons_of_mem _ hl)
                  have HBn := Lib.hid ((hbm.out.trans (HBz.out.mono hbm.out.size)).grown hgrow9 (Nat.le_trans hbm.out.size HBz.out.size) (by intro b e; injection e with e; omega))
                  go_roundw
                  case rel => exact ⟨k + 1, _, by omega, by go_num, Lib.hid hown9, HSz', HNew', HBn⟩
                  case measure => simp [intOf]; omega
            · obtain rfl : k = L.length := by omega
              have hsz' : ((Maps.size D : Int) == (L.length : Int)) = true := by rw [hsz.out]; simp
              go_upto_region 37 with (fail)
              go_wp2_with (first
                | (at_len; refine wpList_len_own _ rfl _ 46 rfl 9 4 Try.underlying46 _ wq.heap.size L.length D rfl hown.out ?_))
              refine (awake_any _).mono ?_
              rintro e w10 ⟨rfl, hb10⟩
              go_wp2_with fail
              go_ret
              exact ⟨rfl, (HBq.out.trans (hbm.out.mono HBq.out.size)).trans (hb10.mono (Nat.le_trans HBq.out.size hbm.out.size))⟩
/-! ### the statement -/
theorem run_walk (n : Int) (w : World) (hn : 0 ≤ n ∧ n ≤ 255) :
    Calls Try.prog 5 #[.int .u8 n] w fun e w' => e = .returned (.bool true) ∧ Below w.heap.size w w' := by
  obtain ⟨n, rfl⟩ := Int.eq_ofNat_of_zero_le hn.1
  exact walk n w (by omega)

theorem parOk : ∀ t ∈ (#[5] : Array TypeId).toList, Try.prog.readableRec t = true ∧ t < Try.prog.types.size := by
  have hall : ([5].all fun t => Try.prog.readableRec t && decide (t < Try.prog.types.size)) = true := by kernel_rfl
  intro t ht
  simpa using List.all_eq_true.1 hall t ht

/-- What the walk gives, for every argument. -/
theorem contract (H : Type) (enc : TypeId × Value → H) (W : World) (base : Nat) (args : Array Value) (ds gs : List (DataW H)) (before : List MemPlace)
    (hval : ∀ (j : Nat) t v, Try.f5.params[j]? = some t → args[j]? = some v → Value.okWide Try.prog W .any base t v)
    (hW : DataW.Whole enc Try.prog Try.f5.params.toList Rows.diceOrdersSpec.vars false W args.toList ds gs before) :
    Calls Try.prog 5 args W fun e W' => ∃ v, e = .returned v ∧ Rows.diceOrdersSpec.post enc Try.prog Try.f5 false true false false W args v W' := by
  have hW' := hW
  obtain ⟨p, q, hA0, hV, rfl, hfz, hnd⟩ := hW
  have hA : DataW.TrodAll enc Try.prog W 0 (fun _ => true) true Try.f5.params.toList args.toList ds p := hA0
  rw [Try.params5] at hA hval
  obtain ⟨v0, vs0, d0, ds0, p0, q0, hargs, rfl, rfl, h0, r0⟩ := trodAll_cons hA
  obtain ⟨rfl, rfl, rfl⟩ := trodAll_nil r0
  obtain rfl : args = #[v0] := by cases args; simp_all
  obtain ⟨rfl, rfl⟩ := trodVars_none hV
  obtain ⟨n, rfl, rfl, rfl, wn⟩ := open_int Try.underlying5 (hval 0 5 v0 rfl rfl) h0
  clear hA0
  refine (run_walk n W (by simpa [Lit.wf, IntKind.min, IntKind.max, IntKind.signed, IntKind.bits] using wn)).mono fun e W' ⟨he, hb⟩ => ?_
  subst he
  exact ⟨_, rfl, law_post rfl (by rw [Try.params5]; exact parOk) rfl hW' rfl rfl rfl hb⟩

set_option maxRecDepth 100000 in
theorem lifted (os : Os) (started : os.Started) (H : Type) (enc : TypeId × Value → H) :
    ReturnsInHanded {} Try.checked os 5 .any (Rows.diceOrdersSpec.pre6 enc Try.prog Try.f5 Rows.diceOrdersRow.domain false) (Rows.diceOrdersSpec.post enc Try.prog Try.f5 false true false false) := by
  refine returnsInHanded_of_change (C := Try.checked) own started (by kernel_rfl) Try.func5
    (ChangeSpec.witness6 (enc := enc) (C := Try.checked) false ⟨#[], #[.int .u8 0], []⟩ 8 (by kernel_rfl) (by kernel_rfl) (by kernel_rfl) (by kernel_rfl)) ?_
  intro W base args ds gs before hval hW _ _
  exact contract H enc W base args ds gs before hval hW

/-- THE STATEMENT. -/
theorem said : Rows.DiceOrdersSaid :=
  OpenClaim.holds_of_wide 5 Try.f5 rfl rfl rfl rfl rfl rfl rfl ⟨rfl, rfl, rfl, rfl, rfl⟩ rfl rfl rfl rfl rfl (by kernel_rfl) Try.func5 (by kernel_rfl)
    (of_decide_eq_true (by kernel_rfl)) (by unfold Func.isWrapper; first | (rw [if_pos (by decide +kernel)]; kernel_rfl) | (rw [if_neg (by decide +kernel)]; exact ⟨rfl, rfl⟩))
    (fun os started H enc _ => lifted os started H enc)
end Go.Proofs.Ytincniaekhiceaa.lawOrders
