/-
  The walk of Walk; what a slice of numbers of the call's own is, where others are written.
-/
import Derived.Test.YthcjjogomknddaaDoorPlc
namespace Go.Proofs.YthcjjogomknddaaDoor
open Go.Sort Go.RowKit Go.Proofs.YthcjjogomknddaaDoor.Pure

section
variable {w w' : World} {B g : Nat} {v u : Value} {xs : List Int}
theorem Own.ge (h : Own w B v xs) : ∀ k, v.ownBlock = some k → B ≤ k ∧ k < w.heap.size := World.ownsRow.lt (w := w) h
theorem Own.keepB (h : Own w B v xs) (hk : ∀ k, v.ownBlock = some k → w'.heap[k]? = w.heap[k]?) : Own w' B v xs := by
  refine ⟨h.1, ?_⟩
  rcases h.2 with h | ⟨g, cap, cur, rfl, h2, h3, h4⟩
  · exact .inl h
  · exact .inr ⟨g, cap, cur, rfl, h2, (hk g rfl).trans h3, h4⟩
theorem Own.on (h : Own w B v xs) (hb : Below w.heap.size w w') : Own w' B v xs := h.keepB fun k hk => hb.block k (h.ge k hk).2
theorem Own.alloc (h : Own w B v xs) (o : Obj) : Own (w.alloc o) B v xs := h.on ((Below.refl _ _).alloc (Nat.le_refl _) o)
theorem Own.far (h : Own w B v xs) {q : Addr} (hq : q.block < B) (y : Value) : Own (w.setCell q y) B v xs := h.keepB fun k hk => Below.heap_setCell w q y k (by have := (h.ge k hk).1; omega)
theorem Own.mono {B' : Nat} (h : Own w B v xs) (hB : B' ≤ B) : Own w B' v xs := by
  refine ⟨h.1, ?_⟩
  rcases h.2 with h | ⟨g, cap, cur, h1, h2, h3⟩
  · exact .inl h
  · exact .inr ⟨g, cap, cur, h1, Nat.le_trans hB h2, h3⟩
theorem Own.nil (w : World) (B : Nat) : Own w B (.slice none 0 0) [] := World.ownsRow_nil _ _ _ _
theorem below_grownO {B C : Nat} {w0 w w' : World} (hb : Below B w0 w) (ho : Own w C v xs) (hg : w.grownBy w' v.ownBlock) (hB : B ≤ w.heap.size) (hC : B ≤ C) : Below B w0 w' :=
  hb.grown hg hB (fun k hk => Nat.le_trans hC (ho.ge k hk).1)
theorem Arr.grown {b : Nat} {bs : List Bool} {row : Option Nat} (h : Arr w b bs) (hg : w.grownBy w' row) (hr : row ≠ some b) : Arr w' b bs := (hg.block b h.lt (fun e => hr e.symm)).trans h
theorem Has.one (w : World) (x : Int) (t : TypeId) : Has (w.alloc (.cells #[.int .i64 x] t)) w.heap.size (w.heap.size + 1) (some ⟨w.heap.size, 0, none⟩) [x] := by
  intro j hj
  have hj0 : j = 0 := by simp at hj; omega
  subst hj0
  exact ⟨_, rfl, Nat.le_refl _, Nat.lt_succ_self _, by go_simp⟩
end
theorem marks_put (xs : List Int) (v : Nat) (h : v < 64) : (marks xs).set v true = marks (xs ++ [(v : Int)]) := by
  have := marks_snoc (xs ++ [(v : Int)]) xs.length v (by simp) (by simp [List.getD]) h
  rw [List.take_left, List.take_of_length_le (by simp)] at this
  exact this

set_option maxRecDepth 100000 in
set_option maxHeartbeats 4000000 in
theorem walk_any (A : Option Addr) (c : Nat) (l : List Pt) (s : ByteArray) (w : World) (hn : l.length ≤ 100000) (hl : Ps w A l) (hs : s.size ≤ maxLen) (e : Int) (he : errP l = e) :
    Calls Tryd.prog 48 #[.slice A l.length c, .string s] w fun r w' => ∃ v, r = .returned (.tuple #[v, .int .i64 e]) ∧ Own w' w.heap.size v (if e = 0 then walkP l (sumK s) else []) ∧ Below w.heap.size w w' := by
  have H := Lib.hid hl
  by_cases h0 : e = 0
  · subst h0
    rw [if_pos rfl]
    have hm := errP_zero he
    have HC := Lib.hid (fun (W : World) (h : Ps W A l) => place_any A c l s W hn h hs _ 0 he rfl)
    rw [if_pos rfl] at HC
    have hq := place_lt (sumK s) hm.2
    have hmay := (mayB_iff l).1 hm.1
    have hlen := hmay.1
    have HST : Hid (∀ k, k < l.length → ∃ v : Nat, (rotN l (sumK s)).getD k 0 = (v : Int) ∧ v < 64 ∧ (pt l ((placeP l (sumK s) + k) % l.length)).n = (v : Int) ∧ nub ((rotN l (sumK s)).take (k + 1)) = if (v : Int) ∈ nub ((rotN l (sumK s)).take k) then nub ((rotN l (sumK s)).take k) else nub ((rotN l (sumK s)).take k) ++ [(v : Int)]) := Lib.hid (fun k hk => by
      have h1 := rotN_at l (sumK s) k hk
      have h2 := hmay.2 ((placeP l (sumK s) + k) % l.length) (Nat.mod_lt _ hm.2)
      have h3 := walk_step l (sumK s) k hk
      rw [h1] at h3 ⊢
      generalize (pt l ((placeP l (sumK s) + k) % l.length)).n = x at *
      refine ⟨x.toNat, by omega, by omega, by omega, ?_⟩
      rw [show ((x.toNat : Nat) : Int) = x by omega]
      exact h3)
    have HNL : Hid (∀ k, (nub ((rotN l (sumK s)).take k)).length ≤ k) := Lib.hid (fun k => by
      have := nub_le ((rotN l (sumK s)).take k)
      rw [List.length_take] at this
      omega)
    have HE : Hid (nub ((rotN l (sumK s)).take l.length) = walkP l (sumK s)) := Lib.hid (by
      rw [List.take_of_length_le (by rw [rotN_len]; exact Nat.le_refl _)]; rfl)
    have HZ : Hid (nub ((rotN l (sumK s)).take 0) = []) := Lib.hid rfl
    generalize walkP l (sumK s) = WK at *
    generalize placeP l (sumK s) = q at *
    generalize rotN l (sumK s) = RN at *
    have hzv := zero_arr
    clear hl he hm hmay
    go_enter Tryd.func48, Tryd.ntmps48
    go_wp2_with fail
    refine (HC.out _ H.out).mono ?_
    rintro e w1 ⟨rfl, hb1⟩
    have HA1 : Hid (Arr (w1.alloc (.cells (bools (List.replicate 64 false)) 70)) w1.heap.size (marks [])) := Lib.hid (by rw [marks_nil]; exact Arr.new w1 _)
    have HB1 : Hid (Below w.heap.size w (w1.alloc (.cells (bools (List.replicate 64 false)) 70))) := Lib.hid (hb1.alloc hb1.size _)
    have hw1 := hb1.size
    generalize bools (List.replicate 64 false) = zs at *
    go_upto_region 6 with (fail)
    have hsz2 : (w1.alloc (.cells zs 70)).heap.size = w1.heap.size + 1 := by simp
    generalize w1.alloc (.cells zs 70) = w2 at *
    clear hzv hb1
    generalize w1.heap.size = b at *
    go_wp2_with fail
    go_loopw [8, 23] (fun v i wr => ∃ k : Nat, i = .int .i64 k ∧ k ≤ l.length ∧ Hid (Own wr (b + 1) v (nub (RN.take k))) ∧ Hid (Arr wr b (marks (nub (RN.take k)))) ∧ Hid (Below w.heap.size w wr) ∧ Hid (b + 1 ≤ wr.heap.size)) (fun _ i _ => l.length - (intOf i).toNat)
    case atStart => exact ⟨0, rfl, Nat.zero_le _, Lib.hid (by rw [HZ.out]; exact Own.nil _ _), by rw [HZ.out]; exact HA1, HB1, Lib.hid (by omega)⟩
    case round =>
      clear HA1 HB1
      obtain ⟨k, rfl, hk, HO, HA, HB, HW⟩ := hrel
      by_cases hlt : k < l.length
      · have k1 : (k : Int) < (l.length : Int) := by omega
        obtain ⟨v, hv0, hv, hv1, hv2⟩ := HST.out k hlt
        have hmod : (q + k) % l.length < l.length := Nat.mod_lt _ (by omega)
        have hw1' : IntKind.i64.wrap ((q : Int) + (k : Int)) = (q : Int) + (k : Int) := IntWalk.i64_in _ (by omega)
        have hT : Int.tmod ((q : Int) + (k : Int)) (l.length : Int) = (((q + k) % l.length : Nat) : Int) := by rw [Int.tmod_eq_emod_of_nonneg (by omega), ← Int.natCast_add]; rfl
        have hwm : IntKind.i64.wrap (((q + k) % l.length : Nat) : Int) = (((q + k) % l.length : Nat) : Int) := IntWalk.i64_in _ (by omega)
        have ez : ¬ l.length = 0 := by omega
        obtain ⟨ad, rfl, hlo, h1⟩ := (H.out.on HB.out) _ hmod
        obtain ⟨a0, a1, a2⟩ := h1.flat
        rw [hv1] at a1
        have HN1 := Lib.hid hv2
        have HNLk := Lib.hid (HNL.out k)
        generalize (q + k) % l.length = m at *
        have m0 : (0 : Int) ≤ (m : Int) := by omega
        have m1 : (m : Int) < (l.length : Int) := by omega
        have v0 : (0 : Int) ≤ (v : Int) := by omega
        have v1 : (v : Int) < 64 := by omega
        generalize nub (RN.take k) = X at *
        have hcv := HA.out.cell v (by rw [marks_len]; exact hv)
        have hfv := HA.out.frozen v
        rw [marks_at _ v hv] at hcv
        clear hv0 hv1 hv2 h1 a0 a2
        by_cases hin : (v : Int) ∈ X
        · have hmk : mkB X v = true := decide_eq_true hin
          rw [hmk] at hcv
          have HN2 : Hid (nub (RN.take (k + 1)) = X) := Lib.hid (by rw [HN1.out, if_pos hin])
          clear hin hmk HN1
          go_wp2_with fail
          go_roundw
          case rel => exact ⟨k + 1, by go_num, by omega, by rw [HN2.out]; exact HO, by rw [HN2.out]; exact HA, HB, HW⟩
          case measure => simp [intOf]; omega
        · have hmk : mkB X v = false := decide_eq_false hin
          rw [hmk] at hcv
          have HN2 : Hid (nub (RN.take (k + 1)) = X ++ [(v : Int)]) := Lib.hid (by rw [HN1.out, if_neg hin])
          have HA2 : Hid (Arr (wr.setCell ⟨b, v, none⟩ (.bool true)) b (marks (X ++ [(v : Int)]))) := Lib.hid (by rw [← marks_put X v hv]; exact HA.out.put v true)
          have HO2 : Hid (Own (wr.setCell ⟨b, v, none⟩ (.bool true)) (b + 1) u8 X) := Lib.hid (HO.out.far (Nat.lt_succ_self b) _)
          have HB2 : Hid (Below w.heap.size w (wr.setCell ⟨b, v, none⟩ (.bool true))) := Lib.hid (HB.out.setCell hw1 _)
          have HW2 : Hid (b + 1 ≤ (wr.setCell ⟨b, v, none⟩ (.bool true)).heap.size) := Lib.hid (by have := HW.out; simpa using this)
          clear hin hmk HN1
          go_upto_region 12 with (fail)
          generalize wr.setCell ⟨b, v, none⟩ (.bool true) = w4 at *
          clear hcv hfv a1 HA HO HB HW
          go_wp2_with (at_builtin; refine wpList_append_has rfl _ _ rfl (b + 1) u8 X rfl (HO2.out.alloc _) (some ⟨w4.heap.size, 0, none⟩) 1 w4.heap.size (w4.heap.size + 1) [(v : Int)] rfl (Has.one w4 v _) (by have := HNLk.out; simp; omega) (by have := HW2.out; simp; omega) ?_; intro v' w5 ho5 hg5)
          go_roundw
          case rel => exact ⟨k + 1, by go_num, by omega, Lib.hid (by rw [HN2.out]; exact ho5), Lib.hid (by rw [HN2.out]; exact (HA2.out.on ((Below.refl _ _).alloc (Nat.le_refl _) _)).grown hg5 (fun e => by have := (HO2.out.ge b e).1; omega)), Lib.hid (below_grownO (HB2.out.alloc HB2.out.size _) (HO2.out.alloc _) hg5 (by have := HB2.out.size; simp; omega) (by omega)), Lib.hid (by have := HW2.out; have := hg5.size; simp at this; omega)⟩
          case measure => simp [intOf]; omega
      · obtain rfl : k = l.length := by omega
        rw [HE.out] at HO
        clear HST HNL
        go_wp2_with fail
        exact bodyPost_ret (v := .tuple #[u8, .int .i64 0]) (by simp [results, Tryd.results48, go_sem]) rfl ⟨_, rfl, HO.out.mono (by omega), HB.out⟩
  · have HC := Lib.hid (fun (W : World) (h : Ps W A l) => place_any A c l s W hn h hs 0 e he (by rw [if_neg h0]))
    rw [if_neg h0]
    have e0 : (e != 0) = true := by simpa using h0
    clear hl he h0
    go_enter Tryd.func48, Tryd.ntmps48
    go_wp2_with fail
    refine (HC.out _ H.out).mono ?_
    rintro e w1 ⟨rfl, hb1⟩
    go_wp2_with fail
    exact bodyPost_ret (v := .tuple #[.slice none 0 0, .int .i64 e]) (by simp [results, Tryd.results48, go_sem]) rfl ⟨_, rfl, Own.nil _ _, hb1⟩
end Go.Proofs.YthcjjogomknddaaDoor
