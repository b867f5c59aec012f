/-
  THE LAW ClockTells: which beats may be, how many ticks any node has between any places, whether clocks are near, and of how many beats they are, or why not: as the document says.
  For every number of nodes, beats, d and r, node and places that may be handed in.
-/
import Derived.Test.YtmbapcdchaamfaaTellsA
import Derived.Test.YtmbapcdchaamfaaTellsB
import Derived.Test.YtmbapcdchaamfaaTellsC
import Derived.Test.YtmbapcdchaamfaaTellsD
namespace Go.Proofs.Ytmbapcdchaamfaa.lawTells
open Go.ChangeShapes Go.WideShapes Go.ChangeAt Go.RowKit Go.Joins Go.Proofs.Ytmbapcdchaamfaa.Pure

section
variable {A : Option Addr} {c : Nat} {l : List Bt}
theorem c_check {n : Int} (hl : l.length ≤ 1000) (L : Bool) (hm : mayB n l = L) (e : Int) (he : okE L = e) (W : World) (h : Lst W A l) :
    Calls Try.prog 13 #[.int .i64 n, .slice A l.length c] W fun e' w' => e' = .returned (.int .i64 e) ∧ Below W.heap.size W w' := by
  subst he
  exact check_any A c n l W hl h L hm
theorem c_take (k N : Nat) (d r : Int) (hk : k ≤ l.length) (hl : l.length ≤ 1000) (hN : N ≤ 64) (hok : Oks N l) (hb : bound d r = true) (L : Bool) (hL : nearB N l d r k = L) (W : World) (h : Lst W A l) :
    Calls Try.prog 18 #[.int .i64 N, .slice A k c, .int .i64 d, .int .i64 r] W fun e w' => e = .returned (.bool L) ∧ W = w' := by
  have hbd : 0 ≤ d ∧ d ≤ 1099511627776 ∧ 1 ≤ r ∧ r ≤ 1099511627776 := by unfold bound at hb; simpa using hb
  have hkt : (l.take k).length = k := by rw [List.length_take]; omega
  have := rnear_any (N := N) A c N (l.take k) d r W (by omega) hN (h.take k) (fun i hi => by
    rw [hkt] at hi
    rw [okAt_take _ l k i hi]
    exact hok i (by omega)) ⟨hbd.1, hbd.2.1⟩ ⟨hbd.2.2.1, hbd.2.2.2⟩ L (by rw [hkt, nearB_take N l d r k k (Nat.le_refl _)]; exact hL)
  rwa [hkt] at this
end

/-- Of how many beats clocks are near: there is one such number. -/
theorem far_k (n : Nat) (l : List Bt) (d r : Int) (hd : 0 ≤ d) : ∃ k, IsFar n l d r k := by
  have key : ∀ j, j ≤ l.length → (∃ k, IsFar n l d r k) ∨ nearB n l d r j = true := by
    intro j
    induction j with
    | zero => exact fun _ => .inr (near_zero n l d r hd)
    | succ j ih =>
      intro hj
      rcases ih (by omega) with h | h
      · exact .inl h
      · rcases h2 : nearB n l d r (j + 1) with _ | _
        · exact .inl ⟨j, by omega, h, .inr h2⟩
        · exact .inr rfl
  rcases key l.length (Nat.le_refl _) with h | h
  · exact h
  · exact ⟨l.length, Nat.le_refl _, h, .inl rfl⟩
theorem far_unique {n : Nat} {l : List Bt} {d r : Int} {k k' : Nat} (h : IsFar n l d r k) (h' : IsFar n l d r k') : k = k' := by
  have key : ∀ {a b : Nat}, IsFar n l d r a → IsFar n l d r b → ¬ a < b := by
    intro a b ha hb hab
    rcases ha.2.2 with h | h
    · have := hb.1; omega
    · rw [nearB_less (show a + 1 ≤ b by omega) hb.2.1] at h; cases h
  have h1 := key h h'
  have h2 := key h' h
  omega

theorem run_walk (n d r node f t : Int) (A : Option Addr) (c : Nat) (l0 : List Bt) (w : World) (hc : l0.length ≤ c) (hm : c ≤ maxLen) (hl : Lst w A l0) :
    Calls Try.prog 3 #[askV n d r node f t A l0.length c] w fun e w' => e = .returned (.bool true) ∧ Below w.heap.size w w' := by
  have HF := Lib.hid (few_any A c l0 w hc hm hl)
  have HL := Lib.hid hl.cut
  have hlen := cutL_len l0
  have hle : (cutL l0).length ≤ c := by
    have : (cutL l0).length ≤ l0.length := by
      unfold cutL
      split
      · rw [List.length_take]; omega
      · split
        · rw [List.length_take]; omega
        · omega
    omega
  generalize cutL l0 = l at *
  have h1000 : l.length ≤ 1000 := by omega
  have notMay : ∀ n' : Int, 64 < n' → mayB n' l = false := fun n' h => by
    rcases hh : mayB n' l with _ | _
    · rfl
    · have := ((mayB_iff n' l).1 hh).2.1; omega
  by_cases h64 : 64 < n
  · exact way_far_not n d r node f t A c l0 l w HF HL h64 (Lib.hid fun W h => ticks_may A c n node f t l W h1000 h (notMay n h64)) (Lib.hid fun W h => near_bad A c n d r l W h1000 h (.inl (notMay n h64))) (Lib.hid fun W h => far_may A c n d r l W h1000 h (notMay n h64)) (Lib.hid fun W h => c_check h1000 false (notMay n h64) 1 rfl W h) (Lib.hid fun W h => rmay_any A c n l W h1000 h false (notMay n h64))
  by_cases h4' : n ≤ 4
  · have h4 := h4'
    rcases hmay : mayB n l with _ | _
    · exact way_keep_not n d r node f t A c l0 l w HF HL h4 (Lib.hid fun W h => ticks_may A c n node f t l W h1000 h hmay) (Lib.hid fun W h => near_bad A c n d r l W h1000 h (.inl hmay)) (Lib.hid fun W h => far_may A c n d r l W h1000 h hmay) (Lib.hid fun W h => c_check h1000 false hmay 1 rfl W h) (Lib.hid fun W h => rmay_any A c n l W h1000 h false hmay)
    · have hM := (mayB_iff n l).1 hmay
      have hl24 : l.length ≤ 24 := by have := hM.2.2.1; omega
      obtain ⟨N, rfl⟩ := Int.eq_ofNat_of_zero_le (show 0 ≤ n by have := hM.1; omega)
      have hok : Oks N l := hM.2.2.2
      have HCK := Lib.hid (fun (W : World) (h : Lst W A l) => c_check (c := c) h1000 true hmay 0 rfl W h)
      have HMY := Lib.hid (fun (W : World) (h : Lst W A l) => rmay_any A c N l W h1000 h true hmay)
      rcases hb : bound d r with _ | _
      · have HBD : Hid (∀ W : World, Calls Try.prog 17 #[.int .i64 d, .int .i64 r] W fun e w' => e = .returned (.bool false) ∧ W = w') := Lib.hid (fun W => by
          have := bound_any d r W
          rwa [hb] at this)
        have HNE := Lib.hid (fun (W : World) (h : Lst W A l) => near_bad A c N d r l W h1000 h (.inr hb))
        have HFA := Lib.hid (fun (W : World) (h : Lst W A l) => far_bound A c N d r l W h1000 h hmay hb)
        rcases hask : askB N node f t l.length with _ | _
        · exact way_keep_bad_no N d r node f t A c l0 l w HF HL h4 (Lib.hid fun W h => ticks_ask A c N node f t l W h1000 h hmay hask) HCK HMY hle hl24 (fun ha => by simp [askB] at hask; omega) HBD HNE HFA
        · have ha : 0 ≤ node ∧ node < N ∧ 0 ≤ f ∧ f ≤ t ∧ t ≤ (l.length : Int) := by simp [askB] at hask; omega
          obtain ⟨v, rfl⟩ := Int.eq_ofNat_of_zero_le ha.1
          obtain ⟨p, rfl⟩ := Int.eq_ofNat_of_zero_le ha.2.2.1
          obtain ⟨q, rfl⟩ := Int.eq_ofNat_of_zero_le (show 0 ≤ t by omega)
          have HRT := Lib.hid (fun (W : World) (h : Lst W A l) => rtk_any A c l v p q W h1000 h hok (by omega) (by omega))
          have HTK := Lib.hid (fun (W : World) (h : Lst W A l) => ticks_yes A c N v p q l W h hmay (by omega) (by omega) (by omega))
          unfold ticksV at HTK
          rcases hB : tkB l v p q with _ | _
          · rw [hB] at HTK HRT
            exact way_keep_none_no N d r v p q A c l0 l w HF HL h4 HTK HCK HMY hle hl24 ha HRT HBD HNE HFA
          · rw [hB] at HTK HRT
            exact way_keep_some_no N d r v p q A c l0 l w _ HF HL h4 HTK HCK HMY hle hl24 ha HRT HBD HNE HFA
      · have HBD : Hid (∀ W : World, Calls Try.prog 17 #[.int .i64 d, .int .i64 r] W fun e w' => e = .returned (.bool true) ∧ W = w') := Lib.hid (fun W => by
          have := bound_any d r W
          rwa [hb] at this)
        obtain ⟨k, hkf⟩ := far_k N l d r (by unfold bound at hb; simp at hb; omega)
        have hFr := hkf
        have HNE := Lib.hid (fun (W : World) (h : Lst W A l) => near_yes A c N d r l W h hmay hb _ rfl)
        have HFA : Hid (∀ W : World, Lst W A l → Calls Try.prog 12 #[.int .i64 N, .slice A l.length c, .int .i64 d, .int .i64 r] W fun e w' => e = .returned (.tuple #[.int .i64 k, .int .i64 0]) ∧ Below W.heap.size W w') := Lib.hid (fun W h => (far_yes A c N d r l W h hmay hb).mono fun e w' ⟨k', he, hk', hbb⟩ => ⟨by rw [he, far_unique hk' hFr], hbb⟩)
        have HRN := Lib.hid (fun (W : World) (h : Lst W A l) => c_take (c := c) l.length N d r (Nat.le_refl _) h1000 (by have := hM.2.1; omega) hok hb _ rfl W h)
        have HR1 := Lib.hid (fun (W : World) (h : Lst W A l) => c_take (c := c) k N d r hFr.1 h1000 (by have := hM.2.1; omega) hok hb true hFr.2.1 W h)
        have HR2 := Lib.hid (fun (hkl : k ≠ l.length) (W : World) (h : Lst W A l) => c_take (c := c) (k + 1) N d r (by have := hFr.1; omega) h1000 (by have := hM.2.1; omega) hok hb false (hFr.2.2.resolve_left hkl) W h)
        rcases hask : askB N node f t l.length with _ | _
        · exact way_keep_bad_yes N d r node f t A c l0 l w _ k HF HL h4 (Lib.hid fun W h => ticks_ask A c N node f t l W h1000 h hmay hask) HCK HMY hle hl24 (fun ha => by simp [askB] at hask; omega) HBD HNE HFA HRN hFr.1 HR1 HR2
        · have ha : 0 ≤ node ∧ node < N ∧ 0 ≤ f ∧ f ≤ t ∧ t ≤ (l.length : Int) := by simp [askB] at hask; omega
          obtain ⟨v, rfl⟩ := Int.eq_ofNat_of_zero_le ha.1
          obtain ⟨p, rfl⟩ := Int.eq_ofNat_of_zero_le ha.2.2.1
          obtain ⟨q, rfl⟩ := Int.eq_ofNat_of_zero_le (show 0 ≤ t by omega)
          have HRT := Lib.hid (fun (W : World) (h : Lst W A l) => rtk_any A c l v p q W h1000 h hok (by omega) (by omega))
          have HTK := Lib.hid (fun (W : World) (h : Lst W A l) => ticks_yes A c N v p q l W h hmay (by omega) (by omega) (by omega))
          unfold ticksV at HTK
          rcases hB : tkB l v p q with _ | _
          · rw [hB] at HTK HRT
            exact way_keep_none_yes N d r v p q A c l0 l w _ k HF HL h4 HTK HCK HMY hle hl24 ha HRT HBD HNE HFA HRN hFr.1 HR1 HR2
          · rw [hB] at HTK HRT
            exact way_keep_some_yes N d r v p q A c l0 l w _ _ k HF HL h4 HTK HCK HMY hle hl24 ha HRT HBD HNE HFA HRN hFr.1 HR1 HR2
  · have h4 : 4 < n ∧ n ≤ 64 := by omega
    rcases hmay : mayB 4 l with _ | _
    · exact way_cut_not n d r node f t A c l0 l w HF HL h4 (Lib.hid fun W h => ticks_may A c 4 node f t l W h1000 h hmay) (Lib.hid fun W h => near_bad A c 4 d r l W h1000 h (.inl hmay)) (Lib.hid fun W h => far_may A c 4 d r l W h1000 h hmay) (Lib.hid fun W h => c_check h1000 false hmay 1 rfl W h) (Lib.hid fun W h => rmay_any A c 4 l W h1000 h false hmay)
    · have hM := (mayB_iff 4 l).1 hmay
      have hl24 : l.length ≤ 24 := by have := hM.2.2.1; omega
      have hok : Oks 4 l := hM.2.2.2
      have HCK := Lib.hid (fun (W : World) (h : Lst W A l) => c_check (c := c) h1000 true hmay 0 rfl W h)
      have HMY := Lib.hid (fun (W : World) (h : Lst W A l) => rmay_any A c 4 l W h1000 h true hmay)
      rcases hb : bound d r with _ | _
      · have HBD : Hid (∀ W : World, Calls Try.prog 17 #[.int .i64 d, .int .i64 r] W fun e w' => e = .returned (.bool false) ∧ W = w') := Lib.hid (fun W => by
          have := bound_any d r W
          rwa [hb] at this)
        have HNE := Lib.hid (fun (W : World) (h : Lst W A l) => near_bad A c 4 d r l W h1000 h (.inr hb))
        have HFA := Lib.hid (fun (W : World) (h : Lst W A l) => far_bound A c 4 d r l W h1000 h hmay hb)
        rcases hask : askB 4 node f t l.length with _ | _
        · exact way_cut_bad_no n d r node f t A c l0 l w HF HL h4 (Lib.hid fun W h => ticks_ask A c 4 node f t l W h1000 h hmay hask) HCK HMY hle hl24 (fun ha => by simp [askB] at hask; omega) HBD HNE HFA
        · have ha : 0 ≤ node ∧ node < 4 ∧ 0 ≤ f ∧ f ≤ t ∧ t ≤ (l.length : Int) := by simp [askB] at hask; omega
          obtain ⟨v, rfl⟩ := Int.eq_ofNat_of_zero_le ha.1
          obtain ⟨p, rfl⟩ := Int.eq_ofNat_of_zero_le ha.2.2.1
          obtain ⟨q, rfl⟩ := Int.eq_ofNat_of_zero_le (show 0 ≤ t by omega)
          have HRT := Lib.hid (fun (W : World) (h : Lst W A l) => rtk_any A c l v p q W h1000 h hok (by omega) (by omega))
          have HTK := Lib.hid (fun (W : World) (h : Lst W A l) => ticks_yes A c 4 v p q l W h hmay (by omega) (by omega) (by omega))
          unfold ticksV at HTK
          rcases hB : tkB l v p q with _ | _
          · rw [hB] at HTK HRT
            exact way_cut_none_no n d r v p q A c l0 l w HF HL h4 HTK HCK HMY hle hl24 ha HRT HBD HNE HFA
          · rw [hB] at HTK HRT
            exact way_cut_some_no n d r v p q A c l0 l w _ HF HL h4 HTK HCK HMY hle hl24 ha HRT HBD HNE HFA
      · have HBD : Hid (∀ W : World, Calls Try.prog 17 #[.int .i64 d, .int .i64 r] W fun e w' => e = .returned (.bool true) ∧ W = w') := Lib.hid (fun W => by
          have := bound_any d r W
          rwa [hb] at this)
        obtain ⟨k, hkf⟩ := far_k 4 l d r (by unfold bound at hb; simp at hb; omega)
        have hFr := hkf
        have HNE := Lib.hid (fun (W : World) (h : Lst W A l) => near_yes A c 4 d r l W h hmay hb _ rfl)
        have HFA : Hid (∀ W : World, Lst W A l → Calls Try.prog 12 #[.int .i64 4, .slice A l.length c, .int .i64 d, .int .i64 r] W fun e w' => e = .returned (.tuple #[.int .i64 k, .int .i64 0]) ∧ Below W.heap.size W w') := Lib.hid (fun W h => (far_yes A c 4 d r l W h hmay hb).mono fun e w' ⟨k', he, hk', hbb⟩ => ⟨by rw [he, far_unique hk' hFr], hbb⟩)
        have HRN := Lib.hid (fun (W : World) (h : Lst W A l) => c_take (c := c) l.length 4 d r (Nat.le_refl _) h1000 (by omega) hok hb _ rfl W h)
        have HR1 := Lib.hid (fun (W : World) (h : Lst W A l) => c_take (c := c) k 4 d r hFr.1 h1000 (by omega) hok hb true hFr.2.1 W h)
        have HR2 := Lib.hid (fun (hkl : k ≠ l.length) (W : World) (h : Lst W A l) => c_take (c := c) (k + 1) 4 d r (by have := hFr.1; omega) h1000 (by omega) hok hb false (hFr.2.2.resolve_left hkl) W h)
        rcases hask : askB 4 node f t l.length with _ | _
        · exact way_cut_bad_yes n d r node f t A c l0 l w _ k HF HL h4 (Lib.hid fun W h => ticks_ask A c 4 node f t l W h1000 h hmay hask) HCK HMY hle hl24 (fun ha => by simp [askB] at hask; omega) HBD HNE HFA HRN hFr.1 HR1 HR2
        · have ha : 0 ≤ node ∧ node < 4 ∧ 0 ≤ f ∧ f ≤ t ∧ t ≤ (l.length : Int) := by simp [askB] at hask; omega
          obtain ⟨v, rfl⟩ := Int.eq_ofNat_of_zero_le ha.1
          obtain ⟨p, rfl⟩ := Int.eq_ofNat_of_zero_le ha.2.2.1
          obtain ⟨q, rfl⟩ := Int.eq_ofNat_of_zero_le (show 0 ≤ t by omega)
          have HRT := Lib.hid (fun (W : World) (h : Lst W A l) => rtk_any A c l v p q W h1000 h hok (by omega) (by omega))
          have HTK := Lib.hid (fun (W : World) (h : Lst W A l) => ticks_yes A c 4 v p q l W h hmay (by omega) (by omega) (by omega))
          unfold ticksV at HTK
          rcases hB : tkB l v p q with _ | _
          · rw [hB] at HTK HRT
            exact way_cut_none_yes n d r v p q A c l0 l w _ k HF HL h4 HTK HCK HMY hle hl24 ha HRT HBD HNE HFA HRN hFr.1 HR1 HR2
          · rw [hB] at HTK HRT
            exact way_cut_some_yes n d r v p q A c l0 l w _ _ k HF HL h4 HTK HCK HMY hle hl24 ha HRT HBD HNE HFA HRN hFr.1 HR1 HR2

/-! ### the statement -/
theorem parOk : ∀ t ∈ (#[24] : Array TypeId).toList, Try.prog.readableRec t = true ∧ t < Try.prog.types.size := by
  have hall : ([24].all fun t => Try.prog.readableRec t && decide (t < Try.prog.types.size)) = true := by kernel_rfl
  intro t ht
  simpa using List.all_eq_true.1 hall t ht

/-- What the walk gives, for every argument. -/
theorem contract (H : Type) (enc : TypeId × Value → H) (W : World) (base : Nat) (args : Array Value) (ds gs : List (DataW H)) (before : List MemPlace)
    (hval : ∀ (j : Nat) t v, Try.f3.params[j]? = some t → args[j]? = some v → Value.okWide Try.prog W .any base t v)
    (hW : DataW.Whole enc Try.prog Try.f3.params.toList Rows.clockTellsSpec.vars false W args.toList ds gs before) :
    Calls Try.prog 3 args W fun e W' => ∃ v, e = .returned v ∧ Rows.clockTellsSpec.post enc Try.prog Try.f3 false true false false W args v W' := by
  have hW' := hW
  obtain ⟨p, q, hA0, hV, rfl, hfz, hnd⟩ := hW
  have hA : DataW.TrodAll enc Try.prog W 0 (fun _ => true) true Try.f3.params.toList args.toList ds p := hA0
  rw [Try.params3] at hA hval
  obtain ⟨v0, vs0, d0, ds0, p0, q0, hargs, rfl, rfl, h0, r0⟩ := trodAll_cons hA
  obtain ⟨rfl, rfl, rfl⟩ := trodAll_nil r0
  obtain rfl : args = #[v0] := by cases args; simp_all
  obtain ⟨rfl, rfl⟩ := trodVars_none hV
  obtain ⟨n, dd, r, node, f, t, A, c, xs, rfl, hc, hm, hl, _, _, _, _, _, _⟩ := open_ask (hval 0 24 v0 rfl rfl) h0
  clear hA0
  refine (run_walk n dd r node f t A c xs W hc hm hl).mono fun e W' ⟨he, hb⟩ => ?_
  subst he
  exact ⟨_, rfl, law_post rfl (by rw [Try.params3]; exact parOk) rfl hW' rfl rfl rfl hb⟩

set_option maxRecDepth 100000 in
theorem lifted (os : Os) (started : os.Started) (H : Type) (enc : TypeId × Value → H) :
    ReturnsInHanded {} Try.checked os 3 .any (Rows.clockTellsSpec.pre6 enc Try.prog Try.f3 Rows.clockTellsRow.domain false) (Rows.clockTellsSpec.post enc Try.prog Try.f3 false true false false) := by
  refine returnsInHanded_of_change (C := Try.checked) own started (by kernel_rfl) Try.func3
    (ChangeSpec.witness6 (enc := enc) (C := Try.checked) false ⟨#[], #[.agg #[.int .i64 0, .slice none 0 0, .int .i64 0, .int .i64 0, .int .i64 0, .int .i64 0, .int .i64 0]], []⟩ 8 (by kernel_rfl) (by kernel_rfl) (by kernel_rfl) (by kernel_rfl)) ?_
  intro W base args ds gs before hval hW _ _
  exact contract H enc W base args ds gs before hval hW

/-- THE STATEMENT. -/
theorem said : Rows.ClockTellsSaid :=
  OpenClaim.holds_of_wide 3 Try.f3 rfl rfl rfl rfl rfl rfl rfl ⟨rfl, rfl, rfl, rfl, rfl⟩ rfl rfl rfl rfl rfl (by kernel_rfl) Try.func3 (by kernel_rfl)
    (of_decide_eq_true (by kernel_rfl)) (by unfold Func.isWrapper; first | (rw [if_pos (by decide +kernel)]; kernel_rfl) | (rw [if_neg (by decide +kernel)]; exact ⟨rfl, rfl⟩))
    (fun os started H enc _ => lifted os started H enc)
end Go.Proofs.Ytmbapcdchaamfaa.lawTells
