/-
  THE LAW TableOrders: what is applied, in whatever order, as often as it will, comes to the same; nothing that is known falls.
  For every table, whatever is applied, and every order; the law itself looks at the first sixty-five nodes, at the first twelve that are applied, and at the first forty of the order.
-/
import Derived.Test.YtmfpipcedblklaaOrdersA
import Derived.Test.YtmfpipcedblklaaOrdersShort
import Derived.Test.YtmfpipcedblklaaOrdersLong
namespace Go.Proofs.Ytmfpipcedblklaa.lawOrders
open Go.Sort Go.ChangeShapes Go.WideShapes Go.ChangeAt Go.RowKit Go.Joins Go.Proofs.Ytmfpipcedblklaa.Pure

theorem octs_in {w : World} {A : Option Addr} {is : List Int} (h : Octs w A is) (j : Nat) (hj : j < is.length) : 0 ≤ is.getD j 0 ∧ is.getD j 0 ≤ 255 := h.2 _ (by
  have : is.getD j 0 = is[j] := by simp [List.getD, hj]
  rw [this]
  exact List.getElem_mem hj)
theorem walk (A B C D : Option Addr) (ca cb cc cd : Nat) (t l : List Kn) (who order : List Int) (w : World) (ht : t.length ≤ ca ∧ ca ≤ maxLen ∧ Lst w A t ∧ FitL t) (hl : l.length ≤ cb ∧ cb ≤ maxLen ∧ Lst w B l ∧ FitL l)
    (hw : who.length ≤ cc ∧ cc ≤ maxLen ∧ Octs w C who) (ho : order.length ≤ cd ∧ cd ≤ maxLen ∧ Octs w D order) :
    Calls Try.prog 5 #[.agg #[.slice A t.length ca, .slice B l.length cb, .slice C who.length cc, .slice D order.length cd]] w fun e w' => e = .returned (.bool true) ∧ Below w.heap.size w w' := by
  have hF : ∀ W : World, Calls Try.prog 9 #[.slice A t.length ca] W fun e w' => e = .returned (.slice A (t.take 65).length ca) ∧ Below W.heap.size W w' := fun W => (few_any A ca t w ht.1 ht.2.1 ht.2.2.1 W).mono fun e w' ⟨h1, h2⟩ => ⟨h1, h2 ▸ Below.refl _ _⟩
  have lt := ht.2.2.1.take 65
  have ft := ht.2.2.2.take 65
  have nt : (t.take 65).length ≤ 65 := by rw [List.length_take]; omega
  generalize t.length = kt at *
  generalize t.take 65 = t at *
  rcases hm : mayT t with _ | _
  · exact wayBad A B C D kt t.length l.length who.length order.length ca cb cc cd t w (Lib.hid hF) (Lib.hid fun W h => tcheck_any A ca t W (by omega) h false hm) lt
  obtain ⟨h1, h64, hml⟩ := (mayT_iff t).1 hm
  have hC : ∀ W : World, Lst W A t → _ := fun W h => tcheck_any A ca t W (by omega) h true hm
  by_cases h0 : who.length = 0
  · rw [h0]
    exact wayNone A B C D kt t.length l.length order.length ca cb cc cd t w (Lib.hid hF) (Lib.hid hC) lt h1
  obtain ⟨wh, hwh⟩ : ∃ wh : Nat → Nat, wh = fun i => ((who.getD (i % who.length) 0) % (t.length : Int)).toNat := ⟨_, rfl⟩
  have hQ : ∀ i, Int.tmod (who.getD (i % who.length) 0) (t.length : Int) = ((wh i : Nat) : Int) ∧ wh i < t.length ∧ 0 ≤ who.getD (i % who.length) 0 ∧ who.getD (i % who.length) 0 ≤ 255 := fun i => by
    have hv := octs_in hw.2.2 (i % who.length) (Nat.mod_lt _ (by omega))
    have h1 := Int.tmod_eq_emod_of_nonneg (b := (t.length : Int)) hv.1
    have h2 := Int.emod_nonneg (who.getD (i % who.length) 0) (b := (t.length : Int)) (by omega)
    have h3 := Int.emod_lt_of_pos (who.getD (i % who.length) 0) (b := (t.length : Int)) (by omega)
    rw [hwh]
    simp only
    exact ⟨by omega, by omega, hv.1, hv.2⟩
  have hq : ∀ i, wh i < t.length := fun i => (hQ i).2.1
  clear hwh
  have main : ∀ (l : List Kn) (hfl : FitL l) (W : World) (X : Option Addr) (cx j : Nat), j < l.length → mayK (kn l j) = true → Lst W X (runA t l wh j) → Calls Try.prog 12 #[.slice X t.length cx, .int .i64 (wh j : Nat), .agg #[.int .u64 (kn l j).i, .int .i64 (kn l j).s]] W fun e w' => ∃ A' c' bo, e = .returned (.tuple #[.slice A' t.length c', .bool bo, .int .i64 0]) ∧ Lst w' A' (runA t l wh (j + 1)) ∧ Below W.heap.size W w' := fun l hfl W X cx j hj hk h => by
    have hr := runA_len t l wh j
    have hr1 := runA_len t l wh (j + 1)
    have := tapp_yes X cx (runA t l wh j) (wh j) (kn l j) W (by omega) h (runA_may hm hq j) (runA_fit ft hfl hq j) (by rw [hr]; exact hq j) hk
    unfold Turns at this
    rw [show appL (runA t l wh j) (wh j) (kn l j) = runA t l wh (j + 1) from rfl, hr1, hr] at this
    exact this.mono fun e w' ⟨A', c', h⟩ => ⟨A', c', _, h⟩
  have beats : ∀ (l : List Kn) (W : World) (p : Regrown) (j k : Nat), j < l.length → mayK (kn l j) = true → k < t.length → Calls Try.prog 29 #[.agg #[.int .u64 (kn (runA t l wh j) k).i, .int .i64 (kn (runA t l wh j) k).s], .agg #[.int .u64 (kn (runA t l wh (j + 1)) k).i, .int .i64 (kn (runA t l wh (j + 1)) k).s]] (grow (redrawn W p.d) p.os) fun e w' => e = .returned (.bool false) ∧ Below (grow (redrawn W p.d) p.os).heap.size (grow (redrawn W p.d) p.os) w' := fun l W p j k hj hk hkt => by
    have hr := runA_len t l wh j
    have := rbeats_any (kn (runA t l wh j) k) (kn (runA t l wh (j + 1)) k) (grow (redrawn W p.d) p.os)
    rwa [show beatsB (kn (runA t l wh j) k) (kn (runA t l wh (j + 1)) k) = false from app_beats ((mayT_iff _).1 (runA_may hm hq j)).2.2 hk (by rw [hr]; exact hq j) (by rw [hr]; exact hkt)] at this
  have appb : ∀ (l : List Kn) (hml : mayL l = true) (W : World) (X : Option Addr) (cx : Nat) (b : List Kn) (k : Nat), Mid t (runA t l wh l.length) b → k < l.length → Lst W X b → Calls Try.prog 12 #[.slice X t.length cx, .int .i64 (wh k : Nat), .agg #[.int .u64 (kn l k).i, .int .i64 (kn l k).s]] W fun e w' => ∃ A' c' bo, e = .returned (.tuple #[.slice A' t.length c', .bool bo, .int .i64 0]) ∧ Lst w' A' (appL b (wh k) (kn l k)) ∧ Below W.heap.size W w' := fun l hml W X cx b k hb hk h => by
    have hbl := hb.len
    have := tapp_yes X cx b (wh k) (kn l k) W (by omega) h hb.may hb.fit (by rw [hbl]; exact hq k) (may_at hml hk)
    unfold Turns at this
    rw [len_app, hbl] at this
    exact this.mono fun e w' ⟨A', c', h⟩ => ⟨A', c', _, h⟩
  have same : ∀ (l : List Kn) (W : World) (X : Option Addr) (cx : Nat) (Y : Option Addr) (cy : Nat), Lst W X (runA t l wh l.length) → Lst W Y (runA t l wh l.length) → Calls Try.prog 11 #[.slice X t.length cx, .slice Y t.length cy] W fun e w' => e = .returned (.bool true) ∧ Below W.heap.size W w' := fun l W X cx Y cy h h' => by
    have hr := runA_len t l wh l.length
    have := rsame_any X Y cx cy (runA t l wh l.length) (runA t l wh l.length) W (by omega) h h' true (by simp)
    rwa [hr] at this
  have m0 : ∀ (l : List Kn), mayL l = true → Mid t (runA t l wh l.length) t := fun l hml => ⟨hm, ft, rfl, fun _ _ => Int.le_refl _, fun j _ => (runA_has hm hml hq l.length (Nat.le_refl _)).1 j⟩
  have m1 : ∀ (l : List Kn) (hfl : FitL l), mayL l = true → ∀ b k, Mid t (runA t l wh l.length) b → k < l.length → Mid t (runA t l wh l.length) (appL b (wh k) (kn l k)) := fun l hfl hml b k hb hk => hb.app (may_at hml hk) (hfl.at_ k) (hq k) ((runA_has hm hml hq l.length (Nat.le_refl _)).2 k hk)
  have l0 : ∀ (l b : List Kn), Mid t (runA t l wh l.length) b → Late t (runA t l wh l.length) l b wh l.length := fun l b hb => ⟨hb, fun i h h' => absurd h' (by omega)⟩
  have l1 : ∀ (l : List Kn) (hfl : FitL l), mayL l = true → ∀ b m, Late t (runA t l wh l.length) l b wh (m + 1) → m < l.length → Late t (runA t l wh l.length) l (appL b (wh m) (kn l m)) wh m := fun l hfl hml b m hb hk => hb.app hk hml hfl hq ((runA_has hm hml hq l.length (Nat.le_refl _)).2 m hk)
  have le : ∀ (l : List Kn), mayL l = true → ∀ b, Late t (runA t l wh l.length) l b wh 0 → runA t l wh l.length = b := fun l hml b hb => hb.done hm hml hq
  by_cases h12 : 12 < l.length
  · obtain ⟨al, rfl, _⟩ := hl.2.2.1 0 (by omega)
    have ll := hl.2.2.1.take 12
    have fl := hl.2.2.2.take 12
    have nl : (l.take 12).length = 12 := by rw [List.length_take]; omega
    have hlc := hl.1
    have hcm := hl.2.1
    generalize l.length = kl at *
    generalize l.take 12 = l at *
    have a1 := main l fl
    have a2 := beats l
    have a3 := appb l
    have a4 := same l
    have a5 := m0 l
    have a6 := m1 l fl
    have a7 := l0 l
    have a8 := l1 l fl
    have a9 := le l
    rw [nl] at a1 a2 a3 a4 a5 a6 a7 a8 a9
    exact wayLong A C D al kt t.length kl who.length order.length ca cb cc cd t l who order wh w (Lib.hid hF) (Lib.hid hC) (Lib.hid hQ) (Lib.hid fun W k => rmay_any (kn l k) W) (Lib.hid a1) (Lib.hid a2) (Lib.hid a3) (Lib.hid a4) (Lib.hid a5) (Lib.hid a6) (Lib.hid a7) (Lib.hid a8) (Lib.hid a9) (Lib.hid fun i => runA_len t l wh i)
      lt ll hw.2.2 ho.2.2 ⟨h1, h64⟩ rfl (by omega) (Nat.le_trans hw.1 hw.2.1) rfl nl h12 hlc hcm
  · exact wayShort A B C D kt t.length l.length who.length order.length ca cb cc cd t l who order wh w (Lib.hid hF) (Lib.hid hC) (Lib.hid hQ) (Lib.hid fun W k => rmay_any (kn l k) W) (Lib.hid (main l hl.2.2.2)) (Lib.hid (beats l)) (Lib.hid (appb l)) (Lib.hid (same l)) (Lib.hid (m0 l)) (Lib.hid (m1 l hl.2.2.2)) (Lib.hid (l0 l)) (Lib.hid (l1 l hl.2.2.2)) (Lib.hid (le l)) (Lib.hid fun i => runA_len t l wh i)
      lt hl.2.2.1 hw.2.2 ho.2.2 ⟨h1, h64⟩ rfl (by omega) (Nat.le_trans hw.1 hw.2.1) rfl rfl (by omega)

/-! ### the statement -/
theorem parOk : ∀ t ∈ (#[55] : Array TypeId).toList, Try.prog.readableRec t = true ∧ t < Try.prog.types.size := by
  have hall : ([55].all fun t => Try.prog.readableRec t && decide (t < Try.prog.types.size)) = true := by kernel_rfl
  intro t ht
  simpa using List.all_eq_true.1 hall t ht

/-- What the walk gives, for every argument. -/
theorem contract (H : Type) (enc : TypeId × Value → H) (W : World) (base : Nat) (args : Array Value) (ds gs : List (DataW H)) (before : List MemPlace)
    (hval : ∀ (j : Nat) t v, Try.f5.params[j]? = some t → args[j]? = some v → Value.okWide Try.prog W .any base t v)
    (hW : DataW.Whole enc Try.prog Try.f5.params.toList Rows.tableOrdersSpec.vars false W args.toList ds gs before) :
    Calls Try.prog 5 args W fun e W' => ∃ v, e = .returned v ∧ Rows.tableOrdersSpec.post enc Try.prog Try.f5 false true false false W args v W' := by
  have hW' := hW
  obtain ⟨p, q, hA0, hV, rfl, hfz, hnd⟩ := hW
  have hA : DataW.TrodAll enc Try.prog W 0 (fun _ => true) true Try.f5.params.toList args.toList ds p := hA0
  rw [Try.params5] at hA hval
  obtain ⟨v0, vs0, d0, ds0, p0, q0, hargs, rfl, rfl, h0, r0⟩ := trodAll_cons hA
  obtain ⟨rfl, rfl, rfl⟩ := trodAll_nil r0
  obtain rfl : args = #[v0] := by cases args; simp_all
  obtain ⟨rfl, rfl⟩ := trodVars_none hV
  obtain ⟨A, B, C, D, ca, cb, cc, cd, t, l, who, order, rfl, ht, hl, hwo, hor⟩ := open_order (hval 0 55 v0 rfl rfl) h0
  clear hA0
  refine (walk A B C D ca cb cc cd t l who order W ht hl hwo hor).mono fun e W' ⟨he, hb⟩ => ?_
  subst he
  exact ⟨_, rfl, law_post rfl (by rw [Try.params5]; exact parOk) rfl hW' rfl rfl rfl hb⟩

set_option maxRecDepth 100000 in
theorem lifted (os : Os) (started : os.Started) (H : Type) (enc : TypeId × Value → H) :
    ReturnsInHanded {} Try.checked os 5 .any (Rows.tableOrdersSpec.pre6 enc Try.prog Try.f5 Rows.tableOrdersRow.domain false) (Rows.tableOrdersSpec.post enc Try.prog Try.f5 false true false false) := by
  refine returnsInHanded_of_change (C := Try.checked) own started (by kernel_rfl) Try.func5
    (ChangeSpec.witness6 (enc := enc) (C := Try.checked) false ⟨#[], #[.agg #[.slice none 0 0, .slice none 0 0, .slice none 0 0, .slice none 0 0]], []⟩ 8 (by kernel_rfl) (by kernel_rfl) (by kernel_rfl) (by kernel_rfl)) ?_
  intro W base args ds gs before hval hW _ _
  exact contract H enc W base args ds gs before hval hW

/-- THE STATEMENT. -/
theorem said : Rows.TableOrdersSaid :=
  OpenClaim.holds_of_wide 5 Try.f5 rfl rfl rfl rfl rfl rfl rfl ⟨rfl, rfl, rfl, rfl, rfl⟩ rfl rfl rfl rfl rfl (by kernel_rfl) Try.func5 (by kernel_rfl)
    (of_decide_eq_true (by kernel_rfl)) (by unfold Func.isWrapper; first | (rw [if_pos (by decide +kernel)]; kernel_rfl) | (rw [if_neg (by decide +kernel)]; exact ⟨rfl, rfl⟩))
    (fun os started H enc _ => lifted os started H enc)
end Go.Proofs.Ytmfpipcedblklaa.lawOrders
