/-
  THE LAW TableTells: exactly as the document says: which tables may be, what is applied to any, two as one, which nodes are up, or others, the first one, and of which another one knows better, or why not.
  For any two tables, every node, and whatever is known; the law itself looks at the first sixty-five of each table.
-/
import Derived.Test.YtmfpipcedblklaaTellsMay
namespace Go.Proofs.Ytmfpipcedblklaa.lawTells
open Go.Sort Go.ChangeShapes Go.WideShapes Go.ChangeAt Go.RowKit Go.Joins Go.Proofs.Ytmfpipcedblklaa.Pure

theorem both_iff (t o : List Kn) : both t o = true ↔ t.length = o.length ∧ mayT t = true ∧ mayT o = true := by simp [both]
theorem newL_len (n : Nat) : (newL n).length = n := List.length_replicate
theorem walk (A B : Option Addr) (ca cb : Nat) (t o : List Kn) (who : Int) (k : Kn) (w : World) (ht : t.length ≤ ca ∧ ca ≤ maxLen ∧ Lst w A t ∧ FitL t) (ho : o.length ≤ cb ∧ cb ≤ maxLen ∧ Lst w B o ∧ FitL o) :
    Calls Try.prog 3 #[.agg #[.slice A t.length ca, .slice B o.length cb, .int .i64 who, .int .u64 k.i, .int .i64 k.s]] w fun e w' => e = .returned (.bool true) ∧ Below w.heap.size w w' := by
  have fa : ∀ W : World, Calls Try.prog 9 #[.slice A t.length ca] W fun e w' => e = .returned (.slice A (t.take 65).length ca) ∧ Below W.heap.size W w' := fun W => (few_any A ca t w ht.1 ht.2.1 ht.2.2.1 W).mono fun e w' ⟨h1, h2⟩ => ⟨h1, h2 ▸ Below.refl _ _⟩
  have fb : ∀ W : World, Calls Try.prog 9 #[.slice B o.length cb] W fun e w' => e = .returned (.slice B (o.take 65).length cb) ∧ Below W.heap.size W w' := fun W => (few_any B cb o w ho.1 ho.2.1 ho.2.2.1 W).mono fun e w' ⟨h1, h2⟩ => ⟨h1, h2 ▸ Below.refl _ _⟩
  have lt := ht.2.2.1.take 65
  have lo := ho.2.2.1.take 65
  have ft := ht.2.2.2.take 65
  have fo := ho.2.2.2.take 65
  have nt : (t.take 65).length ≤ 65 := by rw [List.length_take]; omega
  have no : (o.take 65).length ≤ 65 := by rw [List.length_take]; omega
  generalize t.length = kt at *
  generalize o.length = ko at *
  generalize t.take 65 = t at *
  generalize o.take 65 = o at *
  -- a new table
  obtain ⟨RN, nn, en, hN, gN⟩ : ∃ (RN : List Kn) (nn : Nat) (en : Int), ((∃ n : Nat, who = (n : Int) ∧ 1 ≤ n ∧ n ≤ 64 ∧ RN = newL n ∧ nn = n ∧ en = 0) ∨ ((who < 1 ∨ 64 < who) ∧ nn = 0 ∧ en = 1)) ∧ (∀ (W : World), Calls Try.prog 10 #[.int .i64 who] W fun e w' => ∃ A' c', e = .returned (.tuple #[.slice A' nn c', .int .i64 en]) ∧ Lst w' A' RN ∧ Below W.heap.size W w') := by
    by_cases h : 1 ≤ who ∧ who ≤ 64
    · obtain ⟨n, rfl⟩ := Int.eq_ofNat_of_zero_le (by omega : 0 ≤ who)
      refine ⟨newL n, n, 0, .inl ⟨n, rfl, by omega, by omega, rfl, rfl, rfl⟩, fun W => ?_⟩
      have := new_yes n (by omega) W
      unfold Gives at this
      rwa [newL_len] at this
    · exact ⟨[], 0, 1, .inr ⟨by omega, rfl, rfl⟩, fun W => new_no who h W⟩
  have gSN : (∀ n : Nat, n ≤ 64 → ∀ (W : World) X cx Y cy, Lst W X (newL n) → Lst W Y (newL n) → Calls Try.prog 11 #[.slice X n cx, .slice Y n cy] W fun e w' => e = .returned (.bool true) ∧ Below W.heap.size W w') := fun n hn W X cx Y cy h h' => by
    have := rsame_any X Y cx cy (newL n) (newL n) W (by rw [newL_len]; omega) h h' true (by simp)
    rwa [newL_len] at this
  have gTS : ∀ W : World, Lst W A t → Lst W B o → _ := fun W h h' => tsame_any A B ca cb t o W (by omega) h h' (decide (t = o)) rfl
  have gRS : ∀ W : World, Lst W A t → Lst W B o → _ := fun W h h' => rsame_any A B ca cb t o W (by omega) h h' (decide (t = o)) rfl
  have gtt : (∀ (W : World) X cx Y cy, Lst W X t → Lst W Y t → Calls Try.prog 11 #[.slice X t.length cx, .slice Y t.length cy] W fun e w' => e = .returned (.bool true) ∧ Below W.heap.size W w') := fun W X cx Y cy h h' => rsame_any X Y cx cy t t W (by omega) h h' true (by simp)
  rcases hm : mayT t with _ | _
  · have hb : both t o = false := by
      rcases h : both t o with _ | _
      · rfl
      · have := ((both_iff t o).1 h).2.1
        rw [hm] at this; cases this
    refine wayNot A B kt ko t.length o.length ca cb nn 0 0 t o RN t [] [] who k.i k.s en 1 1 1 0 1 false (decide (t = o)) w (Lib.hid fa) (Lib.hid fb) (Lib.hid gN) (Lib.hid gSN) (Lib.hid fun W h => ?_) (Lib.hid fun W h h' => ?_) (Lib.hid fun W h h' => ?_) (Lib.hid fun W h => ?_) (Lib.hid gTS) (Lib.hid gRS)
      (Lib.hid fun W h => tcheck_any A ca t W (by omega) h false hm) (Lib.hid fun W h => rmayT_any A ca t W (by omega) h false hm) (Lib.hid gtt) (Lib.hid fun W h => ?_) (Lib.hid fun W h => ?_) hN ⟨rfl, rfl, rfl⟩ ⟨rfl, rfl, rfl, rfl⟩ ⟨rfl, rfl⟩ lt lo
    · exact tapp_no A ca t who k W (by omega) h (.inl hm)
    · exact mer_bad A B ca cb t o W (by omega) (by omega) h h' hb
    · exact beh_bad A B ca cb t o W (by omega) (by omega) h h' hb
    · have := tlow_any A ca t W (by omega) h
      rwa [low_bad hm] at this
    · exact (tup_any A ca t W (by omega) h false hm).mono fun e w' ⟨A', c', he, _, hb⟩ => ⟨A', c', he, hb⟩
    · exact (toth_any A ca t who W (by omega) h false hm).mono fun e w' ⟨A', c', he, _, hb⟩ => ⟨A', c', he, hb⟩
  obtain ⟨h1, h64, hml⟩ := (mayT_iff t).1 hm
  -- what is applied
  obtain ⟨RA, ya, ea, hA, gA, lA, sA⟩ : ∃ (RA : List Kn) (ya : Bool) (ea : Int), (((who < 0 ∨ (t.length : Int) ≤ who ∨ mayK k = false) ∧ RA = t ∧ ya = false ∧ ea = 1) ∨ ((∃ q : Nat, who = (q : Int) ∧ q < t.length) ∧ mayK k = true ∧ ya = (!decide (RA = t)) ∧ ea = 0)) ∧ (∀ (W : World), Lst W A t → Calls Try.prog 12 #[.slice A t.length ca, .int .i64 who, .agg #[.int .u64 k.i, .int .i64 k.s]] W fun e w' => ∃ A' c', e = .returned (.tuple #[.slice A' t.length c', .bool ya, .int .i64 ea]) ∧ Lst w' A' RA ∧ Below W.heap.size W w') ∧ RA.length = t.length ∧
      (∀ q : Nat, who = (q : Int) → q < t.length → mayK k = true → RA = appL t q k) := by
    by_cases hbad : who < 0 ∨ (t.length : Int) ≤ who ∨ mayK k = false
    · refine ⟨t, false, 1, .inl ⟨hbad, rfl, rfl, rfl⟩, fun W h => tapp_no A ca t who k W (by omega) h (.inr hbad), rfl, fun q hq hl hk => ?_⟩
      rcases hbad with h | h | h
      · omega
      · omega
      · rw [hk] at h; cases h
    · have hk : mayK k = true := by
        rcases h : mayK k with _ | _
        · exact absurd (.inr (.inr h)) hbad
        · rfl
      obtain ⟨q, rfl⟩ := Int.eq_ofNat_of_zero_le (by omega : 0 ≤ who)
      have hq : q < t.length := by omega
      refine ⟨appL t q k, newB t q k, 0, .inr ⟨⟨q, rfl, hq⟩, hk, ?_, rfl⟩, fun W h => ?_, len_app _ _ _, fun q' e _ _ => ?_⟩
      · unfold newB
        by_cases e : stepK (kn t q) k = kn t q
        · have e2 : appL t q k = t := ext_kn (len_app _ _ _) fun j hj => by
            rw [len_app] at hj
            rw [kn_app t q j k hq]
            split
            · rename_i hjq; subst hjq; exact e
            · rfl
          simp [e, e2]
        · have e2 : ¬appL t q k = t := fun h => e (by
            have := kn_app t q q k hq
            rw [if_pos rfl, h] at this
            exact this.symm)
          simp [e, e2]
      · have := tapp_yes A ca t q k W (by omega) h hm ft hq hk
        unfold Turns at this
        rwa [len_app] at this
      · obtain rfl : q = q' := by omega
        rfl
  -- the first one that is up
  obtain ⟨lw, le, hLl, gL⟩ : ∃ lw le : Int, (((upL t).length = 0 ∧ lw = 0 ∧ le = 6) ∨ (0 < (upL t).length ∧ lw = (((upL t).getD 0 0 : Nat) : Int) ∧ le = 0)) ∧ (∀ (W : World), Lst W A t → Calls Try.prog 15 #[.slice A t.length ca] W fun e w' => e = .returned (.tuple #[.int .i64 lw, .int .i64 le]) ∧ Below W.heap.size W w') := by
    by_cases h : 0 < (upL t).length
    · refine ⟨_, 0, .inr ⟨h, rfl, rfl⟩, fun W hl => ?_⟩
      have := tlow_any A ca t W (by omega) hl
      rwa [low_some hm h] at this
    · refine ⟨0, 6, .inl ⟨by omega, rfl, rfl⟩, fun W hl => ?_⟩
      have := tlow_any A ca t W (by omega) hl
      rwa [low_none hm (List.eq_nil_of_length_eq_zero (by omega))] at this
  -- both as one
  obtain ⟨RM, em, RB, eb, hM, gM, gB, sM⟩ : ∃ (RM : List Kn) (em : Int) (RB : List Nat) (eb : Int), (((mayT o = false ∨ o.length ≠ t.length) ∧ RM.length = 0 ∧ em = 1 ∧ RB.length = 0 ∧ eb = 1) ∨ (mayT o = true ∧ o.length = t.length ∧ em = 0 ∧ eb = 0)) ∧ (∀ (W : World), Lst W A t → Lst W B o → Calls Try.prog 13 #[.slice A t.length ca, .slice B o.length cb] W fun e w' => ∃ A' c', e = .returned (.tuple #[.slice A' RM.length c', .int .i64 em]) ∧ Lst w' A' RM ∧ Below W.heap.size W w') ∧ (∀ (W : World), Lst W A t → Lst W B o → Calls Try.prog 14 #[.slice A t.length ca, .slice B o.length cb] W fun e w' => ∃ A' c', e = .returned (.tuple #[.slice A' RB.length c', .int .i64 eb]) ∧ Ns w' A' RB ∧ Below W.heap.size W w') ∧
      (o.length = t.length → mayT o = true → RM = merL t o ∧ RB = behL t o) := by
    rcases hb : both t o with _ | _
    · have hno : ¬(o.length = t.length ∧ mayT o = true) := fun ⟨e1, e2⟩ => by
        have := (both_iff t o).2 ⟨e1.symm, hm, e2⟩
        rw [hb] at this; cases this
      refine ⟨[], 1, [], 1, .inl ⟨?_, rfl, rfl, rfl, rfl⟩, fun W h h' => mer_bad A B ca cb t o W (by omega) (by omega) h h' hb, fun W h h' => beh_bad A B ca cb t o W (by omega) (by omega) h h' hb, fun e1 e2 => absurd ⟨e1, e2⟩ hno⟩
      rcases h : mayT o with _ | _
      · exact .inl rfl
      · exact .inr fun e => hno ⟨e, h⟩
    · obtain ⟨e1, _, e2⟩ := (both_iff t o).1 hb
      exact ⟨merL t o, 0, behL t o, 0, .inr ⟨e2, e1.symm, rfl, rfl⟩, fun W h h' => mer_yes A B ca cb t o W (by omega) h h' hb, fun W h h' => beh_yes A B ca cb t o W (by omega) h h' hb, fun _ _ => ⟨rfl, rfl⟩⟩
  have up64 : (upL t).length ≤ t.length := pick_length _ _
  have ot64 : (othL who t).length ≤ t.length := pick_length _ _
  refine wayMay A B kt ko t.length o.length ca cb nn RM.length RB.length (upL t).length (othL who t).length t o RN RA RM RB (upL t) (othL who t) who k.i k.s en ea em eb lw le ya (decide (t = o)) (decide (RA = t)) (mayK k) (mayT o) w (Lib.hid fa) (Lib.hid fb) (Lib.hid gN) (Lib.hid gSN) (Lib.hid gA) (Lib.hid gM) (Lib.hid gB) (Lib.hid gL) (Lib.hid gTS) (Lib.hid gRS)
    (Lib.hid fun W h => tcheck_any A ca t W (by omega) h true hm) (Lib.hid fun W h => rmayT_any A ca t W (by omega) h true hm) (Lib.hid gtt) (Lib.hid fun W h => tup_any A ca t W (by omega) h true hm) (Lib.hid fun W h => toth_any A ca t who W (by omega) h true hm)
    (Lib.hid fun W h => rup_any A ca t W (by omega) h) (Lib.hid fun W X cx Y cy h h' => nsame_any X Y cx cy (upL t) (upL t) W (by omega) h h' true (by simp)) (Lib.hid fun W h => roth_any A ca t who W (by omega) h) (Lib.hid fun W X cx Y cy h h' => nsame_any X Y cx cy (othL who t) (othL who t) W (by omega) h h' true (by simp))
    (Lib.hid fun W => rmay_any k W) (Lib.hid fun q hq hl hk W h => ?_) (Lib.hid fun W X cx Y cy h h' => ?_) (Lib.hid fun W X cx Y cy h h' => ?_) (Lib.hid fun W h => rmayT_any B cb o W (by omega) h (mayT o) rfl) (Lib.hid fun e1 e2 W h h' => ?_) (Lib.hid fun W X cx Y cy h h' => ?_) (Lib.hid fun e1 e2 W h h' => ?_) (Lib.hid fun W X cx Y cy h h' => ?_) hN hA hM hLl rfl h64 lt lo
  · subst hq
    have hR := sA q rfl hl hk
    refine (rapp_any A ca t q k W (by omega) h hl).mono ?_
    rintro e w' ⟨v, rfl, hv, hb⟩
    rw [← hR] at hv
    obtain ⟨A', c', rfl, _, hl'⟩ := hv.lst
    exact ⟨A', c', by rw [lA], hl', hb⟩
  · have := rsame_any X Y cx cy RA RA W (by omega) h h' true (by simp)
    rwa [lA] at this
  · have := rsame_any X Y cx cy RA t W (by omega) h h' (decide (RA = t)) rfl
    rwa [lA] at this
  · have hR := (sM e1 e2).1
    refine (rmer_any A B ca cb t o W (by omega) e1.symm h h').mono ?_
    rintro e w' ⟨v, rfl, hv, hb⟩
    rw [← hR] at hv
    obtain ⟨A', c', rfl, _, hl'⟩ := hv.lst
    exact ⟨A', c', rfl, hl', hb⟩
  · have hRl : RM.length ≤ 1000 := by
      rcases hM with h | ⟨e2, e1, _⟩
      · omega
      · rw [(sM e1 e2).1, len_merL]; omega
    exact rsame_any X Y cx cy RM RM W hRl h h' true (by simp)
  · have hR := (sM e1 e2).2
    have := rbeh_any A B ca cb t o W (by omega) e1.symm h h'
    rwa [← hR] at this
  · have hRl : RB.length ≤ 1000 := by
      rcases hM with h | ⟨e2, e1, _⟩
      · omega
      · have := pick_length (behP t o) o.length
        rw [(sM e1 e2).2]
        unfold behL
        omega
    exact nsame_any X Y cx cy RB RB W hRl h h' true (by simp)

/-! ### the statement -/
theorem parOk : ∀ t ∈ (#[27] : Array TypeId).toList, Try.prog.readableRec t = true ∧ t < Try.prog.types.size := by
  have hall : ([27].all fun t => Try.prog.readableRec t && decide (t < Try.prog.types.size)) = true := by kernel_rfl
  intro t ht
  simpa using List.all_eq_true.1 hall t ht

/-- What the walk gives, for every argument. -/
theorem contract (H : Type) (enc : TypeId × Value → H) (W : World) (base : Nat) (args : Array Value) (ds gs : List (DataW H)) (before : List MemPlace)
    (hval : ∀ (j : Nat) t v, Try.f3.params[j]? = some t → args[j]? = some v → Value.okWide Try.prog W .any base t v)
    (hW : DataW.Whole enc Try.prog Try.f3.params.toList Rows.tableTellsSpec.vars false W args.toList ds gs before) :
    Calls Try.prog 3 args W fun e W' => ∃ v, e = .returned v ∧ Rows.tableTellsSpec.post enc Try.prog Try.f3 false true false false W args v W' := by
  have hW' := hW
  obtain ⟨p, q, hA0, hV, rfl, hfz, hnd⟩ := hW
  have hA : DataW.TrodAll enc Try.prog W 0 (fun _ => true) true Try.f3.params.toList args.toList ds p := hA0
  rw [Try.params3] at hA hval
  obtain ⟨v0, vs0, d0, ds0, p0, q0, hargs, rfl, rfl, h0, r0⟩ := trodAll_cons hA
  obtain ⟨rfl, rfl, rfl⟩ := trodAll_nil r0
  obtain rfl : args = #[v0] := by cases args; simp_all
  obtain ⟨rfl, rfl⟩ := trodVars_none hV
  obtain ⟨A, B, ca, cb, t, o, who, k, rfl, ht, ho, hwho, hk⟩ := open_ask (hval 0 27 v0 rfl rfl) h0
  clear hA0
  refine (walk A B ca cb t o who k W ht ho).mono fun e W' ⟨he, hb⟩ => ?_
  subst he
  exact ⟨_, rfl, law_post rfl (by rw [Try.params3]; exact parOk) rfl hW' rfl rfl rfl hb⟩

set_option maxRecDepth 100000 in
theorem lifted (os : Os) (started : os.Started) (H : Type) (enc : TypeId × Value → H) :
    ReturnsInHanded {} Try.checked os 3 .any (Rows.tableTellsSpec.pre6 enc Try.prog Try.f3 Rows.tableTellsRow.domain false) (Rows.tableTellsSpec.post enc Try.prog Try.f3 false true false false) := by
  refine returnsInHanded_of_change (C := Try.checked) own started (by kernel_rfl) Try.func3
    (ChangeSpec.witness6 (enc := enc) (C := Try.checked) false ⟨#[], #[.agg #[.slice none 0 0, .slice none 0 0, .int .i64 0, .int .u64 0, .int .i64 0]], []⟩ 8 (by kernel_rfl) (by kernel_rfl) (by kernel_rfl) (by kernel_rfl)) ?_
  intro W base args ds gs before hval hW _ _
  exact contract H enc W base args ds gs before hval hW

/-- THE STATEMENT. -/
theorem said : Rows.TableTellsSaid :=
  OpenClaim.holds_of_wide 3 Try.f3 rfl rfl rfl rfl rfl rfl rfl ⟨rfl, rfl, rfl, rfl, rfl⟩ rfl rfl rfl rfl rfl (by kernel_rfl) Try.func3 (by kernel_rfl)
    (of_decide_eq_true (by kernel_rfl)) (by unfold Func.isWrapper; first | (rw [if_pos (by decide +kernel)]; kernel_rfl) | (rw [if_neg (by decide +kernel)]; exact ⟨rfl, rfl⟩))
    (fun os started H enc _ => lifted os started H enc)
end Go.Proofs.Ytmfpipcedblklaa.lawTells
