/-
  THE LAW NewsTells: exactly as the document says: which queues may be, how often news are told, any queue with any news more, and what is taken out of it, or why not.
  For every queue (of which the law looks at the first sixty-five), all news, and every two numbers.
-/
import Derived.Test.YtipepmnnjhhjbaaTellsMay
namespace Go.Proofs.Ytipepmnnjhhjbaa.lawTells
open Go.Sort Go.ChangeShapes Go.WideShapes Go.ChangeAt Go.RowKit Go.Joins Go.Proofs.Ytipepmnnjhhjbaa.Pure

theorem walk (A : Option Addr) (c : Nat) (q : List Td) (n : Nw) (a b : Int) (w : World) (hq : q.length ≤ c ∧ c ≤ maxLen ∧ Ts w A q) :
    Calls Try.prog 3 #[.agg #[.slice A q.length c, .int .i64 n.w, .int .u64 n.i, .int .i64 n.s, .int .i64 a, .int .i64 b]] w fun e w' => e = .returned (.bool true) ∧ Below w.heap.size w w' := by
  have fa : ∀ W : World, Calls Try.prog 9 #[.slice A q.length c] W fun e w' => e = .returned (.slice A (q.take 65).length c) ∧ Below W.heap.size W w' := fun W => (few_any A c q w hq.1 hq.2.1 hq.2.2 W).mono fun e w' ⟨h1, h2⟩ => ⟨h1, h2 ▸ Below.refl _ _⟩
  have lt := hq.2.2.take 65
  have nt : (q.take 65).length ≤ 65 := by rw [List.length_take]; omega
  generalize q.length = kq at *
  generalize q.take 65 = t at *
  clear hq
  -- how often
  obtain ⟨nb, db, hB, gB, gR⟩ : ∃ nb db : Int, ((budB a b = true ∧ db = 0) ∨ (budB a b = false ∧ nb = 0 ∧ db = 1)) ∧ (∀ (W : World), Calls Try.prog 10 #[.int .i64 a, .int .i64 b] W fun e w' => e = .returned (.tuple #[.int .i64 nb, .int .i64 db]) ∧ Below W.heap.size W w') ∧ (budB a b = true → ∀ (W : World), Calls Try.prog 11 #[.int .i64 a, .int .i64 b] W fun e w' => e = .returned (.int .i64 nb) ∧ Below W.heap.size W w') := by
    rcases hb : budB a b with _ | _
    · exact ⟨0, 1, .inr ⟨rfl, rfl, rfl⟩, fun W => (budget_no a b W hb).mono fun e w' ⟨h1, h2⟩ => ⟨h1, h2 ▸ Below.refl _ _⟩, fun h => by cases h⟩
    · exact ⟨bud a b, 0, .inl ⟨rfl, rfl⟩, fun W => (budget_yes a b W hb).mono fun e w' ⟨h1, h2⟩ => ⟨h1, h2 ▸ Below.refl _ _⟩, fun _ W => (rbudget_yes a b W hb).mono fun e w' ⟨h1, h2⟩ => ⟨h1, h2 ▸ Below.refl _ _⟩⟩
  have gStt : ∀ (W : World) X cx Y cy, Ts W X t → Ts W Y t → _ := fun W X cx Y cy h h' => qsame_any X Y cx cy t t W (by omega) h h' true (by simp)
  have gRtt : ∀ (W : World) X cx Y cy, Ts W X t → Ts W Y t → _ := fun W X cx Y cy h h' => rsame_any X Y cx cy t t W (by omega) h h' true (by simp)
  have gA : ∀ W : World, Ts W A t → Calls Try.prog 12 #[.slice A t.length c, .agg #[.int .i64 n.w, .int .u64 n.i, .int .i64 n.s], .int .i64 a] W (Gq W (addL t (n.td a)) (addE t (n.td a))) := fun W h => l_add h (by omega) n a
  rcases hm : mayQ t with _ | _
  · have hu : addL t (n.td a) = t ∧ addE t (n.td a) = 1 := by unfold addL addE; rw [hm]; exact ⟨rfl, rfl⟩
    rw [hu.1, hu.2] at gA
    exact wayNot A kq t.length t.length 0 0 c t t [] [] n a b nb db 1 1 true true w (Lib.hid fa) (Lib.hid gB) (Lib.hid gR) (Lib.hid gA)
      (Lib.hid fun W h => l_take_bad h (by omega) b (fun h2 => by rw [hm] at h2; cases h2.1))
      (Lib.hid fun W h => checkQ_any A c t W (by omega) h false hm) (Lib.hid fun W h => may_any A c t W (by omega) h false hm)
      (Lib.hid gStt) (Lib.hid gRtt) (Lib.hid gStt) (Lib.hid gRtt) hB ⟨rfl, rfl, rfl, rfl, rfl⟩ ⟨rfl, rfl, rfl⟩ lt
  · obtain ⟨u, eu, su, hA, gU, gSU, gRA, lU⟩ : ∃ (u : List Td) (eu : Int) (su : Bool), (((oneB n = false ∨ a < 1 ∨ 64 < a) ∧ u = t ∧ u.length = t.length ∧ eu = 1 ∧ su = true) ∨ (oneB n = true ∧ 1 ≤ a ∧ a ≤ 64 ∧ eu = 0)) ∧
        (∀ W : World, Ts W A t → Calls Try.prog 12 #[.slice A t.length c, .agg #[.int .i64 n.w, .int .u64 n.i, .int .i64 n.s], .int .i64 a] W (Gq W u eu)) ∧ decide (u = t) = su ∧ (oneB n = true → 1 ≤ a → a ≤ 64 → u = addQ t (n.td a)) ∧ u.length ≤ 66 := by
      by_cases hg : oneB n = true ∧ 1 ≤ a ∧ a ≤ 64
      · have hx : mayT (n.td a) = true := by rw [mayT_td, hg.1]; simp; omega
        have hu : addL t (n.td a) = addQ t (n.td a) ∧ addE t (n.td a) = 0 := by unfold addL addE; rw [hm, hx]; exact ⟨rfl, rfl⟩
        rw [hu.1, hu.2] at gA
        exact ⟨addQ t (n.td a), 0, _, .inr ⟨hg.1, hg.2.1, hg.2.2, rfl⟩, gA, rfl, fun _ _ _ => rfl, by have := (addQ_len t (n.td a)).2; omega⟩
      · have hx : mayT (n.td a) = false := by
          rw [mayT_td]
          rcases h1 : oneB n with _ | _
          · rfl
          · rw [h1] at hg
            simp only [true_and] at hg
            simp
            omega
        have hu : addL t (n.td a) = t ∧ addE t (n.td a) = 1 := by unfold addL addE; rw [hm, hx]; exact ⟨rfl, rfl⟩
        rw [hu.1, hu.2] at gA
        refine ⟨t, 1, true, .inl ⟨?_, rfl, rfl, rfl, rfl⟩, gA, by simp, fun h1 h2 h3 => absurd ⟨h1, h2, h3⟩ hg, by omega⟩
        rcases h1 : oneB n with _ | _
        · exact .inl rfl
        · rw [h1] at hg
          simp only [true_and] at hg
          omega
    obtain ⟨lN, lR, et, hT, gT, gRT, lNl, lRl⟩ : ∃ (lN : List Nw) (lR : List Td) (et : Int), ((b < 0 ∧ lN.length = 0 ∧ lR.length = 0 ∧ et = 1) ∨ (0 ≤ b ∧ et = 0)) ∧
        (∀ W : World, Ts W A t → Calls Try.prog 13 #[.slice A t.length c, .int .i64 b] W (Gn W lN lR et)) ∧ (0 ≤ b → ∀ W : World, Ts W A t → Calls Try.prog 21 #[.slice A t.length c, .int .i64 b] W (Gr W lN lR)) ∧ lN.length ≤ 100 ∧ lR.length ≤ 100 := by
      by_cases hb : 0 ≤ b
      · refine ⟨tellN t b.toNat, tellR t b.toNat, 0, .inr ⟨hb, rfl⟩, fun W h => l_take h hm b hb, fun _ W h => l_rtake h hm b hb, ?_, ?_⟩
        · unfold tellN
          rw [tellL_len]
          have : (srtT t).length = t.length := srt_len _ _
          omega
        · have := mayQ_len (may_tellR hm b.toNat)
          omega
      · exact ⟨[], [], 1, .inl ⟨by omega, rfl, rfl, rfl⟩, fun W h => l_take_bad h (by omega) b (fun h2 => hb h2.2), fun h => absurd h hb, by simp, by simp⟩
    exact wayMay A kq t.length u.length lN.length lR.length c t u lR lN n a b nb db eu et (decide (t = u)) su (oneB n) w (Lib.hid fa) (Lib.hid gB) (Lib.hid gR) (Lib.hid gU) (Lib.hid gT)
      (Lib.hid fun W h => checkQ_any A c t W (by omega) h true hm) (Lib.hid fun W h => may_any A c t W (by omega) h true hm)
      (Lib.hid fun W X cx Y cy h h' => qsame_any X Y cx cy t u W (by omega) h h' _ rfl) (Lib.hid fun W X cx Y cy h h' => rsame_any X Y cx cy t u W (by omega) h h' _ rfl) (Lib.hid gStt)
      (Lib.hid fun W X cx Y cy h h' => rsame_any X Y cx cy u t W (by omega) h h' su gSU) (Lib.hid fun W => one_any n W)
      (Lib.hid fun h1 h2 h3 W h => by rw [gRA h1 h2 h3]; exact l_radd h (by omega) n a)
      (Lib.hid fun W X cx Y cy h h' => rsame_any X Y cx cy u u W (by omega) h h' true (by simp)) (Lib.hid gRT)
      (Lib.hid fun W X cx Y cy h h' => rnews_any X Y cx cy lN lN W (by omega) h h' true (by simp)) (Lib.hid fun W X cx Y cy h h' => rsame_any X Y cx cy lR lR W (by omega) h h' true (by simp)) hB hA hT lt

theorem parOk : ∀ t ∈ (#[29] : Array TypeId).toList, Try.prog.readableRec t = true ∧ t < Try.prog.types.size := by
  have hall : ([29].all fun t => Try.prog.readableRec t && decide (t < Try.prog.types.size)) = true := by kernel_rfl
  intro t ht
  simpa using List.all_eq_true.1 hall t ht

set_option maxRecDepth 100000 in
/-- What the walk gives, for every argument. -/
theorem contract (H : Type) (enc : TypeId × Value → H) (W : World) (base : Nat) (args : Array Value) (ds gs : List (DataW H)) (before : List MemPlace)
    (hval : ∀ (j : Nat) t v, Try.f3.params[j]? = some t → args[j]? = some v → Value.okWide Try.prog W .any base t v)
    (hW : DataW.Whole enc Try.prog Try.f3.params.toList Rows.newsTellsSpec.vars false W args.toList ds gs before) :
    Calls Try.prog 3 args W fun e W' => ∃ v, e = .returned v ∧ Rows.newsTellsSpec.post enc Try.prog Try.f3 false true false false W args v W' := by
  have hW' := hW
  obtain ⟨p, q, hA0, hV, rfl, hfz, hnd⟩ := hW
  have hA : DataW.TrodAll enc Try.prog W 0 (fun _ => true) true Try.f3.params.toList args.toList ds p := hA0
  rw [Try.params3] at hA hval
  obtain ⟨v0, vs0, d0, ds0, p0, q0, hargs, rfl, rfl, h0, r0⟩ := trodAll_cons hA
  obtain ⟨rfl, rfl, rfl⟩ := trodAll_nil r0
  obtain rfl : args = #[v0] := by cases args; simp_all
  obtain ⟨rfl, rfl⟩ := trodVars_none hV
  obtain ⟨A, c, q, n, a, b, rfl, hq, _, _⟩ := open_ask (hval 0 29 v0 rfl rfl) h0
  clear hA0
  refine (walk A c q n a b W hq).mono fun e W' ⟨he, hb⟩ => ?_
  subst he
  exact ⟨_, rfl, law_post rfl (by rw [Try.params3]; exact parOk) rfl hW' rfl rfl rfl hb⟩

set_option maxRecDepth 100000 in
theorem lifted (os : Os) (started : os.Started) (H : Type) (enc : TypeId × Value → H) :
    ReturnsInHanded {} Try.checked os 3 .any (Rows.newsTellsSpec.pre6 enc Try.prog Try.f3 Rows.newsTellsRow.domain false) (Rows.newsTellsSpec.post enc Try.prog Try.f3 false true false false) := by
  refine returnsInHanded_of_change (C := Try.checked) own started (by kernel_rfl) Try.func3
    (ChangeSpec.witness6 (enc := enc) (C := Try.checked) false ⟨#[], #[.agg #[.slice none 0 0, .int .i64 0, .int .u64 0, .int .i64 0, .int .i64 0, .int .i64 0]], []⟩ 8 (by kernel_rfl) (by kernel_rfl) (by kernel_rfl) (by kernel_rfl)) ?_
  intro W base args ds gs before hval hW _ _
  exact contract H enc W base args ds gs before hval hW

/-- THE STATEMENT. -/
theorem said : Rows.NewsTellsSaid :=
  OpenClaim.holds_of_wide 3 Try.f3 rfl rfl rfl rfl rfl rfl rfl ⟨rfl, rfl, rfl, rfl, rfl⟩ rfl rfl rfl rfl rfl (by kernel_rfl) Try.func3 (by kernel_rfl)
    (of_decide_eq_true (by kernel_rfl)) (by unfold Func.isWrapper; first | (rw [if_pos (by decide +kernel)]; kernel_rfl) | (rw [if_neg (by decide +kernel)]; exact ⟨rfl, rfl⟩))
    (fun os started H enc _ => lifted os started H enc)
end Go.Proofs.Ytipepmnnjhhjbaa.lawTells
