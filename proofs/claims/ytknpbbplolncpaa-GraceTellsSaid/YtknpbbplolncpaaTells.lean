/-
  GraceTells: any rules' grace, which doubts may be, and any doubts, raised, cleared, and ripe, exactly as the document says, or why not: the law returns true for every input.
-/
import Derived.Test.YtknpbbplolncpaaTellsNot
import Derived.Test.YtknpbbplolncpaaTellsMay
namespace Go.Proofs.Ytknpbbplolncpaa.lawTells
open Go.Sort Go.ChangeShapes Go.WideShapes Go.ChangeAt Go.RowKit Go.Proofs.Ytknpbbplolncpaa.Pure

theorem walk (A : Option Addr) (c : Nat) (q : List Db) (r : Ru) (n k who b inc now : Int) (w : World) (q1 : q.length ≤ c) (q2 : c ≤ maxLen) (q3 : Ds w w.heap.size A q) : Calls Try.prog 3 #[.agg #[.slice A q.length c, .int .i64 r.mn, .int .i64 r.mo, .int .i64 r.al, .int .i64 n, .int .i64 k, .int .i64 who, .int .i64 b, .int .u64 inc, .int .i64 now]] w fun e w' => e = .returned (.bool true) ∧ Below w.heap.size w w' := by
  rcases h : mayD (fewD (q.map Db.ct)) with _ | _
  · exact walk_not A c q r n k who b inc now w q1 q2 q3 h
  · exact walk_may A c q r n k who b inc now w q1 q2 q3 h

/-! ### the statement -/
theorem parOk : ∀ t ∈ (#[27] : Array TypeId).toList, Try.prog.readableRec t = true ∧ t < Try.prog.types.size := by
  have hall : ([27].all fun t => Try.prog.readableRec t && decide (t < Try.prog.types.size)) = true := by kernel_rfl
  intro t ht
  simpa using List.all_eq_true.1 hall t ht

set_option maxRecDepth 100000 in
/-- What the walk gives, for every argument. -/
theorem contract (H : Type) (enc : TypeId × Value → H) (W : World) (base : Nat) (args : Array Value) (ds gs : List (DataW H)) (before : List MemPlace)
    (hval : ∀ (j : Nat) t v, Try.f3.params[j]? = some t → args[j]? = some v → Value.okWide Try.prog W .any base t v)
    (hW : DataW.Whole enc Try.prog Try.f3.params.toList Rows.graceTellsSpec.vars false W args.toList ds gs before) :
    Calls Try.prog 3 args W fun e W' => ∃ v, e = .returned v ∧ Rows.graceTellsSpec.post enc Try.prog Try.f3 false true false false W args v W' := by
  have hW' := hW
  obtain ⟨p, q, hA0, hV, rfl, hfz, hnd⟩ := hW
  have hA : DataW.TrodAll enc Try.prog W 0 (fun _ => true) true Try.f3.params.toList args.toList ds p := hA0
  rw [Try.params3] at hA hval
  obtain ⟨v0, vs0, d0, ds0, p0, q0, hargs, rfl, rfl, h0, r0⟩ := trodAll_cons hA
  obtain ⟨rfl, rfl, rfl⟩ := trodAll_nil r0
  obtain rfl : args = #[v0] := by cases args; simp_all
  obtain ⟨rfl, rfl⟩ := trodVars_none hV
  obtain ⟨y, rfl, hy⟩ := open_ask (hval 0 27 v0 rfl rfl) h0
  clear hA0
  refine (walk y.A y.c y.q y.r y.n y.k y.who y.by_ y.inc y.now W hy.q1 hy.q2 hy.q3).mono fun e W' ⟨he, hb⟩ => ?_
  subst he
  exact ⟨_, rfl, law_post rfl (by rw [Try.params3]; exact parOk) rfl hW' rfl rfl rfl hb⟩

set_option maxRecDepth 100000 in
theorem lifted (os : Os) (started : os.Started) (H : Type) (enc : TypeId × Value → H) :
    ReturnsInHanded {} Try.checked os 3 .any (Rows.graceTellsSpec.pre6 enc Try.prog Try.f3 Rows.graceTellsRow.domain false) (Rows.graceTellsSpec.post enc Try.prog Try.f3 false true false false) := by
  refine returnsInHanded_of_change (C := Try.checked) own started (by kernel_rfl) Try.func3
    (ChangeSpec.witness6 (enc := enc) (C := Try.checked) false ⟨#[], #[.agg #[.slice none 0 0, .int .i64 0, .int .i64 0, .int .i64 0, .int .i64 0, .int .i64 0, .int .i64 0, .int .i64 0, .int .u64 0, .int .i64 0]], []⟩ 8 (by kernel_rfl) (by kernel_rfl) (by kernel_rfl) (by kernel_rfl)) ?_
  intro W base args ds gs before hval hW _ _
  exact contract H enc W base args ds gs before hval hW

/-- THE STATEMENT. -/
theorem said : Rows.GraceTellsSaid :=
  OpenClaim.holds_of_wide 3 Try.f3 rfl rfl rfl rfl rfl rfl rfl ⟨rfl, rfl, rfl, rfl, rfl⟩ rfl rfl rfl rfl rfl (by kernel_rfl) Try.func3 (by kernel_rfl)
    (of_decide_eq_true (by kernel_rfl)) (by unfold Func.isWrapper; first | (rw [if_pos (by decide +kernel)]; kernel_rfl) | (rw [if_neg (by decide +kernel)]; exact ⟨rfl, rfl⟩))
    (fun os started H enc _ => lifted os started H enc)
end Go.Proofs.Ytknpbbplolncpaa.lawTells
