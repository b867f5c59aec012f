/-
  What is read of a text, as plain data.
-/
import Derived.Test.YtjeepmdklbfgeaaDoorDec
import Derived.Test.YtjeepmdklbfgeaaDoorWSeal
namespace Go.Proofs.YtjeepmdklbfgeaaDoor.Pure
open Go.Proofs.YtjeepmdklbfgeaaDoor.W Go.Proofs.YtjeepmdklbfgeaaDoor.W.Pure

instance (s : ByteArray) : Decidable (Opens s) := by unfold Opens; infer_instance
/-- The octets that are sealed. -/
def inner (s : ByteArray) : ByteArray := s.extract 0 (s.size - 4)
/-- What is read, and the error. -/
def readM (s : ByteArray) : Mg × Nat :=
  if s.size < 4 then (zm, 3) else if 4100 < s.size then (zm, 4) else if ¬ Opens s then (zm, 10)
  else if (dec (inner s)).2.b = true ∨ (dec (inner s)).2.p < (inner s).size ∨ mayM (dec (inner s)).1 = false then (zm, 2) else ((dec (inner s)).1, 0)
/-- Lists, and texts, that are taken are short. -/
def Small (m : Mg) : Prop := m.ns.length ≤ 8 ∧ m.tb.length ≤ 64 ∧ m.ts.size ≤ 200
theorem ttx_small (s : ByteArray) (t : Tk) : (ttx s t).1.size ≤ 200 := by
  unfold ttx
  split
  · show (0 : Nat) ≤ 200; omega
  · rename_i hn
    obtain ⟨n, p, _, h2, _, h4⟩ := ttx_cases s t hn
    rw [h4]
    show (s.extract _ _).size ≤ 200
    rw [ByteArray.size_extract]; omega
theorem small_take (s : ByteArray) (i : Nat) (m : Mg) (t : Tk) (h : Small m) : Small (takeP s i m t).1 := by
  obtain ⟨h1, h2, h3⟩ := h
  unfold takeP
  split
  case h_4 => exact ⟨by show (tls _ _ _).1.length ≤ 8; rw [tls_len]; exact tnum_most s 8 t, h2, h3⟩
  case h_5 => exact ⟨h1, by show (tls _ _ _).1.length ≤ 64; rw [tls_len]; exact tnum_most s 64 t, h3⟩
  case h_9 => exact ⟨h1, h2, ttx_small s t⟩
  all_goals exact ⟨h1, h2, h3⟩
theorem small_decL (s : ByteArray) : ∀ (L : List Nat) (x : Mg × Tk), Small x.1 → Small (decL s L x).1
  | [], _, h => h
  | i :: L, x, h => small_decL s L _ (small_take s i x.1 x.2 h)
theorem dec_small (s : ByteArray) : Small (dec s).1 := small_decL s _ _ ⟨Nat.zero_le _, Nat.zero_le _, Nat.zero_le _⟩
theorem readM_cases (s : ByteArray) : (readM s = (zm, 3) ∧ s.size < 4) ∨ (readM s = (zm, 4) ∧ 4100 < s.size) ∨ (readM s = (zm, 10) ∧ ¬ Opens s) ∨ readM s = (zm, 2) ∨
    (readM s = ((dec (inner s)).1, 0) ∧ Opens s ∧ (dec (inner s)).2.b = false ∧ ¬ (dec (inner s)).2.p < (inner s).size ∧ mayM (dec (inner s)).1 = true) := by
  unfold readM
  generalize dec (inner s) = d
  by_cases h1 : s.size < 4
  · rw [if_pos h1]; exact .inl ⟨rfl, h1⟩
  rw [if_neg h1]
  by_cases h2 : 4100 < s.size
  · rw [if_pos h2]; exact .inr (.inl ⟨rfl, h2⟩)
  rw [if_neg h2]
  by_cases h3 : Opens s
  · rw [if_neg (fun h => h h3)]
    by_cases h4 : d.2.b = true ∨ d.2.p < (inner s).size ∨ mayM d.1 = false
    · rw [if_pos h4]; exact .inr (.inr (.inr (.inl rfl)))
    · rw [if_neg h4]
      refine .inr (.inr (.inr (.inr ⟨rfl, h3, ?_, fun e => h4 (.inr (.inl e)), ?_⟩)))
      · rcases e : d.2.b with _ | _
        · rfl
        · exact absurd (.inl e) h4
      · rcases e : mayM d.1 with _ | _
        · exact absurd (.inr (.inr e)) h4
        · rfl
  · rw [if_pos h3]; exact .inr (.inr (.inl ⟨rfl, h3⟩))
theorem readM_wf (s : ByteArray) : Wf (readM s).1 := by
  have hw := dec_wf (inner s)
  rcases readM_cases s with ⟨e, _⟩ | ⟨e, _⟩ | ⟨e, _⟩ | e | ⟨e, _⟩ <;> rw [e] <;> clear e
  · exact wf_zm
  · exact wf_zm
  · exact wf_zm
  · exact wf_zm
  · generalize dec (inner s) = d at *
    exact hw
theorem readM_err (s : ByteArray) : (readM s).2 ≤ 10 := by
  rcases readM_cases s with ⟨e, _⟩ | ⟨e, _⟩ | ⟨e, _⟩ | e | ⟨e, _⟩ <;> rw [e] <;> simp
/-- What is read may be, and was written so. -/
theorem readM_ok {s : ByteArray} (h : (readM s).2 = 0) : mayM (readM s).1 = true ∧ sealB ⟨(enc (readM s).1).toArray⟩ = s := by
  rcases readM_cases s with ⟨e, _⟩ | ⟨e, _⟩ | ⟨e, _⟩ | e | ⟨e, h3, h4, h5, h6⟩
  · rw [e] at h; simp at h
  · rw [e] at h; simp at h
  · rw [e] at h; simp at h
  · rw [e] at h; simp at h
  · have e1 := dec_all (inner s) h4 h5
    have e2 : (⟨(enc (dec (inner s)).1).toArray⟩ : ByteArray) = inner s := by rw [← e1]
    rw [e]
    generalize dec (inner s) = d at *
    refine ⟨h6, ?_⟩
    simp only []
    rw [e2]
    exact (seal_opens s).2 h3
theorem seal_size (s : ByteArray) : (sealB s).size = s.size + 4 := by unfold sealB; rw [ByteArray.size_append, fourB_size]
theorem seal_inner (s : ByteArray) : inner (sealB s) = s := by
  unfold inner
  rw [seal_size, Nat.add_sub_cancel]
  unfold sealB
  rw [ByteArray.extract_append_eq_left rfl]
theorem seal_open (s : ByteArray) : Opens (sealB s) := (seal_opens (sealB s)).1 (by have := seal_inner s; unfold inner at this; rw [this])
/-- What was written is read as it was. -/
theorem readM_seal {m : Mg} (hm : mayM m = true) (hw : Wf m) (hl : (enc m).length ≤ 2000) : readM (sealB ⟨(enc m).toArray⟩) = (m, 0) := by
  have hs : (⟨(enc m).toArray⟩ : ByteArray).size = (enc m).length := by show (enc m).toArray.size = _; simp
  unfold readM
  rw [if_neg (by rw [seal_size]; omega), if_neg (by rw [seal_size, hs]; omega), if_neg (fun h => h (seal_open _)), seal_inner, dec_enc hm hw _ (by simp), if_neg (by simp [hm])]
/-- Two that are written as the same are the same. -/
theorem enc_inj {a b : Mg} (ha : mayM a = true) (hb : mayM b = true) (wa : Wf a) (wb : Wf b) (la : (enc a).length ≤ 2000) (lb : (enc b).length ≤ 2000) (h : sealB ⟨(enc a).toArray⟩ = sealB ⟨(enc b).toArray⟩) : a = b := by
  have h1 := readM_seal ha wa la
  have h2 := readM_seal hb wb lb
  rw [h, h2] at h1
  injection h1 with h1 _
  exact h1.symm
end Go.Proofs.YtjeepmdklbfgeaaDoor.Pure
