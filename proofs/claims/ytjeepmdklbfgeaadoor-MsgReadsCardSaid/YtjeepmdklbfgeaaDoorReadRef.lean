/-
  What the document reads, part by part, is what the program reads.
-/
import Derived.Test.YtjeepmdklbfgeaaDoorMsgD
namespace Go.Proofs.YtjeepmdklbfgeaaDoor.Pure
open Go.Proofs.YtjeepmdklbfgeaaDoor.W Go.Proofs.YtjeepmdklbfgeaaDoor.W.Pure

/-- Part i, where the kind has it. -/
def stp (s : ByteArray) (i : Nat) (x : Mg × Tk) : Mg × Tk := if (pof x.1.kd).contains i = true then takeP s i x.1 x.2 else x
def upto (s : ByteArray) : Nat → Mg × Tk
  | 0 => decH s
  | i + 1 => stp s i (upto s i)
theorem upto_succ (s : ByteArray) (i : Nat) : upto s (i + 1) = stp s i (upto s i) := rfl
theorem stp_kd (s : ByteArray) (i : Nat) (x : Mg × Tk) : (stp s i x).1.kd = x.1.kd := by
  unfold stp
  split
  · exact (part_head s i x.1 x.2).1
  · rfl
theorem upto_kd (s : ByteArray) : ∀ i, (upto s i).1.kd = (decH s).1.kd
  | 0 => rfl
  | i + 1 => (stp_kd s i _).trans (upto_kd s i)
theorem upto_le (s : ByteArray) : ∀ i, (upto s i).2.p ≤ s.size
  | 0 => decH_le s
  | i + 1 => by
    show (stp s i _).2.p ≤ _
    unfold stp
    split
    · exact part_le s i _ _ (upto_le s i)
    · exact upto_le s i
theorem upto_wf (s : ByteArray) : ∀ i, Wf (upto s i).1
  | 0 => decL_wf s [] (decH s) ⟨show (0 : Nat) < 2 ^ 64 by decide, show (0 : Nat) < 2 ^ 64 by decide, show (0 : Nat) < 2 ^ 64 by decide, show (0 : Nat) < 2 ^ 64 by decide, fit_z0, fun _ h => by simp [decH, zm] at h, fun _ h => by simp [decH, zm] at h⟩
  | i + 1 => by
    show Wf (stp s i _).1
    unfold stp
    split
    · exact part_wf s i _ _ (upto_wf s i)
    · exact upto_wf s i
theorem upto_small (s : ByteArray) : ∀ i, Small (upto s i).1
  | 0 => ⟨Nat.zero_le _, Nat.zero_le _, Nat.zero_le _⟩
  | i + 1 => by
    show Small (stp s i _).1
    unfold stp
    split
    · exact small_take s i _ _ (upto_small s i)
    · exact upto_small s i
theorem stp_yes {s : ByteArray} {i : Nat} {x : Mg × Tk} {k : Int} (hk : x.1.kd = k) (h : (pof k).contains i = true) : stp s i x = takeP s i x.1 x.2 := by
  unfold stp; rw [hk, if_pos h]
theorem stp_no {s : ByteArray} {i : Nat} {x : Mg × Tk} {k : Int} (hk : x.1.kd = k) (h : (pof k).contains i = false) : stp s i x = x := by
  unfold stp; rw [hk, if_neg (by rw [h]; decide)]
theorem upto_all (s : ByteArray) : upto s 11 = dec s := by
  have hkd := upto_kd s
  have hk := kinds (decH s).1.kd
  unfold dec
  generalize hK : (decH s).1.kd = k at *
  have y := fun i (h : (pof k).contains i = true) => (show upto s (i + 1) = _ from stp_yes (s := s) (hkd i) h)
  have n := fun i (h : (pof k).contains i = false) => (show upto s (i + 1) = _ from stp_no (s := s) (hkd i) h)
  rcases hk with (rfl | rfl | rfl | rfl | rfl | rfl | rfl | rfl | rfl | rfl | rfl | rfl) | ⟨_, h⟩
  case inr =>
    rw [h] at n ⊢
    rw [n 10 rfl, n 9 rfl, n 8 rfl, n 7 rfl, n 6 rfl, n 5 rfl, n 4 rfl, n 3 rfl, n 2 rfl, n 1 rfl, n 0 rfl]
    rfl
  case inl.inl => rw [n 10 rfl, n 9 rfl, n 8 rfl, n 7 rfl, n 6 rfl, n 5 rfl, n 4 rfl, y 3 rfl, y 2 rfl, n 1 rfl, y 0 rfl]; rfl
  case inl.inr.inl => rw [n 10 rfl, n 9 rfl, n 8 rfl, n 7 rfl, n 6 rfl, n 5 rfl, n 4 rfl, y 3 rfl, n 2 rfl, y 1 rfl, y 0 rfl]; rfl
  case inl.inr.inr.inl => rw [n 10 rfl, n 9 rfl, n 8 rfl, n 7 rfl, n 6 rfl, n 5 rfl, n 4 rfl, y 3 rfl, y 2 rfl, y 1 rfl, y 0 rfl]; rfl
  case inl.inr.inr.inr.inl => rw [n 10 rfl, n 9 rfl, n 8 rfl, n 7 rfl, n 6 rfl, n 5 rfl, n 4 rfl, n 3 rfl, n 2 rfl, y 1 rfl, y 0 rfl]; rfl
  case inl.inr.inr.inr.inr.inl => rw [n 10 rfl, n 9 rfl, n 8 rfl, n 7 rfl, n 6 rfl, n 5 rfl, y 4 rfl, n 3 rfl, n 2 rfl, n 1 rfl, n 0 rfl]; rfl
  case inl.inr.inr.inr.inr.inr.inl => rw [n 10 rfl, n 9 rfl, n 8 rfl, n 7 rfl, n 6 rfl, n 5 rfl, y 4 rfl, n 3 rfl, n 2 rfl, n 1 rfl, n 0 rfl]; rfl
  case inl.inr.inr.inr.inr.inr.inr.inl => rw [n 10 rfl, n 9 rfl, n 8 rfl, y 7 rfl, y 6 rfl, y 5 rfl, n 4 rfl, n 3 rfl, n 2 rfl, n 1 rfl, n 0 rfl]; rfl
  case inl.inr.inr.inr.inr.inr.inr.inr.inl => rw [n 10 rfl, n 9 rfl, n 8 rfl, y 7 rfl, y 6 rfl, y 5 rfl, n 4 rfl, n 3 rfl, n 2 rfl, n 1 rfl, n 0 rfl]; rfl
  case inl.inr.inr.inr.inr.inr.inr.inr.inr.inl => rw [n 10 rfl, n 9 rfl, n 8 rfl, n 7 rfl, y 6 rfl, y 5 rfl, n 4 rfl, n 3 rfl, n 2 rfl, n 1 rfl, n 0 rfl]; rfl
  case inl.inr.inr.inr.inr.inr.inr.inr.inr.inr.inl => rw [n 10 rfl, n 9 rfl, n 8 rfl, y 7 rfl, y 6 rfl, n 5 rfl, n 4 rfl, n 3 rfl, n 2 rfl, n 1 rfl, n 0 rfl]; rfl
  case inl.inr.inr.inr.inr.inr.inr.inr.inr.inr.inr.inl => rw [n 10 rfl, y 9 rfl, y 8 rfl, y 7 rfl, y 6 rfl, y 5 rfl, n 4 rfl, n 3 rfl, n 2 rfl, n 1 rfl, n 0 rfl]; rfl
  case inl.inr.inr.inr.inr.inr.inr.inr.inr.inr.inr.inr => rw [y 10 rfl, y 9 rfl, y 8 rfl, n 7 rfl, n 6 rfl, n 5 rfl, n 4 rfl, n 3 rfl, n 2 rfl, n 1 rfl, n 0 rfl]; rfl
/-- What was taken without a fault and may be: it is written as the text just where all was taken. -/
theorem seal_all {s : ByteArray} (ho : Opens s) (hb : (dec (inner s)).2.b = false) : sealB ⟨(enc (dec (inner s)).1).toArray⟩ = s ↔ ¬ (dec (inner s)).2.p < (inner s).size := by
  constructor
  · intro h hp
    have h1 := congrArg inner h
    rw [seal_inner] at h1
    have h2 := (dec_seg (inner s) hb).2
    have h3 := congrArg ByteArray.size h1
    have h4 : (⟨(enc (dec (inner s)).1).toArray⟩ : ByteArray).size = (enc (dec (inner s)).1).length := by show (enc _).toArray.size = _; simp
    omega
  · intro hp
    have e1 := dec_all (inner s) hb hp
    have e2 : (⟨(enc (dec (inner s)).1).toArray⟩ : ByteArray) = inner s := by rw [← e1]
    rw [e2]
    exact (seal_opens s).2 ho
theorem readM_no {s : ByteArray} (h1 : 4 ≤ s.size) (h2 : s.size ≤ 4100) (ho : Opens s) (h : (dec (inner s)).2.b = true ∨ mayM (dec (inner s)).1 = false ∨ ¬ sealB ⟨(enc (dec (inner s)).1).toArray⟩ = s) : readM s = (zm, 2) := by
  unfold readM
  rw [if_neg (by omega), if_neg (by omega), if_neg (fun h => h ho), if_pos]
  rcases h with h | h | h
  · exact .inl h
  · exact .inr (.inr h)
  · rcases hb : (dec (inner s)).2.b with _ | _
    · exact .inr (.inl (Decidable.not_not.1 fun hp => h ((seal_all ho hb).2 hp)))
    · exact .inl rfl
theorem readM_yes {s : ByteArray} (h1 : 4 ≤ s.size) (h2 : s.size ≤ 4100) (ho : Opens s) (hb : (dec (inner s)).2.b = false) (hm : mayM (dec (inner s)).1 = true) (h : sealB ⟨(enc (dec (inner s)).1).toArray⟩ = s) : readM s = ((dec (inner s)).1, 0) := by
  have hp := (seal_all ho hb).1 h
  unfold readM
  rw [if_neg (by omega), if_neg (by omega), if_neg (fun h => h ho), if_neg (by simp [hb, hm]; omega)]
theorem take8 (s : ByteArray) (x : Mg) (t : Tk) : (takeP s 8 x t).2 = (ttx s t).2 := rfl
theorem stp_ok {s : ByteArray} (i : Nat) (x : Mg × Tk) (h : (stp s i x).2.b = false) (hx : x.2.p ≤ s.size) : x.2.b = false := by
  unfold stp at h
  split at h
  · exact (part_seg s i x.1 x.2 h hx).1
  · exact h
/-- Where the text of a task can't be taken, something is wrong. -/
theorem ttx_bad {s : ByteArray} (h8 : (pof (decH s).1.kd).contains 8 = true) (ht : (ttx s (upto s 8).2).2.b = true) : (dec s).2.b = true := by
  rcases hb : (dec s).2.b with _ | _
  · exfalso
    have e9 : upto s 9 = takeP s 8 (upto s 8).1 (upto s 8).2 := (upto_succ s 8).trans (stp_yes (upto_kd s 8) h8)
    have e9' := congrArg Prod.snd e9
    rw [take8] at e9'
    rw [← upto_all s] at hb
    rw [show upto s 11 = stp s 10 (upto s 10) from upto_succ s 10] at hb
    have h10 := stp_ok 10 (upto s 10) hb (upto_le s 10)
    rw [show upto s 10 = stp s 9 (upto s 9) from upto_succ s 9] at h10
    have h9 := stp_ok 9 (upto s 9) h10 (upto_le s 9)
    rw [e9', ht] at h9
    cases h9
  · rfl
end Go.Proofs.YtjeepmdklbfgeaaDoor.Pure
