/-
  What follows, of what is read, written and torn: as mathematics.
-/
import Derived.Test.YtlpnhpnigljlnaaDoorCt
import Derived.Test.YtlpnhpnigljlnaaDoorTurnMath
namespace Go.Proofs.YtlpnhpnigljlnaaDoor
open Go.RowKit Go.Proofs.YtlpnhpnigljlnaaDoor.Pure Go.Proofs.YtlpnhpnigljlnaaDoor.Crc

/-- One of the two places. -/
def plD (A : Bool) (d : Dk) (t : ByteArray) : Dk := if A = true then ⟨t, d.b⟩ else ⟨d.a, t⟩
theorem int_pl (d : Dk) : ∃ A, ∀ t, intD parC d t = plD A d t := by
  rcases tea_three d with ⟨_, h⟩ | ⟨_, _, _, _, h⟩ | ⟨_, _, _, h⟩
  · exact ⟨true, h⟩
  · exact ⟨false, h⟩
  · exact ⟨true, h⟩
theorem cut_size (t : ByteArray) (c : Nat) : (cutD t c).size ≤ t.size := by
  rw [← cut_is, ByteArray.size_extract]
  omega
theorem of_rea {d : Dk} {s : Sv} (h : reaD parC d = some s) : hasO d = true ∧ hasS d = s ∧ reaE d = 0 := by
  have h1 : hasO d = true := by rw [hasO_is, h]; rfl
  refine ⟨h1, by rw [hasS_is, h]; rfl, ?_⟩
  unfold reaE
  rw [if_pos h1]
theorem same_rea {d x : Dk} (h : reaD parC x = reaD parC d) : hasO x = hasO d ∧ hasS x = hasS d ∧ reaE x = reaE d := by
  have h1 : hasO x = hasO d := by rw [hasO_is, hasO_is, h]
  exact ⟨h1, by rw [hasS_is, hasS_is, h], by unfold reaE; rw [h1]⟩
theorem te_same (d : Dk) (s : Sv) {c m : Int} (hc : 0 ≤ c) (hm : 0 ≤ m) : teE d s c = teE d s m := by
  unfold teE
  have e : (c < 0 ∨ mayB s = false) ↔ (m < 0 ∨ mayB s = false) := by
    constructor
    · rintro (h | h)
      · omega
      · exact .inr h
    · rintro (h | h)
      · omega
      · exact .inr h
  by_cases h : c < 0 ∨ mayB s = false
  · rw [if_pos h, if_pos (e.1 h)]
  · rw [if_neg h, if_neg (fun h2 => h (e.2 h2))]
/-- A cut that no text goes beyond is as good as another one. -/
theorem te_cut (d : Dk) (s : Sv) {c m : Int} (hc : 64 ≤ c) (hm : 64 ≤ m) : teR d s c = teR d s m := by
  unfold teR
  rw [te_same d s (show 0 ≤ c by omega) (show 0 ≤ m by omega)]
  split
  · have h := layC_size (nexD parC d s)
    rw [tea_same (c := c.toNat) (by omega), tea_same (c := m.toNat) (by omega)]
  · rfl
theorem te_no {d : Dk} {s : Sv} {c : Int} (h : ¬ teE d s c = 0) : teR d s c = d := by unfold teR; rw [if_neg h]
theorem te_zero {d : Dk} {s : Sv} {c : Int} (h : teE d s c = 0) : 0 ≤ c ∧ mayB s = true ∧ ¬ (hasS d).q = 18446744073709551615 := by
  unfold teE at h
  split at h
  · cases h
  · rename_i h1
    split at h
    · cases h
    · rename_i h2
      refine ⟨?_, ?_, h2⟩
      · rcases Int.lt_or_le c 0 with h3 | h3
        · exact absurd (.inl h3) h1
        · exact h3
      · cases hm : mayB s with
        | true => rfl
        | false => exact absurd (.inr hm) h1
theorem te_is {d : Dk} {s : Sv} {c : Int} (h0 : 0 ≤ c) (hm : mayB s = true) (hq : ¬ (hasS d).q = 18446744073709551615) : teE d s c = 0 := by
  unfold teE
  rw [if_neg (by rintro (h | h); · omega
                 · rw [hm] at h; cases h), if_neg hq]
/-- What is written, whole and torn: before or behind, and nothing else. -/
theorem step {d : Dk} {s : Sv} {c : Int} (hf : FitS s) (h0 : teE d s c = 0) : ∃ (A : Bool) (U T : ByteArray), teR d s c = plD A d U ∧ teR d s 9223372036854775807 = plD A d T ∧ teE d s 9223372036854775807 = 0 ∧ U.size ≤ 64 ∧ T.size ≤ 64 ∧ 4 < T.size ∧
    (hasO (plD A d T) = true ∧ hasS (plD A d T) = ⟨(hasS d).q + 1, s.b, s.i, s.e, s.u⟩ ∧ reaE (plD A d T) = 0) ∧ (U = T ∨ (¬ U = T ∧ hasO (plD A d U) = hasO d ∧ hasS (plD A d U) = hasS d ∧ reaE (plD A d U) = reaE d)) ∧
    (0 ≤ (hasS d).q ∧ (hasS d).q + 1 < 18446744073709551616) := by
  obtain ⟨hc, hm, hq⟩ := te_zero h0
  have hM : teE d s 9223372036854775807 = 0 := by rw [te_same d s (by decide) hc]; exact h0
  have hn := nex_O hf hm hq
  have hsz := layC_size (nexD parC d s)
  have hps := layC_pos (nexD parC d s)
  obtain ⟨A, hA⟩ := int_pl d
  have e1 : teR d s c = plD A d (cutD (layC (nexD parC d s)) c.toNat) := by
    rw [← hA]; unfold teR; rw [if_pos h0]; rfl
  have e2 : teR d s 9223372036854775807 = plD A d (layC (nexD parC d s)) := by
    rw [← hA]; unfold teR; rw [if_pos hM]; exact tea_same (by
      have : (9223372036854775807 : Int).toNat = 9223372036854775807 := rfl
      omega)
  have e3 : reaD parC (plD A d (layC (nexD parC d s))) = some (nexD parC d s) := by
    rw [← hA]
    exact rea_whole (wy_C.back _ hn) rfl
  refine ⟨A, cutD (layC (nexD parC d s)) c.toNat, layC (nexD parC d s), e1, e2, hM, Nat.le_trans (cut_size _ _) hsz, hsz, hps, ?_, ?_, ?_⟩
  · obtain ⟨h1, h2, h3⟩ := of_rea e3
    exact ⟨h1, by rw [h2, nex_is], h3⟩
  · rcases Nat.lt_or_ge c.toNat (layC (nexD parC d s)).size with h | h
    · refine .inr ⟨cut_ne h, ?_⟩
      have : reaD parC (plD A d (cutD (layC (nexD parC d s)) c.toNat)) = reaD parC d := by
        rw [← hA]
        refine rea_torn ?_
        unfold cutD
        rw [if_pos h]
        exact wy_C.part _ _ hn h
      exact same_rea this
    · refine .inl ?_
      unfold cutD
      rw [if_neg (by omega)]
  · have hq0 := (hasS_O d).q
    have e64 : (2 : Int) ^ 64 = 18446744073709551616 := by decide
    omega
theorem pl_size {A : Bool} {d : Dk} {t : ByteArray} {m : Nat} (ha : d.a.size ≤ m) (hb : d.b.size ≤ m) (ht : t.size ≤ m) : (plD A d t).a.size ≤ m ∧ (plD A d t).b.size ≤ m := by
  unfold plD
  split
  · exact ⟨ht, hb⟩
  · exact ⟨ha, ht⟩
theorem te_size {d : Dk} {s : Sv} {c : Int} {m : Nat} (hf : FitS s) (ha : d.a.size ≤ m) (hb : d.b.size ≤ m) (hm : 64 ≤ m) : (teR d s c).a.size ≤ m ∧ (teR d s c).b.size ≤ m := by
  by_cases h : teE d s c = 0
  · obtain ⟨A, U, T, e1, _, _, h1, _⟩ := step hf h
    rw [e1]
    exact pl_size ha hb (Nat.le_trans h1 hm)
  · rw [te_no h]
    exact ⟨ha, hb⟩
/-- The place that has what is read. -/
theorem place {d : Dk} {A : Bool} (hA : ∀ t, intD parC d t = plD A d t) (h : reaE d = 0) : (A = true → parS d.b = hasS d ∧ parE d.b = 0) ∧ (A = false → parS d.a = hasS d ∧ parE d.a = 0) := by
  have ho : hasO d = true := by
    unfold reaE at h
    split at h
    · assumption
    · cases h
  have hne : ∀ (x : ByteArray) (s : Sv), parC x = some s → parS x = s ∧ parE x = 0 := fun x s hx => ⟨by unfold parS; rw [hx]; rfl, parE_some hx⟩
  rcases rea_cases parC d with ⟨h1, h2, h3, h4⟩ | ⟨s, h1, h2, h3, h4, h5⟩ | ⟨s, h1, h2, h3, h4, h5⟩
  · rw [hasO_is, h1] at ho; cases ho
  · have hs : hasS d = s := (of_rea h1).2.1
    refine ⟨fun e => ?_, fun _ => by rw [hs]; exact hne _ _ h2⟩
    subst e
    exfalso
    have e1 := (hA ⟨#[0]⟩).symm.trans (h5 ⟨#[0]⟩)
    have e2 := (hA ⟨#[1]⟩).symm.trans (h5 ⟨#[1]⟩)
    have e3 : (⟨#[0]⟩ : ByteArray) = d.a := congrArg Dk.a e1
    have e4 : (⟨#[1]⟩ : ByteArray) = d.a := congrArg Dk.a e2
    have e5 := e3.trans e4.symm
    exact absurd (congrArg (fun b : ByteArray => b.data.toList) e5) (by decide)
  · have hs : hasS d = s := (of_rea h1).2.1
    refine ⟨fun _ => by rw [hs]; exact hne _ _ h2, fun e => ?_⟩
    subst e
    exfalso
    have e1 := (hA ⟨#[0]⟩).symm.trans (h5 ⟨#[0]⟩)
    have e2 := (hA ⟨#[1]⟩).symm.trans (h5 ⟨#[1]⟩)
    have e3 : d.a = (⟨#[0]⟩ : ByteArray) := congrArg Dk.a e1
    have e4 : d.a = (⟨#[1]⟩ : ByteArray) := congrArg Dk.a e2
    have e5 := e3.symm.trans e4
    exact absurd (congrArg (fun b : ByteArray => b.data.toList) e5) (by decide)
theorem about {d : Dk} {s : Sv} {c : Int} (h0 : teE d s c = 0) : ∃ (A : Bool) (U : ByteArray), teR d s c = plD A d U ∧ U.size ≤ 64 ∧ (¬ reaE d = 0 → A = true) ∧ (reaE d = 0 → (A = true → parS d.b = hasS d ∧ parE d.b = 0) ∧ (A = false → parS d.a = hasS d ∧ parE d.a = 0)) := by
  obtain ⟨hc, hm, hq⟩ := te_zero h0
  have hsz := layC_size (nexD parC d s)
  obtain ⟨A, hA⟩ := int_pl d
  refine ⟨A, cutD (layC (nexD parC d s)) c.toNat, by rw [← hA]; unfold teR; rw [if_pos h0]; rfl, Nat.le_trans (cut_size _ _) hsz, fun h => ?_, fun h => place hA h⟩
  have ho : hasO d = false := by
    unfold reaE at h
    cases hh : hasO d with
    | false => rfl
    | true => rw [hh] at h; exact absurd rfl h
  rcases tea_three d with ⟨_, h2⟩ | ⟨h1, _⟩ | ⟨h1, _⟩
  · cases A with
    | true => rfl
    | false =>
      exfalso
      have e1 := (hA ⟨#[0]⟩).symm.trans (h2 ⟨#[0]⟩)
      have e2 := (hA ⟨#[1]⟩).symm.trans (h2 ⟨#[1]⟩)
      have e3 : d.a = (⟨#[0]⟩ : ByteArray) := congrArg Dk.a e1
      have e4 : d.a = (⟨#[1]⟩ : ByteArray) := congrArg Dk.a e2
      have e5 := e3.symm.trans e4
      exact absurd (congrArg (fun b : ByteArray => b.data.toList) e5) (by decide)
  · rw [ho] at h1; cases h1
  · rw [ho] at h1; cases h1
/-! ### what is spoilt -/
/-- No part of a text is one. -/
theorem part_no {s : Sv} (o : SvO s) {c : Nat} (h : c < (layC s).size) : ¬ parE ((layC s).extract 0 c) = 0 := by
  refine parE_none ?_
  have e : (layC s).extract 0 c = ⟨(layC s).data.take c⟩ := by
    apply ByteArray.ext
    simp
  rw [e]
  exact wy_C.part s c o h
theorem lay_par {s : Sv} (o : SvO s) : parS (layC s) = s ∧ parE (layC s) = 0 := by
  have h := parC_yes o
  exact ⟨by unfold parS; rw [h]; rfl, parE_some h⟩
/-! ### the chapter's examples -/
def d0D : Dk := ⟨⟨#[]⟩, ⟨#[]⟩⟩
theorem d0_none : reaD parC d0D = none := by
  have hn : ∀ t : ByteArray, t.size < 4 → parC t = none := fun t ht => by
    cases h : parC t with
    | none => rfl
    | some s => have := (par_size h).1; omega
  have h1 : parC d0D.a = none := hn _ (by decide)
  have h2 : parC d0D.b = none := hn _ (by decide)
  unfold reaD secD
  rw [h2]
  exact h1
theorem d0_has : hasO d0D = false ∧ hasS d0D = nilD ∧ reaE d0D = 6 := by
  have h1 : hasO d0D = false := by rw [hasO_is, d0_none]; rfl
  refine ⟨h1, by rw [hasS_is, d0_none]; rfl, ?_⟩
  unfold reaE
  rw [h1]
  rfl
theorem lay_ten (s : Sv) : 9 < (layC s).size := by
  have hb := bodD_len s
  have h1 := num_size (bodD s).length (by omega)
  have h3 := lay_len seals_C s
  have h4 : (layC s).size = (slC (insD s)).length := by simp [layC, layB, ByteArray.size]
  have hp : ∀ n : Nat, 1 ≤ (num n).length := fun n => by
    unfold num
    rw [numF]
    split
    · simp
    · simp
  have p1 := hp s.q.toNat; have p2 := hp s.b.toNat; have p3 := hp s.i.toNat; have p4 := hp s.e.toNat; have p5 := hp (s.u + 1).toNat
  have h5 : 5 ≤ (bodD s).length := by
    unfold bodD
    simp only [List.length_append]
    omega
  omega
theorem awake_facts : ∃ (L : ByteArray) (d2 d3 : Dk), teE d0D ⟨0, 7, 0, 0, -1⟩ 9223372036854775807 = 0 ∧ teR d0D ⟨0, 7, 0, 0, -1⟩ 9223372036854775807 = ⟨L, ⟨#[]⟩⟩ ∧ L.size ≤ 64 ∧ L.toList.isEmpty = false ∧
    teE ⟨L, ⟨#[]⟩⟩ ⟨0, 8, 0, 0, 3⟩ 9223372036854775807 = 0 ∧ teR ⟨L, ⟨#[]⟩⟩ ⟨0, 8, 0, 0, 3⟩ 9223372036854775807 = d2 ∧ (d2.a.size ≤ 64 ∧ d2.b.size ≤ 64) ∧ hasS d2 = ⟨2, 8, 0, 0, 3⟩ ∧ reaE d2 = 0 ∧
    teE ⟨L, ⟨#[]⟩⟩ ⟨0, 8, 0, 0, 3⟩ 5 = 0 ∧ teR ⟨L, ⟨#[]⟩⟩ ⟨0, 8, 0, 0, 3⟩ 5 = d3 ∧ (d3.a.size ≤ 64 ∧ d3.b.size ≤ 64) ∧ hasS d3 = ⟨1, 7, 0, 0, -1⟩ ∧ reaE d3 = 0 := by
  obtain ⟨o1, o2, o3⟩ := d0_has
  have f1 : FitS ⟨0, 7, 0, 0, -1⟩ := ⟨by decide, by decide, by decide, by decide, by decide⟩
  have f2 : FitS ⟨0, 8, 0, 0, 3⟩ := ⟨by decide, by decide, by decide, by decide, by decide⟩
  have t1 : teE d0D ⟨0, 7, 0, 0, -1⟩ 9223372036854775807 = 0 := te_is (by decide) (by decide) (by rw [o2]; decide)
  obtain ⟨hA⟩ : Nonempty (∀ t, intD parC d0D t = ⟨t, ⟨#[]⟩⟩) := by
    rcases tea_three d0D with ⟨_, h⟩ | ⟨h, _⟩ | ⟨h, _⟩
    · exact ⟨h⟩
    · rw [o1] at h; cases h
    · rw [o1] at h; cases h
  have hm : ∀ s : Sv, (layC s).size ≤ (9223372036854775807 : Int).toNat := fun s => by
    have := layC_size s
    have e : (9223372036854775807 : Int).toNat = 9223372036854775807 := rfl
    omega
  have r1 : teR d0D ⟨0, 7, 0, 0, -1⟩ 9223372036854775807 = ⟨layC (nexD parC d0D ⟨0, 7, 0, 0, -1⟩), ⟨#[]⟩⟩ := by
    unfold teR
    rw [if_pos t1, tea_same (hm _), hA]
  have n1 : nexD parC d0D ⟨0, 7, 0, 0, -1⟩ = ⟨1, 7, 0, 0, -1⟩ := by rw [nex_is, o2]; rfl
  rw [n1] at r1
  obtain ⟨A, U, T, e1, e2, e3, e4, e5, e6, ⟨e7, e8, e9⟩, e10, e11⟩ := step f1 t1
  have h1 : hasS ⟨layC ⟨1, 7, 0, 0, -1⟩, ⟨#[]⟩⟩ = ⟨1, 7, 0, 0, -1⟩ ∧ reaE ⟨layC ⟨1, 7, 0, 0, -1⟩, ⟨#[]⟩⟩ = 0 := by
    rw [← r1, e2, e8, e9, o2]
    exact ⟨rfl, rfl⟩
  have hs1 := layC_size ⟨1, 7, 0, 0, -1⟩
  have hp1 := layC_pos ⟨1, 7, 0, 0, -1⟩
  have he1 : (layC ⟨1, 7, 0, 0, -1⟩).toList.isEmpty = false := by
    rw [ByteArray.toList_eq]
    cases hl : (layC ⟨1, 7, 0, 0, -1⟩).data.toList with
    | nil =>
      have : (layC ⟨1, 7, 0, 0, -1⟩).size = 0 := by
        show (layC ⟨1, 7, 0, 0, -1⟩).data.size = 0
        rw [← Array.length_toList, hl]
        rfl
      omega
    | cons x l => rfl
  generalize layC ⟨1, 7, 0, 0, -1⟩ = L at *
  have t2 : ∀ c : Int, 0 ≤ c → teE ⟨L, ⟨#[]⟩⟩ ⟨0, 8, 0, 0, 3⟩ c = 0 := fun c hc => te_is hc (by decide) (by rw [h1.1]; decide)
  have z2 : ∀ c, (teR ⟨L, ⟨#[]⟩⟩ ⟨0, 8, 0, 0, 3⟩ c).a.size ≤ 64 ∧ (teR ⟨L, ⟨#[]⟩⟩ ⟨0, 8, 0, 0, 3⟩ c).b.size ≤ 64 := fun c => te_size f2 hs1 (Nat.zero_le _) (Nat.le_refl _)
  obtain ⟨A2, U2, T2, g1, g2, g3, g4, g5, g6, ⟨g7, g8, g9⟩, g10, g11⟩ := step f2 (t2 5 (by decide))
  have hu : ¬ U2 = T2 := by
    obtain ⟨B, hB⟩ := int_pl (⟨L, ⟨#[]⟩⟩ : Dk)
    have x1 : plD A2 ⟨L, ⟨#[]⟩⟩ U2 = plD B ⟨L, ⟨#[]⟩⟩ (cutD (layC (nexD parC ⟨L, ⟨#[]⟩⟩ ⟨0, 8, 0, 0, 3⟩)) 5) := by
      rw [← g1, ← hB]; unfold teR; rw [if_pos (t2 5 (by decide))]; rfl
    have x2 : plD A2 ⟨L, ⟨#[]⟩⟩ T2 = plD B ⟨L, ⟨#[]⟩⟩ (layC (nexD parC ⟨L, ⟨#[]⟩⟩ ⟨0, 8, 0, 0, 3⟩)) := by
      rw [← g2, ← hB]; unfold teR; rw [if_pos (t2 _ (by decide))]; exact tea_same (hm _)
    intro h
    rw [h] at x1
    have x3 := x1.symm.trans x2
    have x4 : cutD (layC (nexD parC ⟨L, ⟨#[]⟩⟩ ⟨0, 8, 0, 0, 3⟩)) 5 = layC (nexD parC ⟨L, ⟨#[]⟩⟩ ⟨0, 8, 0, 0, 3⟩) := by
      unfold plD at x3
      split at x3
      · exact congrArg Dk.a x3
      · exact congrArg Dk.b x3
    exact cut_ne (by have := lay_ten (nexD parC ⟨L, ⟨#[]⟩⟩ ⟨0, 8, 0, 0, 3⟩); omega) x4
  rcases g10 with g10 | ⟨_, q1, q2, q3⟩
  · exact absurd g10 hu
  · refine ⟨L, _, _, t1, r1, hs1, he1, t2 _ (by decide), rfl, z2 _, ?_, ?_, t2 _ (by decide), rfl, z2 _, ?_, ?_⟩
    · rw [g2, g8, h1.1]; rfl
    · rw [g2, g9]
    · rw [g1, q2, h1.1]
    · rw [g1, q3, h1.2]
end Go.Proofs.YtlpnhpnigljlnaaDoor
