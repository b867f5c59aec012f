/-
  What is read of a text, as plain data.
-/
import Derived.Test.YtjeepmdklbfgeaaDoorWire
import Derived.Test.YtjeepmdklbfgeaaDoorPlain
namespace Go.Proofs.YtjeepmdklbfgeaaDoor.Pure
open Go.Proofs.YtjeepmdklbfgeaaDoor.W Go.Proofs.YtjeepmdklbfgeaaDoor.W.Pure

/-- A message. -/
structure Mg where
  kd : Int
  fr : Int
  to : Int
  sq : Nat
  wh : Int
  k : Kn
  ns : List Nw
  tb : List Kn
  ep : Nat
  bo : Nat
  ak : Int
  ts : ByteArray
  tn : Nat
  gd : Bool
  deriving DecidableEq
def zm : Mg := ⟨0, 0, 0, 0, 0, z0, [], [], 0, 0, 0, ⟨#[]⟩, 0, false⟩
/-- The parts that a kind has. -/
def pof (k : Int) : List Nat :=
  if k = 1 then [0, 2, 3] else if k = 2 then [0, 1, 3] else if k = 3 then [0, 1, 2, 3] else if k = 4 then [0, 1]
  else if k = 5 then [4] else if k = 6 then [4] else if k = 7 then [5, 6, 7] else if k = 8 then [5, 6, 7] else if k = 9 then [5, 6]
  else if k = 10 then [6, 7] else if k = 11 then [5, 6, 7, 8, 9] else if k = 12 then [8, 9, 10] else []
def isN (n : Int) : Bool := decide (0 ≤ n) && decide (n < 64)
def inName (c : UInt8) : Bool := decide (97 ≤ c.toNat ∧ c.toNat ≤ 122) || decide (48 ≤ c.toNat ∧ c.toNat ≤ 57) || decide (c.toNat = 45)
def nameB (s : ByteArray) : Bool := s.data.toList.all inName && (decide (1 ≤ s.size) && decide (s.size ≤ 20))
def mayNs (l : List Nw) : Bool := decide (l.length ≤ 8) && l.all oneB
/-- May part i be? -/
def mayP : Nat → Mg → Bool
  | 1, m => isN m.wh
  | 2, m => mayK m.k
  | 3, m => mayNs m.ns
  | 4, m => mayT m.tb
  | 7, m => decide (0 ≤ m.ak) && decide (m.ak ≤ 1099511627776)
  | 8, m => nameB m.ts
  | _, _ => true
/-- Is it zero? -/
def zeroP : Nat → Mg → Bool
  | 0, m => decide (m.sq = 0)
  | 1, m => decide (m.wh = 0)
  | 2, m => decide (m.k = z0)
  | 3, m => decide (m.ns = [])
  | 4, m => decide (m.tb = [])
  | 5, m => decide (m.ep = 0)
  | 6, m => decide (m.bo = 0)
  | 7, m => decide (m.ak = 0)
  | 8, m => decide (m.ts = ⟨#[]⟩)
  | 9, m => decide (m.tn = 0)
  | 10, m => !m.gd
  | _, _ => true
def fitsP (m : Mg) (i : Nat) : Bool := if (pof m.kd).contains i = true then mayP i m else zeroP i m
def headB (m : Mg) : Bool := !(pof m.kd).isEmpty && (isN m.fr && (isN m.to && !decide (m.fr = m.to)))
def mayM (m : Mg) : Bool := headB m && (List.range 11).all (fitsP m)
/-- The numbers are such as may be in 64 bits. -/
structure Wf (m : Mg) : Prop where
  sq : m.sq < 2 ^ 64
  ep : m.ep < 2 ^ 64
  bo : m.bo < 2 ^ 64
  tn : m.tn < 2 ^ 64
  k : Fit m.k
  ns : ∀ y ∈ m.ns, Fit y.k
  tb : ∀ y ∈ m.tb, Fit y

/-! ### octets -/
def layK (x : Kn) : List UInt8 := num x.i.toNat ++ num x.s.toNat
def layN (x : Nw) : List UInt8 := num x.w.toNat ++ layK x.k
def layP : Nat → Mg → List UInt8
  | 0, m => num m.sq
  | 1, m => num m.wh.toNat
  | 2, m => layK m.k
  | 3, m => num m.ns.length ++ m.ns.flatMap layN
  | 4, m => num m.tb.length ++ m.tb.flatMap layK
  | 5, m => num m.ep
  | 6, m => num m.bo
  | 7, m => num m.ak.toNat
  | 8, m => num m.ts.size ++ m.ts.data.toList
  | 9, m => num m.tn
  | 10, m => num (if m.gd = true then 1 else 0)
  | _, _ => []
def layH (m : Mg) : List UInt8 := num m.kd.toNat ++ (num m.fr.toNat ++ num m.to.toNat)
def enc (m : Mg) : List UInt8 := layH m ++ (pof m.kd).flatMap fun i => layP i m

/-! ### taking -/
/-- From where on is taken, and whether something was wrong. -/
structure Tk where
  p : Nat
  b : Bool
def tnum (s : ByteArray) (most : Nat) (t : Tk) : Nat × Tk :=
  if (takeL (s.data.toList.drop t.p) 0 0).2.2 ≠ 0 ∨ most < (takeL (s.data.toList.drop t.p) 0 0).1 then (0, ⟨t.p, true⟩)
  else ((takeL (s.data.toList.drop t.p) 0 0).1, ⟨t.p + (takeL (s.data.toList.drop t.p) 0 0).2.1, t.b⟩)
def tkn (s : ByteArray) (t : Tk) : Kn × Tk := (⟨(tnum s 18446744073709551615 t).1, (tnum s 3 (tnum s 18446744073709551615 t).2).1⟩, (tnum s 3 (tnum s 18446744073709551615 t).2).2)
def tnw (s : ByteArray) (t : Tk) : Nw × Tk := (⟨(tnum s 63 t).1, (tkn s (tnum s 63 t).2).1.i, (tkn s (tnum s 63 t).2).1.s⟩, (tkn s (tnum s 63 t).2).2)
def tls {α : Type} (f : Tk → α × Tk) : Nat → Tk → List α × Tk
  | 0, t => ([], t)
  | n + 1, t => ((tls f n t).1 ++ [(f (tls f n t).2).1], (f (tls f n t).2).2)
def tnws (s : ByteArray) (t : Tk) : List Nw × Tk := tls (tnw s) (tnum s 8 t).1 (tnum s 8 t).2
def ttbs (s : ByteArray) (t : Tk) : List Kn × Tk := tls (tkn s) (tnum s 64 t).1 (tnum s 64 t).2
def ttx (s : ByteArray) (t : Tk) : ByteArray × Tk :=
  if (textL s t.p (takeL (s.data.toList.drop t.p) 0 0)).2.2 ≠ 0 then (⟨#[]⟩, ⟨t.p, true⟩)
  else ((textL s t.p (takeL (s.data.toList.drop t.p) 0 0)).1, ⟨(textL s t.p (takeL (s.data.toList.drop t.p) 0 0)).2.1, t.b⟩)
def takeP (s : ByteArray) : Nat → Mg → Tk → Mg × Tk
  | 0, m, t => ({ m with sq := (tnum s 18446744073709551615 t).1 }, (tnum s 18446744073709551615 t).2)
  | 1, m, t => ({ m with wh := (tnum s 63 t).1 }, (tnum s 63 t).2)
  | 2, m, t => ({ m with k := (tkn s t).1 }, (tkn s t).2)
  | 3, m, t => ({ m with ns := (tnws s t).1 }, (tnws s t).2)
  | 4, m, t => ({ m with tb := (ttbs s t).1 }, (ttbs s t).2)
  | 5, m, t => ({ m with ep := (tnum s 18446744073709551615 t).1 }, (tnum s 18446744073709551615 t).2)
  | 6, m, t => ({ m with bo := (tnum s 18446744073709551615 t).1 }, (tnum s 18446744073709551615 t).2)
  | 7, m, t => ({ m with ak := (tnum s 1099511627776 t).1 }, (tnum s 1099511627776 t).2)
  | 8, m, t => ({ m with ts := (ttx s t).1 }, (ttx s t).2)
  | 9, m, t => ({ m with tn := (tnum s 18446744073709551615 t).1 }, (tnum s 18446744073709551615 t).2)
  | 10, m, t => ({ m with gd := decide ((tnum s 1 t).1 = 1) }, (tnum s 1 t).2)
  | _, m, t => (m, t)
def t0 : Tk := ⟨0, false⟩
def decH (s : ByteArray) : Mg × Tk :=
  ({ zm with kd := (tnum s 12 t0).1, fr := (tnum s 63 (tnum s 12 t0).2).1, to := (tnum s 63 (tnum s 63 (tnum s 12 t0).2).2).1 }, (tnum s 63 (tnum s 63 (tnum s 12 t0).2).2).2)
def decL (s : ByteArray) (L : List Nat) (x : Mg × Tk) : Mg × Tk := L.foldl (fun x i => takeP s i x.1 x.2) x
def dec (s : ByteArray) : Mg × Tk := decL s (pof (decH s).1.kd) (decH s)

/-! ### what stands at a place -/
/-- From a on p stands in s. -/
def Pre (s : ByteArray) (a : Nat) (p : List UInt8) : Prop := ∃ r, s.data.toList.drop a = p ++ r
theorem Pre.nil (s : ByteArray) (a : Nat) : Pre s a [] := ⟨_, rfl⟩
theorem Pre.app {s : ByteArray} {a : Nat} {p q : List UInt8} : Pre s a (p ++ q) ↔ Pre s a p ∧ Pre s (a + p.length) q := by
  constructor
  · rintro ⟨r, h⟩
    refine ⟨⟨q ++ r, by rw [h, List.append_assoc]⟩, r, ?_⟩
    rw [← List.drop_drop, h, List.append_assoc, List.drop_left]
  · rintro ⟨⟨r, h⟩, r', h'⟩
    rw [← List.drop_drop, h, List.drop_left] at h'
    exact ⟨r', by rw [h, h', List.append_assoc]⟩
theorem size_list (s : ByteArray) : s.data.toList.length = s.size := by simp
theorem Pre.le {s : ByteArray} {a : Nat} {p : List UInt8} (h : Pre s a p) (ha : a ≤ s.size) : a + p.length ≤ s.size := by
  obtain ⟨r, h⟩ := h
  have h1 := congrArg List.length h
  rw [List.length_drop, size_list, List.length_append] at h1
  omega
theorem Pre.all {s : ByteArray} {p : List UInt8} (h : Pre s 0 p) (hl : s.size ≤ p.length) : s.data.toList = p := by
  obtain ⟨r, h⟩ := h
  rw [List.drop_zero] at h
  have h1 := congrArg List.length h
  rw [size_list, List.length_append] at h1
  have : r = [] := List.eq_nil_of_length_eq_zero (by omega)
  rw [h, this, List.append_nil]

/-- Behind what was taken without a fault stands p. -/
def Seg (s : ByteArray) (t t' : Tk) (p : List UInt8) : Prop := t'.b = false → t.p ≤ s.size → t.b = false ∧ Pre s t.p p ∧ t'.p = t.p + p.length ∧ t'.p ≤ s.size
theorem Seg.refl (s : ByteArray) (t : Tk) : Seg s t t [] := fun h h' => ⟨h, Pre.nil _ _, rfl, h'⟩
theorem Seg.trans {s : ByteArray} {a b c : Tk} {p q : List UInt8} (h : Seg s a b p) (k : Seg s b c q) (hb : a.p ≤ s.size → b.p ≤ s.size) : Seg s a c (p ++ q) := fun hc ha => by
  obtain ⟨b1, b2, b3, b4⟩ := k hc (hb ha)
  obtain ⟨a1, a2, a3, a4⟩ := h b1 ha
  refine ⟨a1, Pre.app.2 ⟨a2, by rw [← a3]; exact b2⟩, by rw [b3, a3, List.length_append, Nat.add_assoc], b4⟩

section
variable (s : ByteArray)
theorem tnum_le (most : Nat) (t : Tk) (h : t.p ≤ s.size) : (tnum s most t).2.p ≤ s.size := by
  unfold tnum
  split
  · exact h
  · rename_i hn
    have hz : (takeL (s.data.toList.drop t.p) 0 0).2.2 = 0 := Decidable.not_not.1 fun e => hn (.inl e)
    have := (takeL_fits (s.data.toList.drop t.p) 0 0 hz).1
    rw [List.length_drop, size_list] at this
    show t.p + _ ≤ _
    omega
theorem tnum_most (most : Nat) (t : Tk) : (tnum s most t).1 ≤ most := by
  unfold tnum
  split
  · exact Nat.zero_le _
  · rename_i hn
    exact Nat.le_of_not_lt fun e => hn (.inr e)
theorem take_eta (r : Nat × Nat × Nat) (h : r.2.2 = 0) : r = (r.1, r.2.1, 0) := by rw [← h]
theorem tnum_small (most : Nat) (t : Tk) : (tnum s most t).1 < 2 ^ 64 := by
  unfold tnum
  split
  · exact Nat.two_pow_pos 64
  · rename_i hn
    have hz : (takeL (s.data.toList.drop t.p) 0 0).2.2 = 0 := Decidable.not_not.1 fun e => hn (.inl e)
    exact take_small _ _ _ (take_eta _ hz)
theorem tnum_seg (most : Nat) (t : Tk) : Seg s t (tnum s most t).2 (num (tnum s most t).1) := by
  intro hb ha
  have hle := tnum_le s most t ha
  unfold tnum at hb hle ⊢
  split at hb
  · cases hb
  · rename_i hn
    rw [if_neg hn] at hle ⊢
    have hz : (takeL (s.data.toList.drop t.p) 0 0).2.2 = 0 := Decidable.not_not.1 fun e => hn (.inl e)
    obtain ⟨h1, h2, h3⟩ := back_num _ _ _ (take_eta _ hz)
    refine ⟨hb, ⟨(s.data.toList.drop t.p).drop (takeL (s.data.toList.drop t.p) 0 0).2.1, ?_⟩, ?_, hle⟩
    · rw [h3, List.take_append_drop]
    · show t.p + _ = t.p + _
      rw [h3, List.length_take]
      omega
theorem tnum_pre {most n a : Nat} {b : Bool} (hp : Pre s a (num n)) (hn : n < 2 ^ 64) (hm : n ≤ most) : tnum s most ⟨a, b⟩ = (n, ⟨a + (num n).length, b⟩) := by
  obtain ⟨r, h⟩ := hp
  unfold tnum
  show (if (takeL (s.data.toList.drop a) 0 0).2.2 ≠ 0 ∨ most < (takeL (s.data.toList.drop a) 0 0).1 then _ else _) = _
  rw [h, take_num n r hn, if_neg (by simp; omega)]
theorem tkn_le (t : Tk) (h : t.p ≤ s.size) : (tkn s t).2.p ≤ s.size := tnum_le s _ _ (tnum_le s _ _ h)
theorem tnw_le (t : Tk) (h : t.p ≤ s.size) : (tnw s t).2.p ≤ s.size := tkn_le s _ (tnum_le s _ _ h)
theorem tkn_fit (t : Tk) : Fit (tkn s t).1 := by
  have := tnum_most s 18446744073709551615 t
  exact ⟨Int.natCast_nonneg _, by show ((_ : Nat) : Int) ≤ _; omega⟩
theorem tkn_may (t : Tk) : mayK (tkn s t).1 = true := by
  have := tnum_most s 3 (tnum s 18446744073709551615 t).2
  rw [mayK_iff]
  exact ⟨Int.natCast_nonneg _, by show ((_ : Nat) : Int) ≤ _; omega⟩
theorem tkn_seg (t : Tk) : Seg s t (tkn s t).2 (layK (tkn s t).1) :=
  (tnum_seg s _ t).trans (tnum_seg s _ _) (tnum_le s _ t)
theorem tnw_seg (t : Tk) : Seg s t (tnw s t).2 (layN (tnw s t).1) :=
  (tnum_seg s _ t).trans (tkn_seg s _) (tnum_le s _ t)
theorem tls_le {α : Type} (f : Tk → α × Tk) (hf : ∀ t : Tk, t.p ≤ s.size → (f t).2.p ≤ s.size) : ∀ (n : Nat) (t : Tk), t.p ≤ s.size → (tls f n t).2.p ≤ s.size
  | 0, _, h => h
  | n + 1, t, h => hf _ (tls_le f hf n t h)
theorem tls_len {α : Type} (f : Tk → α × Tk) : ∀ (n : Nat) (t : Tk), (tls f n t).1.length = n
  | 0, _ => rfl
  | n + 1, t => by
    show ((tls f n t).1 ++ [_]).length = _
    rw [List.length_append, tls_len f n t]; rfl
theorem tls_seg {α : Type} (f : Tk → α × Tk) (lay : α → List UInt8) (hf : ∀ t : Tk, t.p ≤ s.size → (f t).2.p ≤ s.size) (hs : ∀ t, Seg s t (f t).2 (lay (f t).1)) : ∀ (n : Nat) (t : Tk), Seg s t (tls f n t).2 ((tls f n t).1.flatMap lay)
  | 0, t => Seg.refl s t
  | n + 1, t => by
    have h := (tls_seg f lay hf hs n t).trans (hs (tls f n t).2) (tls_le s f hf n t)
    show Seg s t (f (tls f n t).2).2 (((tls f n t).1 ++ [_]).flatMap lay)
    rw [List.flatMap_append]
    simpa using h
theorem tls_all {α : Type} (f : Tk → α × Tk) (p : α → Prop) (hf : ∀ t, p (f t).1) : ∀ (n : Nat) (t : Tk), ∀ x ∈ (tls f n t).1, p x
  | 0, _, _, h => by simp [tls] at h
  | n + 1, t, x, h => by
    have h' : x ∈ (tls f n t).1 ++ [(f (tls f n t).2).1] := h
    rcases List.mem_append.1 h' with h1 | h1
    · exact tls_all f p hf n t x h1
    · rw [List.mem_singleton.1 h1]; exact hf _
/-- What stands there is taken, one behind the other. -/
theorem tls_pre {α : Type} (f : Tk → α × Tk) (lay : α → List UInt8) (xs : List α) (hs : ∀ x ∈ xs, ∀ a b, Pre s a (lay x) → f ⟨a, b⟩ = (x, ⟨a + (lay x).length, b⟩)) :
    ∀ (n a : Nat) (b : Bool), n ≤ xs.length → Pre s a ((xs.take n).flatMap lay) → tls f n ⟨a, b⟩ = (xs.take n, ⟨a + ((xs.take n).flatMap lay).length, b⟩)
  | 0, a, b, _, _ => by simp [tls]
  | n + 1, a, b, hn, h => by
    have hx : n < xs.length := by omega
    rw [List.take_succ_eq_append_getElem hx, List.flatMap_append] at h ⊢
    obtain ⟨h1, h2⟩ := Pre.app.1 h
    have ih := tls_pre f lay xs hs n a b (by omega) h1
    have h2' : Pre s (a + ((xs.take n).flatMap lay).length) (lay xs[n]) := by simpa using h2
    have hf := hs xs[n] (List.getElem_mem hx) _ b h2'
    unfold tls
    rw [ih]
    simp only []
    rw [hf]
    simp [Nat.add_assoc]
end
end Go.Proofs.YtjeepmdklbfgeaaDoor.Pure

namespace Go.Proofs.YtjeepmdklbfgeaaDoor.Pure
open Go.Proofs.YtjeepmdklbfgeaaDoor.W Go.Proofs.YtjeepmdklbfgeaaDoor.W.Pure

theorem kinds (k : Int) : (k = 1 ∨ k = 2 ∨ k = 3 ∨ k = 4 ∨ k = 5 ∨ k = 6 ∨ k = 7 ∨ k = 8 ∨ k = 9 ∨ k = 10 ∨ k = 11 ∨ k = 12) ∨ (¬ (1 ≤ k ∧ k ≤ 12) ∧ pof k = []) := by
  by_cases h : 1 ≤ k ∧ k ≤ 12
  · left; omega
  · right
    refine ⟨h, ?_⟩
    have e1 : ¬ k = 1 := by omega
    have e2 : ¬ k = 2 := by omega
    have e3 : ¬ k = 3 := by omega
    have e4 : ¬ k = 4 := by omega
    have e5 : ¬ k = 5 := by omega
    have e6 : ¬ k = 6 := by omega
    have e7 : ¬ k = 7 := by omega
    have e8 : ¬ k = 8 := by omega
    have e9 : ¬ k = 9 := by omega
    have e10 : ¬ k = 10 := by omega
    have e11 : ¬ k = 11 := by omega
    have e12 : ¬ k = 12 := by omega
    simp [pof, e1, e2, e3, e4, e5, e6, e7, e8, e9, e10, e11, e12]
theorem list_of (s : ByteArray) : ∃ l : List UInt8, s = ⟨l.toArray⟩ := ⟨s.data.toList, by simp⟩
theorem ba_ext {a b : ByteArray} (h : a.data.toList = b.data.toList) : a = b := by
  obtain ⟨l, rfl⟩ := list_of a
  obtain ⟨l', rfl⟩ := list_of b
  simp at h
  rw [h]
theorem ext_list (s : ByteArray) (a b : Nat) : (s.extract a b).data.toList = (s.data.toList.drop a).take (b - a) := by
  obtain ⟨l, rfl⟩ := list_of s
  rw [ByteArray.extract_mk]
section
variable (s : ByteArray)
theorem ttx_cases (t : Tk) (h : ¬ (textL s t.p (takeL (s.data.toList.drop t.p) 0 0)).2.2 ≠ 0) : ∃ n p : Nat, takeL (s.data.toList.drop t.p) 0 0 = (n, p, 0) ∧ n ≤ 200 ∧ t.p + p + n ≤ s.size ∧ textL s t.p (takeL (s.data.toList.drop t.p) 0 0) = (s.extract (t.p + p) (t.p + p + n), t.p + p + n, 0) := by
  rcases hr : takeL (s.data.toList.drop t.p) 0 0 with ⟨n, p, k⟩
  rw [hr] at h
  unfold textL at h ⊢
  split at h
  · rename_i hk; exact absurd hk h
  · rename_i hk
    have hk0 : k = 0 := Decidable.not_not.1 hk
    subst hk0
    rw [if_neg hk]
    split at h
    · simp at h
    · rename_i h2
      rw [if_neg h2]
      split at h
      · simp at h
      · rename_i h3
        rw [if_neg h3]
        exact ⟨n, p, rfl, by simpa using h2, by simpa using h3, rfl⟩
theorem ttx_le (t : Tk) (h : t.p ≤ s.size) : (ttx s t).2.p ≤ s.size := by
  unfold ttx
  split
  · exact h
  · rename_i hn
    obtain ⟨n, p, _, _, h3, h4⟩ := ttx_cases s t hn
    rw [h4]; exact h3
theorem ttx_seg (t : Tk) : Seg s t (ttx s t).2 (num (ttx s t).1.size ++ (ttx s t).1.data.toList) := by
  intro hb ha
  unfold ttx at hb ⊢
  split at hb
  · cases hb
  · rename_i hn
    rw [if_neg hn]
    obtain ⟨n, p, h1, h2, h3, h4⟩ := ttx_cases s t hn
    rw [h4]
    obtain ⟨b1, b2, b3⟩ := back_num _ _ _ h1
    have hsz : (s.extract (t.p + p) (t.p + p + n)).size = n := by rw [ByteArray.size_extract]; omega
    have hl : (num n).length = p := by rw [b3, List.length_take]; omega
    simp only [hsz]
    refine ⟨hb, Pre.app.2 ⟨⟨(s.data.toList.drop t.p).drop p, ?_⟩, ?_⟩, ?_, h3⟩
    · rw [b3, List.take_append_drop]
    · rw [hl, ext_list]
      exact ⟨(s.data.toList.drop (t.p + p)).drop (t.p + p + n - (t.p + p)), by rw [List.take_append_drop]⟩
    · rw [List.length_append, hl, size_list, hsz]; omega
theorem ttx_pre {x : ByteArray} {a : Nat} {b : Bool} (ha : a ≤ s.size) (hp : Pre s a (num x.size ++ x.data.toList)) (hx : x.size ≤ 200) : ttx s ⟨a, b⟩ = (x, ⟨a + (num x.size ++ x.data.toList).length, b⟩) := by
  have hle := hp.le ha
  obtain ⟨h1, h2⟩ := Pre.app.1 hp
  obtain ⟨r, h1⟩ := h1
  have ht : takeL (s.data.toList.drop a) 0 0 = (x.size, (num x.size).length, 0) := by rw [h1]; exact take_num _ _ (by omega)
  rw [List.length_append, size_list] at hle ⊢
  have hT : textL s a (x.size, (num x.size).length, 0) = (s.extract (a + (num x.size).length) (a + (num x.size).length + x.size), a + (num x.size).length + x.size, 0) := by
    unfold textL
    rw [if_neg (by simp), if_neg (by simpa using hx), if_neg (by simp; omega)]
  unfold ttx
  simp only [ht, hT]
  rw [if_neg (by simp)]
  have e : s.extract (a + (num x.size).length) (a + (num x.size).length + x.size) = x := by
    obtain ⟨r', h2⟩ := h2
    apply ba_ext
    rw [ext_list, h2, show a + (num x.size).length + x.size - (a + (num x.size).length) = x.data.toList.length by rw [size_list]; omega, List.take_left]
  rw [e]
  simp [Nat.add_assoc]

theorem tnws_seg (t : Tk) : Seg s t (tnws s t).2 (num (tnws s t).1.length ++ (tnws s t).1.flatMap layN) := by
  have h := (tnum_seg s 8 t).trans (tls_seg s (tnw s) layN (tnw_le s) (tnw_seg s) (tnum s 8 t).1 (tnum s 8 t).2) (tnum_le s _ t)
  unfold tnws
  rw [tls_len]; exact h
theorem ttbs_seg (t : Tk) : Seg s t (ttbs s t).2 (num (ttbs s t).1.length ++ (ttbs s t).1.flatMap layK) := by
  have h := (tnum_seg s 64 t).trans (tls_seg s (tkn s) layK (tkn_le s) (tkn_seg s) (tnum s 64 t).1 (tnum s 64 t).2) (tnum_le s _ t)
  unfold ttbs
  rw [tls_len]; exact h
theorem good_num (n : Nat) (h : n ≤ 1) : (if decide (n = 1) = true then 1 else 0) = n := by
  rcases (by omega : n = 0 ∨ n = 1) with rfl | rfl <;> rfl
theorem part_le (i : Nat) (m : Mg) (t : Tk) (h : t.p ≤ s.size) : (takeP s i m t).2.p ≤ s.size := by
  unfold takeP
  split
  case h_1 => exact tnum_le s _ t h
  case h_2 => exact tnum_le s _ t h
  case h_3 => exact tkn_le s t h
  case h_4 => exact tls_le s _ (tnw_le s) _ _ (tnum_le s _ t h)
  case h_5 => exact tls_le s _ (tkn_le s) _ _ (tnum_le s _ t h)
  case h_6 => exact tnum_le s _ t h
  case h_7 => exact tnum_le s _ t h
  case h_8 => exact tnum_le s _ t h
  case h_9 => exact ttx_le s t h
  case h_10 => exact tnum_le s _ t h
  case h_11 => exact tnum_le s _ t h
  case h_12 => exact h
theorem part_seg (i : Nat) (m : Mg) (t : Tk) : Seg s t (takeP s i m t).2 (layP i (takeP s i m t).1) := by
  match i with
  | 0 => exact tnum_seg s _ t
  | 1 => simpa [takeP, layP] using tnum_seg s 63 t
  | 2 => exact tkn_seg s t
  | 3 => exact tnws_seg s t
  | 4 => exact ttbs_seg s t
  | 5 => exact tnum_seg s _ t
  | 6 => exact tnum_seg s _ t
  | 7 => simpa [takeP, layP] using tnum_seg s 1099511627776 t
  | 8 => exact ttx_seg s t
  | 9 => exact tnum_seg s _ t
  | 10 =>
    have h := tnum_seg s 1 t
    have e := good_num _ (tnum_most s 1 t)
    show Seg s t (tnum s 1 t).2 (num (if decide ((tnum s 1 t).1 = 1) = true then 1 else 0))
    rw [e]; exact h
  | n + 11 => exact Seg.refl s t
theorem part_other (i j : Nat) (m : Mg) (t : Tk) (h : j ≠ i) : layP j (takeP s i m t).1 = layP j m := by
  unfold takeP
  split <;> (unfold layP; split <;> first | rfl | (exfalso; exact h rfl))
theorem part_head (i : Nat) (m : Mg) (t : Tk) : (takeP s i m t).1.kd = m.kd ∧ (takeP s i m t).1.fr = m.fr ∧ (takeP s i m t).1.to = m.to := by
  unfold takeP
  split <;> exact ⟨rfl, rfl, rfl⟩
theorem part_wf (i : Nat) (m : Mg) (t : Tk) (h : Wf m) : Wf (takeP s i m t).1 := by
  obtain ⟨h1, h2, h3, h4, h5, h6, h7⟩ := h
  unfold takeP
  split
  case h_1 => exact ⟨tnum_small s _ t, h2, h3, h4, h5, h6, h7⟩
  case h_2 => exact ⟨h1, h2, h3, h4, h5, h6, h7⟩
  case h_3 => exact ⟨h1, h2, h3, h4, tkn_fit s t, h6, h7⟩
  case h_4 => exact ⟨h1, h2, h3, h4, h5, tls_all (tnw s) (fun y => Fit y.k) (fun t => tkn_fit s _) _ _, h7⟩
  case h_5 => exact ⟨h1, h2, h3, h4, h5, h6, tls_all (tkn s) Fit (tkn_fit s) _ _⟩
  case h_6 => exact ⟨h1, tnum_small s _ t, h3, h4, h5, h6, h7⟩
  case h_7 => exact ⟨h1, h2, tnum_small s _ t, h4, h5, h6, h7⟩
  case h_8 => exact ⟨h1, h2, h3, h4, h5, h6, h7⟩
  case h_9 => exact ⟨h1, h2, h3, h4, h5, h6, h7⟩
  case h_10 => exact ⟨h1, h2, h3, tnum_small s _ t, h5, h6, h7⟩
  case h_11 => exact ⟨h1, h2, h3, h4, h5, h6, h7⟩
  case h_12 => exact ⟨h1, h2, h3, h4, h5, h6, h7⟩
theorem wf_zm : Wf zm := ⟨by decide, by decide, by decide, by decide, fit_z0, fun _ h => by simp [zm] at h, fun _ h => by simp [zm] at h⟩

theorem decL_le : ∀ (L : List Nat) (x : Mg × Tk), x.2.p ≤ s.size → (decL s L x).2.p ≤ s.size
  | [], _, h => h
  | i :: L, x, h => decL_le L _ (part_le s i x.1 x.2 h)
theorem decL_wf : ∀ (L : List Nat) (x : Mg × Tk), Wf x.1 → Wf (decL s L x).1
  | [], _, h => h
  | i :: L, x, h => decL_wf L _ (part_wf s i x.1 x.2 h)
theorem decL_head : ∀ (L : List Nat) (x : Mg × Tk), (decL s L x).1.kd = x.1.kd ∧ (decL s L x).1.fr = x.1.fr ∧ (decL s L x).1.to = x.1.to
  | [], _ => ⟨rfl, rfl, rfl⟩
  | i :: L, x => by
    obtain ⟨a, b, c⟩ := decL_head L (takeP s i x.1 x.2)
    obtain ⟨a', b', c'⟩ := part_head s i x.1 x.2
    exact ⟨a.trans a', b.trans b', c.trans c'⟩
theorem decL_other : ∀ (L : List Nat) (x : Mg × Tk) (j : Nat), j ∉ L → layP j (decL s L x).1 = layP j x.1
  | [], _, _, _ => rfl
  | i :: L, x, j, h => by
    rw [List.mem_cons, not_or] at h
    exact (decL_other L _ j h.2).trans (part_other s i j x.1 x.2 h.1)
theorem decL_seg : ∀ (L : List Nat) (x : Mg × Tk), L.Nodup → Seg s x.2 (decL s L x).2 (L.flatMap fun i => layP i (decL s L x).1)
  | [], x, _ => Seg.refl s x.2
  | i :: L, x, h => by
    rw [List.nodup_cons] at h
    have h1 := part_seg s i x.1 x.2
    have h2 := decL_seg L (takeP s i x.1 x.2) h.2
    have h3 := h1.trans h2 (part_le s i x.1 x.2)
    have e := decL_other s L (takeP s i x.1 x.2) i h.1
    rw [← e] at h3
    exact h3
theorem pof_nodup (k : Int) : (pof k).Nodup := by
  rcases kinds k with (rfl | rfl | rfl | rfl | rfl | rfl | rfl | rfl | rfl | rfl | rfl | rfl) | ⟨_, h⟩
  all_goals first | decide | (rw [h]; decide)
theorem decH_seg : Seg s t0 (decH s).2 (layH (decH s).1) := by
  have h := (tnum_seg s 12 t0).trans ((tnum_seg s 63 (tnum s 12 t0).2).trans (tnum_seg s 63 _) (tnum_le s _ _)) (tnum_le s _ _)
  simpa [decH, layH] using h
theorem decH_le : (decH s).2.p ≤ s.size := tnum_le s _ _ (tnum_le s _ _ (tnum_le s _ _ (Nat.zero_le _)))
theorem dec_le : (dec s).2.p ≤ s.size := decL_le s _ _ (decH_le s)
theorem dec_wf : Wf (dec s).1 := decL_wf s _ _ ⟨show (0 : Nat) < 2 ^ 64 by decide, show (0 : Nat) < 2 ^ 64 by decide, show (0 : Nat) < 2 ^ 64 by decide, show (0 : Nat) < 2 ^ 64 by decide, fit_z0, fun _ h => by simp [decH, zm] at h, fun _ h => by simp [decH, zm] at h⟩
/-- What was taken stands there. -/
theorem dec_seg (hb : (dec s).2.b = false) : Pre s 0 (enc (dec s).1) ∧ (dec s).2.p = (enc (dec s).1).length := by
  have h1 := decL_seg s (pof (decH s).1.kd) (decH s) (pof_nodup _)
  have hd := decL_head s (pof (decH s).1.kd) (decH s)
  have h2 := (decH_seg s).trans h1 (fun _ => decH_le s)
  obtain ⟨_, a, b, _⟩ := h2 hb (Nat.zero_le _)
  have e : enc (dec s).1 = layH (decH s).1 ++ (pof (decH s).1.kd).flatMap fun i => layP i (decL s (pof (decH s).1.kd) (decH s)).1 := by
    unfold enc layH dec
    rw [hd.1, hd.2.1, hd.2.2]
  rw [e]
  exact ⟨a, by rw [← Nat.zero_add (List.length _)]; exact b⟩
theorem dec_all (hb : (dec s).2.b = false) (hp : ¬ (dec s).2.p < s.size) : s.data.toList = enc (dec s).1 := by
  obtain ⟨h1, h2⟩ := dec_seg s hb
  exact h1.all (by omega)
end

/-- Part i of x laid into m. -/
def putP : Nat → Mg → Mg → Mg
  | 0, x, m => { m with sq := x.sq }
  | 1, x, m => { m with wh := x.wh }
  | 2, x, m => { m with k := x.k }
  | 3, x, m => { m with ns := x.ns }
  | 4, x, m => { m with tb := x.tb }
  | 5, x, m => { m with ep := x.ep }
  | 6, x, m => { m with bo := x.bo }
  | 7, x, m => { m with ak := x.ak }
  | 8, x, m => { m with ts := x.ts }
  | 9, x, m => { m with tn := x.tn }
  | 10, x, m => { m with gd := x.gd }
  | _, _, m => m
theorem isN_iff (n : Int) : isN n = true ↔ 0 ≤ n ∧ n < 64 := by simp [isN]
theorem nat_of {n : Int} (h : 0 ≤ n) : ((n.toNat : Nat) : Int) = n := Int.toNat_of_nonneg h
section
variable (s : ByteArray)
theorem tkn_pre {x : Kn} (hf : Fit x) (hm : mayK x = true) {a : Nat} {b : Bool} (hp : Pre s a (layK x)) : tkn s ⟨a, b⟩ = (x, ⟨a + (layK x).length, b⟩) := by
  obtain ⟨h1, h2⟩ := Pre.app.1 hp
  obtain ⟨f1, f2⟩ := hf
  obtain ⟨m1, m2⟩ := (mayK_iff x).1 hm
  unfold tkn
  rw [tnum_pre s h1 (by omega) (by omega), tnum_pre s h2 (by omega) (by omega)]
  simp only [nat_of f1, nat_of m1, layK, List.length_append, Nat.add_assoc]
theorem tnw_pre {x : Nw} (hf : Fit x.k) (hm : oneB x = true) {a : Nat} {b : Bool} (hp : Pre s a (layN x)) : tnw s ⟨a, b⟩ = (x, ⟨a + (layN x).length, b⟩) := by
  obtain ⟨h1, h2⟩ := Pre.app.1 hp
  obtain ⟨o1, o2, o3, o4⟩ := (oneB_iff x).1 hm
  unfold tnw
  rw [tnum_pre s h1 (by omega) (by omega), tkn_pre s hf (by rw [mayK_iff]; exact ⟨o3, o4⟩) h2]
  simp only [nat_of o1, layN, List.length_append, Nat.add_assoc]
  rfl
theorem part_back (i : Nat) (x m : Mg) (hm : mayP i x = true) (hw : Wf x) {a : Nat} {b : Bool} (ha : a ≤ s.size) (hp : Pre s a (layP i x)) : takeP s i m ⟨a, b⟩ = (putP i x m, ⟨a + (layP i x).length, b⟩) := by
  obtain ⟨w1, w2, w3, w4, w5, w6, w7⟩ := hw
  match i with
  | 0 =>
    have hp' : Pre s a (num x.sq) := hp
    simp only [takeP, tnum_pre s hp' w1 (by omega : x.sq ≤ 18446744073709551615)]; rfl
  | 1 =>
    obtain ⟨h1, h2⟩ := (isN_iff _).1 hm
    have hp' : Pre s a (num x.wh.toNat) := hp
    simp only [takeP, tnum_pre s hp' (by omega) (by omega : x.wh.toNat ≤ 63), nat_of h1]; rfl
  | 2 =>
    have hp' : Pre s a (layK x.k) := hp
    simp only [takeP, tkn_pre s w5 hm hp']; rfl
  | 3 =>
    have hm' : x.ns.length ≤ 8 ∧ ∀ y ∈ x.ns, oneB y = true := by simpa [mayP, mayNs] using hm
    obtain ⟨h1, h2⟩ := Pre.app.1 hp
    have h3 := tls_pre s (tnw s) layN x.ns (fun y hy a b hp => tnw_pre s (w6 y hy) (hm'.2 y hy) hp) x.ns.length (a + (num x.ns.length).length) b (Nat.le_refl _) (by rwa [List.take_length])
    rw [List.take_length] at h3
    simp only [takeP, tnws, tnum_pre s h1 (by omega) hm'.1, h3]
    simp only [putP, layP, List.length_append, Nat.add_assoc]
  | 4 =>
    obtain ⟨m1, m2, m3⟩ := (mayT_iff _).1 hm
    have m4 : ∀ y ∈ x.tb, mayK y = true := by simpa [mayL] using m3
    obtain ⟨h1, h2⟩ := Pre.app.1 hp
    have h3 := tls_pre s (tkn s) layK x.tb (fun y hy a b hp => tkn_pre s (w7 y hy) (m4 y hy) hp) x.tb.length (a + (num x.tb.length).length) b (Nat.le_refl _) (by rwa [List.take_length])
    rw [List.take_length] at h3
    simp only [takeP, ttbs, tnum_pre s h1 (by omega) m2, h3]
    simp only [putP, layP, List.length_append, Nat.add_assoc]
  | 5 =>
    have hp' : Pre s a (num x.ep) := hp
    simp only [takeP, tnum_pre s hp' w2 (by omega : x.ep ≤ 18446744073709551615)]; rfl
  | 6 =>
    have hp' : Pre s a (num x.bo) := hp
    simp only [takeP, tnum_pre s hp' w3 (by omega : x.bo ≤ 18446744073709551615)]; rfl
  | 7 =>
    have hm' : 0 ≤ x.ak ∧ x.ak ≤ 1099511627776 := by simpa [mayP] using hm
    have hp' : Pre s a (num x.ak.toNat) := hp
    simp only [takeP, tnum_pre s hp' (by omega) (by omega : x.ak.toNat ≤ 1099511627776), nat_of hm'.1]; rfl
  | 8 =>
    have hm' : x.ts.size ≤ 20 := by
      simp [mayP, nameB] at hm; exact hm.2.2
    have hp' : Pre s a (num x.ts.size ++ x.ts.data.toList) := hp
    simp only [takeP, ttx_pre s ha hp' (by omega)]; rfl
  | 9 =>
    have hp' : Pre s a (num x.tn) := hp
    simp only [takeP, tnum_pre s hp' w4 (by omega : x.tn ≤ 18446744073709551615)]; rfl
  | 10 =>
    have e : tnum s 1 ⟨a, b⟩ = ((if x.gd = true then 1 else 0), ⟨a + (layP 10 x).length, b⟩) := tnum_pre s hp (by split <;> decide) (by split <;> decide)
    have e2 : decide ((if x.gd = true then 1 else 0) = 1) = x.gd := by rcases x.gd with _ | _ <;> rfl
    simp only [takeP, e, e2]
    rfl
  | n + 11 => rfl
theorem decL_back (x : Mg) (hw : Wf x) : ∀ (L : List Nat) (m : Mg) (a : Nat) (b : Bool), (∀ i ∈ L, mayP i x = true) → a ≤ s.size → Pre s a (L.flatMap fun i => layP i x) →
    decL s L (m, ⟨a, b⟩) = (L.foldl (fun m i => putP i x m) m, ⟨a + (L.flatMap fun i => layP i x).length, b⟩)
  | [], _, _, _, _, _, _ => rfl
  | i :: L, m, a, b, hL, ha, hp => by
    rw [List.flatMap_cons] at hp ⊢
    obtain ⟨h1, h2⟩ := Pre.app.1 hp
    show decL s L (takeP s i m ⟨a, b⟩) = _
    rw [part_back s i x m (hL i (by simp)) hw ha h1, decL_back x hw L _ _ b (fun j hj => hL j (by simp [hj])) (h1.le ha) h2, List.length_append, Nat.add_assoc]
    rfl
end
theorem may_kind {m : Mg} (h : mayM m = true) : m.kd = 1 ∨ m.kd = 2 ∨ m.kd = 3 ∨ m.kd = 4 ∨ m.kd = 5 ∨ m.kd = 6 ∨ m.kd = 7 ∨ m.kd = 8 ∨ m.kd = 9 ∨ m.kd = 10 ∨ m.kd = 11 ∨ m.kd = 12 := by
  rcases kinds m.kd with h1 | ⟨_, h1⟩
  · exact h1
  · unfold mayM headB at h; rw [h1] at h; simp at h
theorem may_fits {m : Mg} (h : mayM m = true) (i : Nat) (hi : i < 11) : fitsP m i = true := by
  unfold mayM at h
  rw [Bool.and_eq_true] at h
  exact List.all_eq_true.1 h.2 i (List.mem_range.2 hi)
theorem pof_lt (k : Int) : ∀ i ∈ pof k, i < 11 := by
  rcases kinds k with (rfl | rfl | rfl | rfl | rfl | rfl | rfl | rfl | rfl | rfl | rfl | rfl) | ⟨_, h⟩
  all_goals first | decide | (rw [h]; decide)
theorem may_parts {m : Mg} (h : mayM m = true) (i : Nat) (hi : i ∈ pof m.kd) : mayP i m = true := by
  have := may_fits h i (pof_lt _ i hi)
  unfold fitsP at this
  rwa [if_pos (by simpa using hi)] at this
theorem may_zero {m : Mg} (h : mayM m = true) (i : Nat) (h11 : i < 11) (hi : ¬ i ∈ pof m.kd) : zeroP i m = true := by
  have := may_fits h i h11
  unfold fitsP at this
  rwa [if_neg (by simpa using hi)] at this
/-- A message is what its kind's parts make. -/
theorem put_all {m : Mg} (h : mayM m = true) : (pof m.kd).foldl (fun x i => putP i m x) { zm with kd := m.kd, fr := m.fr, to := m.to } = m := by
  have hz := may_zero h
  have hk := may_kind h
  clear h
  obtain ⟨kd, fr, to, sq, wh, k, ns, tb, ep, bo, ak, ts, tn, gd⟩ := m
  simp only at hk
  have z0' := hz 0 (by decide)
  have z1 := hz 1 (by decide)
  have z2 := hz 2 (by decide)
  have z3 := hz 3 (by decide)
  have z4 := hz 4 (by decide)
  have z5 := hz 5 (by decide)
  have z6 := hz 6 (by decide)
  have z7 := hz 7 (by decide)
  have z8 := hz 8 (by decide)
  have z9 := hz 9 (by decide)
  have z10 := hz 10 (by decide)
  clear hz
  simp only [zeroP, decide_eq_true_eq, Bool.not_eq_true'] at z0' z1 z2 z3 z4 z5 z6 z7 z8 z9 z10
  rcases hk with rfl | rfl | rfl | rfl | rfl | rfl | rfl | rfl | rfl | rfl | rfl | rfl <;>
    (simp [pof] at z0' z1 z2 z3 z4 z5 z6 z7 z8 z9 z10; simp [pof, putP, zm, *])
/-- What was laid down is taken as it was. -/
theorem dec_enc {m : Mg} (h : mayM m = true) (hw : Wf m) (s : ByteArray) (hs : s.data.toList = enc m) : dec s = (m, ⟨s.size, false⟩) := by
  have hp : Pre s 0 (enc m) := ⟨[], by rw [List.drop_zero, hs, List.append_nil]⟩
  have hsz : s.size = (enc m).length := by rw [← size_list, hs]
  obtain ⟨hh, hr⟩ := Pre.app.1 hp
  obtain ⟨h1, hh2⟩ := Pre.app.1 hh
  obtain ⟨h2, h3⟩ := Pre.app.1 hh2
  have hk := may_kind h
  have hN : (0 ≤ m.fr ∧ m.fr < 64) ∧ 0 ≤ m.to ∧ m.to < 64 := by
    have := h
    unfold mayM headB at this
    simp only [Bool.and_eq_true, isN_iff] at this
    exact ⟨this.1.2.1, this.1.2.2.1⟩
  have hkd : 0 ≤ m.kd ∧ m.kd ≤ 12 := by omega
  have eH : decH s = ({ zm with kd := m.kd, fr := m.fr, to := m.to }, ⟨(layH m).length, false⟩) := by
    unfold decH
    rw [show t0 = ⟨0, false⟩ from rfl, tnum_pre s h1 (by omega) (by omega), tnum_pre s h2 (by omega) (by omega), tnum_pre s h3 (by omega) (by omega)]
    simp only [nat_of hkd.1, nat_of hN.1.1, nat_of hN.2.1, layH, List.length_append, Nat.add_assoc, Nat.zero_add]
  unfold dec
  rw [eH, decL_back s m hw _ _ _ _ (fun i hi => may_parts h i hi) (by rw [hsz]; unfold enc; rw [List.length_append]; omega) (by simpa using hr), put_all h, hsz]
  unfold enc
  rw [List.length_append]
end Go.Proofs.YtjeepmdklbfgeaaDoor.Pure

namespace Go.Proofs.YtjeepmdklbfgeaaDoor.Pure
open Go.Proofs.YtjeepmdklbfgeaaDoor.W Go.Proofs.YtjeepmdklbfgeaaDoor.W.Pure

instance (s : ByteArray) : Decidable (Opens s) := by unfold Opens; infer_instance
/-- The octets that are sealed. -/
def inner (s : ByteArray) : ByteArray := s.extract 0 (s.size - 4)
/-- What is read, and the error. -/
def readM (s : ByteArray) : Mg × Nat :=
  if s.size < 4 then (zm, 3) else if 4100 < s.size then (zm, 4) else if ¬ Opens s then (zm, 10)
  else if (dec (inner s)).2.b = true ∨ (dec (inner s)).2.p < (inner s).size ∨ mayM (dec (inner s)).1 = false then (zm, 2) else ((dec (inner s)).1, 0)
/-- Lists, and texts, that are taken are short. -/
def Small (m : Mg) : Prop := m.ns.length ≤ 8 ∧ m.tb.length ≤ 64 ∧ m.ts.size ≤ 200
theorem ttx_small (s : ByteArray) (t : Tk) : (ttx s t).1.size ≤ 200 := by
  unfold ttx
  split
  · show (0 : Nat) ≤ 200; omega
  · rename_i hn
    obtain ⟨n, p, _, h2, _, h4⟩ := ttx_cases s t hn
    rw [h4]
    show (s.extract _ _).size ≤ 200
    rw [ByteArray.size_extract]; omega
theorem small_take (s : ByteArray) (i : Nat) (m : Mg) (t : Tk) (h : Small m) : Small (takeP s i m t).1 := by
  obtain ⟨h1, h2, h3⟩ := h
  unfold takeP
  split
  case h_4 => exact ⟨by show (tls _ _ _).1.length ≤ 8; rw [tls_len]; exact tnum_most s 8 t, h2, h3⟩
  case h_5 => exact ⟨h1, by show (tls _ _ _).1.length ≤ 64; rw [tls_len]; exact tnum_most s 64 t, h3⟩
  case h_9 => exact ⟨h1, h2, ttx_small s t⟩
  all_goals exact ⟨h1, h2, h3⟩
theorem small_decL (s : ByteArray) : ∀ (L : List Nat) (x : Mg × Tk), Small x.1 → Small (decL s L x).1
  | [], _, h => h
  | i :: L, x, h => small_decL s L _ (small_take s i x.1 x.2 h)
theorem dec_small (s : ByteArray) : Small (dec s).1 := small_decL s _ _ ⟨Nat.zero_le _, Nat.zero_le _, Nat.zero_le _⟩
theorem readM_cases (s : ByteArray) : (readM s = (zm, 3) ∧ s.size < 4) ∨ (readM s = (zm, 4) ∧ 4100 < s.size) ∨ (readM s = (zm, 10) ∧ ¬ Opens s) ∨ readM s = (zm, 2) ∨
    (readM s = ((dec (inner s)).1, 0) ∧ Opens s ∧ (dec (inner s)).2.b = false ∧ ¬ (dec (inner s)).2.p < (inner s).size ∧ mayM (dec (inner s)).1 = true) := by
  unfold readM
  generalize dec (inner s) = d
  by_cases h1 : s.size < 4
  · rw [if_pos h1]; exact .inl ⟨rfl, h1⟩
  rw [if_neg h1]
  by_cases h2 : 4100 < s.size
  · rw [if_pos h2]; exact .inr (.inl ⟨rfl, h2⟩)
  rw [if_neg h2]
  by_cases h3 : Opens s
  · rw [if_neg (fun h => h h3)]
    by_cases h4 : d.2.b = true ∨ d.2.p < (inner s).size ∨ mayM d.1 = false
    · rw [if_pos h4]; exact .inr (.inr (.inr (.inl rfl)))
    · rw [if_neg h4]
      refine .inr (.inr (.inr (.inr ⟨rfl, h3, ?_, fun e => h4 (.inr (.inl e)), ?_⟩)))
      · rcases e : d.2.b with _ | _
        · rfl
        · exact absurd (.inl e) h4
      · rcases e : mayM d.1 with _ | _
        · exact absurd (.inr (.inr e)) h4
        · rfl
  · rw [if_pos h3]; exact .inr (.inr (.inl ⟨rfl, h3⟩))
theorem readM_wf (s : ByteArray) : Wf (readM s).1 := by
  have hw := dec_wf (inner s)
  rcases readM_cases s with ⟨e, _⟩ | ⟨e, _⟩ | ⟨e, _⟩ | e | ⟨e, _⟩ <;> rw [e] <;> clear e
  · exact wf_zm
  · exact wf_zm
  · exact wf_zm
  · exact wf_zm
  · generalize dec (inner s) = d at *
    exact hw
theorem readM_err (s : ByteArray) : (readM s).2 ≤ 10 := by
  rcases readM_cases s with ⟨e, _⟩ | ⟨e, _⟩ | ⟨e, _⟩ | e | ⟨e, _⟩ <;> rw [e] <;> simp
/-- What is read may be, and was written so. -/
theorem readM_ok {s : ByteArray} (h : (readM s).2 = 0) : mayM (readM s).1 = true ∧ sealB ⟨(enc (readM s).1).toArray⟩ = s := by
  rcases readM_cases s with ⟨e, _⟩ | ⟨e, _⟩ | ⟨e, _⟩ | e | ⟨e, h3, h4, h5, h6⟩
  · rw [e] at h; simp at h
  · rw [e] at h; simp at h
  · rw [e] at h; simp at h
  · rw [e] at h; simp at h
  · have e1 := dec_all (inner s) h4 h5
    have e2 : (⟨(enc (dec (inner s)).1).toArray⟩ : ByteArray) = inner s := by rw [← e1]
    rw [e]
    generalize dec (inner s) = d at *
    refine ⟨h6, ?_⟩
    simp only []
    rw [e2]
    exact (seal_opens s).2 h3
theorem seal_size (s : ByteArray) : (sealB s).size = s.size + 4 := by unfold sealB; rw [ByteArray.size_append, fourB_size]
theorem seal_inner (s : ByteArray) : inner (sealB s) = s := by
  unfold inner
  rw [seal_size, Nat.add_sub_cancel]
  unfold sealB
  rw [ByteArray.extract_append_eq_left rfl]
theorem seal_open (s : ByteArray) : Opens (sealB s) := (seal_opens (sealB s)).1 (by have := seal_inner s; unfold inner at this; rw [this])
/-- What was written is read as it was. -/
theorem readM_seal {m : Mg} (hm : mayM m = true) (hw : Wf m) (hl : (enc m).length ≤ 2000) : readM (sealB ⟨(enc m).toArray⟩) = (m, 0) := by
  have hs : (⟨(enc m).toArray⟩ : ByteArray).size = (enc m).length := by show (enc m).toArray.size = _; simp
  unfold readM
  rw [if_neg (by rw [seal_size]; omega), if_neg (by rw [seal_size, hs]; omega), if_neg (fun h => h (seal_open _)), seal_inner, dec_enc hm hw _ (by simp), if_neg (by simp [hm])]
/-- Two that are written as the same are the same. -/
theorem enc_inj {a b : Mg} (ha : mayM a = true) (hb : mayM b = true) (wa : Wf a) (wb : Wf b) (la : (enc a).length ≤ 2000) (lb : (enc b).length ≤ 2000) (h : sealB ⟨(enc a).toArray⟩ = sealB ⟨(enc b).toArray⟩) : a = b := by
  have h1 := readM_seal ha wa la
  have h2 := readM_seal hb wb lb
  rw [h, h2] at h1
  injection h1 with h1 _
  exact h1.symm
end Go.Proofs.YtjeepmdklbfgeaaDoor.Pure
