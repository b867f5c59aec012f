/-
  Messages as plain data: which may be, their octets, and what is taken of octets.
-/
import Derived.Test.YtjeepmdklbfgeaaDoorWText
import Derived.Test.YtjeepmdklbfgeaaDoorWBack
import Derived.Test.YtjeepmdklbfgeaaDoorTab
import Derived.Test.YtjeepmdklbfgeaaDoorNw
namespace Go.Proofs.YtjeepmdklbfgeaaDoor.Pure
open Go.Proofs.YtjeepmdklbfgeaaDoor.W Go.Proofs.YtjeepmdklbfgeaaDoor.W.Pure

/-- A message. -/
structure Mg where
  kd : Int
  fr : Int
  to : Int
  sq : Nat
  wh : Int
  k : Kn
  ns : List Nw
  tb : List Kn
  ep : Nat
  bo : Nat
  ak : Int
  ts : ByteArray
  tn : Nat
  gd : Bool
  deriving DecidableEq
def zm : Mg := ⟨0, 0, 0, 0, 0, z0, [], [], 0, 0, 0, ⟨#[]⟩, 0, false⟩
/-- The parts that a kind has. -/
def pof (k : Int) : List Nat :=
  if k = 1 then [0, 2, 3] else if k = 2 then [0, 1, 3] else if k = 3 then [0, 1, 2, 3] else if k = 4 then [0, 1]
  else if k = 5 then [4] else if k = 6 then [4] else if k = 7 then [5, 6, 7] else if k = 8 then [5, 6, 7] else if k = 9 then [5, 6]
  else if k = 10 then [6, 7] else if k = 11 then [5, 6, 7, 8, 9] else if k = 12 then [8, 9, 10] else []
def isN (n : Int) : Bool := decide (0 ≤ n) && decide (n < 64)
def inName (c : UInt8) : Bool := decide (97 ≤ c.toNat ∧ c.toNat ≤ 122) || decide (48 ≤ c.toNat ∧ c.toNat ≤ 57) || decide (c.toNat = 45)
def nameB (s : ByteArray) : Bool := s.data.toList.all inName && (decide (1 ≤ s.size) && decide (s.size ≤ 20))
def mayNs (l : List Nw) : Bool := decide (l.length ≤ 8) && l.all oneB
/-- May part i be? -/
def mayP : Nat → Mg → Bool
  | 1, m => isN m.wh
  | 2, m => mayK m.k
  | 3, m => mayNs m.ns
  | 4, m => mayT m.tb
  | 7, m => decide (0 ≤ m.ak) && decide (m.ak ≤ 1099511627776)
  | 8, m => nameB m.ts
  | _, _ => true
/-- Is it zero? -/
def zeroP : Nat → Mg → Bool
  | 0, m => decide (m.sq = 0)
  | 1, m => decide (m.wh = 0)
  | 2, m => decide (m.k = z0)
  | 3, m => decide (m.ns = [])
  | 4, m => decide (m.tb = [])
  | 5, m => decide (m.ep = 0)
  | 6, m => decide (m.bo = 0)
  | 7, m => decide (m.ak = 0)
  | 8, m => decide (m.ts = ⟨#[]⟩)
  | 9, m => decide (m.tn = 0)
  | 10, m => !m.gd
  | _, _ => true
def fitsP (m : Mg) (i : Nat) : Bool := if (pof m.kd).contains i = true then mayP i m else zeroP i m
def headB (m : Mg) : Bool := !(pof m.kd).isEmpty && (isN m.fr && (isN m.to && !decide (m.fr = m.to)))
def mayM (m : Mg) : Bool := headB m && (List.range 11).all (fitsP m)
/-- The numbers are such as may be in 64 bits. -/
structure Wf (m : Mg) : Prop where
  sq : m.sq < 2 ^ 64
  ep : m.ep < 2 ^ 64
  bo : m.bo < 2 ^ 64
  tn : m.tn < 2 ^ 64
  k : Fit m.k
  ns : ∀ y ∈ m.ns, Fit y.k
  tb : ∀ y ∈ m.tb, Fit y

/-! ### octets -/
def layK (x : Kn) : List UInt8 := num x.i.toNat ++ num x.s.toNat
def layN (x : Nw) : List UInt8 := num x.w.toNat ++ layK x.k
def layP : Nat → Mg → List UInt8
  | 0, m => num m.sq
  | 1, m => num m.wh.toNat
  | 2, m => layK m.k
  | 3, m => num m.ns.length ++ m.ns.flatMap layN
  | 4, m => num m.tb.length ++ m.tb.flatMap layK
  | 5, m => num m.ep
  | 6, m => num m.bo
  | 7, m => num m.ak.toNat
  | 8, m => num m.ts.size ++ m.ts.data.toList
  | 9, m => num m.tn
  | 10, m => num (if m.gd = true then 1 else 0)
  | _, _ => []
def layH (m : Mg) : List UInt8 := num m.kd.toNat ++ (num m.fr.toNat ++ num m.to.toNat)
def enc (m : Mg) : List UInt8 := layH m ++ (pof m.kd).flatMap fun i => layP i m

/-! ### taking -/
/-- From where on is taken, and whether something was wrong. -/
structure Tk where
  p : Nat
  b : Bool
def tnum (s : ByteArray) (most : Nat) (t : Tk) : Nat × Tk :=
  if (takeL (s.data.toList.drop t.p) 0 0).2.2 ≠ 0 ∨ most < (takeL (s.data.toList.drop t.p) 0 0).1 then (0, ⟨t.p, true⟩)
  else ((takeL (s.data.toList.drop t.p) 0 0).1, ⟨t.p + (takeL (s.data.toList.drop t.p) 0 0).2.1, t.b⟩)
def tkn (s : ByteArray) (t : Tk) : Kn × Tk := (⟨(tnum s 18446744073709551615 t).1, (tnum s 3 (tnum s 18446744073709551615 t).2).1⟩, (tnum s 3 (tnum s 18446744073709551615 t).2).2)
def tnw (s : ByteArray) (t : Tk) : Nw × Tk := (⟨(tnum s 63 t).1, (tkn s (tnum s 63 t).2).1.i, (tkn s (tnum s 63 t).2).1.s⟩, (tkn s (tnum s 63 t).2).2)
def tls {α : Type} (f : Tk → α × Tk) : Nat → Tk → List α × Tk
  | 0, t => ([], t)
  | n + 1, t => ((tls f n t).1 ++ [(f (tls f n t).2).1], (f (tls f n t).2).2)
def tnws (s : ByteArray) (t : Tk) : List Nw × Tk := tls (tnw s) (tnum s 8 t).1 (tnum s 8 t).2
def ttbs (s : ByteArray) (t : Tk) : List Kn × Tk := tls (tkn s) (tnum s 64 t).1 (tnum s 64 t).2
def ttx (s : ByteArray) (t : Tk) : ByteArray × Tk :=
  if (textL s t.p (takeL (s.data.toList.drop t.p) 0 0)).2.2 ≠ 0 then (⟨#[]⟩, ⟨t.p, true⟩)
  else ((textL s t.p (takeL (s.data.toList.drop t.p) 0 0)).1, ⟨(textL s t.p (takeL (s.data.toList.drop t.p) 0 0)).2.1, t.b⟩)
def takeP (s : ByteArray) : Nat → Mg → Tk → Mg × Tk
  | 0, m, t => ({ m with sq := (tnum s 18446744073709551615 t).1 }, (tnum s 18446744073709551615 t).2)
  | 1, m, t => ({ m with wh := (tnum s 63 t).1 }, (tnum s 63 t).2)
  | 2, m, t => ({ m with k := (tkn s t).1 }, (tkn s t).2)
  | 3, m, t => ({ m with ns := (tnws s t).1 }, (tnws s t).2)
  | 4, m, t => ({ m with tb := (ttbs s t).1 }, (ttbs s t).2)
  | 5, m, t => ({ m with ep := (tnum s 18446744073709551615 t).1 }, (tnum s 18446744073709551615 t).2)
  | 6, m, t => ({ m with bo := (tnum s 18446744073709551615 t).1 }, (tnum s 18446744073709551615 t).2)
  | 7, m, t => ({ m with ak := (tnum s 1099511627776 t).1 }, (tnum s 1099511627776 t).2)
  | 8, m, t => ({ m with ts := (ttx s t).1 }, (ttx s t).2)
  | 9, m, t => ({ m with tn := (tnum s 18446744073709551615 t).1 }, (tnum s 18446744073709551615 t).2)
  | 10, m, t => ({ m with gd := decide ((tnum s 1 t).1 = 1) }, (tnum s 1 t).2)
  | _, m, t => (m, t)
def t0 : Tk := ⟨0, false⟩
def decH (s : ByteArray) : Mg × Tk :=
  ({ zm with kd := (tnum s 12 t0).1, fr := (tnum s 63 (tnum s 12 t0).2).1, to := (tnum s 63 (tnum s 63 (tnum s 12 t0).2).2).1 }, (tnum s 63 (tnum s 63 (tnum s 12 t0).2).2).2)
def decL (s : ByteArray) (L : List Nat) (x : Mg × Tk) : Mg × Tk := L.foldl (fun x i => takeP s i x.1 x.2) x
def dec (s : ByteArray) : Mg × Tk := decL s (pof (decH s).1.kd) (decH s)

/-! ### what stands at a place -/
/-- From a on p stands in s. -/
def Pre (s : ByteArray) (a : Nat) (p : List UInt8) : Prop := ∃ r, s.data.toList.drop a = p ++ r
theorem Pre.nil (s : ByteArray) (a : Nat) : Pre s a [] := ⟨_, rfl⟩
theorem Pre.app {s : ByteArray} {a : Nat} {p q : List UInt8} : Pre s a (p ++ q) ↔ Pre s a p ∧ Pre s (a + p.length) q := by
  constructor
  · rintro ⟨r, h⟩
    refine ⟨⟨q ++ r, by rw [h, List.append_assoc]⟩, r, ?_⟩
    rw [← List.drop_drop, h, List.append_assoc, List.drop_left]
  · rintro ⟨⟨r, h⟩, r', h'⟩
    rw [← List.drop_drop, h, List.drop_left] at h'
    exact ⟨r', by rw [h, h', List.append_assoc]⟩
theorem size_list (s : ByteArray) : s.data.toList.length = s.size := by simp
theorem Pre.le {s : ByteArray} {a : Nat} {p : List UInt8} (h : Pre s a p) (ha : a ≤ s.size) : a + p.length ≤ s.size := by
  obtain ⟨r, h⟩ := h
  have h1 := congrArg List.length h
  rw [List.length_drop, size_list, List.length_append] at h1
  omega
theorem Pre.all {s : ByteArray} {p : List UInt8} (h : Pre s 0 p) (hl : s.size ≤ p.length) : s.data.toList = p := by
  obtain ⟨r, h⟩ := h
  rw [List.drop_zero] at h
  have h1 := congrArg List.length h
  rw [size_list, List.length_append] at h1
  have : r = [] := List.eq_nil_of_length_eq_zero (by omega)
  rw [h, this, List.append_nil]

/-- Behind what was taken without a fault stands p. -/
def Seg (s : ByteArray) (t t' : Tk) (p : List UInt8) : Prop := t'.b = false → t.p ≤ s.size → t.b = false ∧ Pre s t.p p ∧ t'.p = t.p + p.length ∧ t'.p ≤ s.size
theorem Seg.refl (s : ByteArray) (t : Tk) : Seg s t t [] := fun h h' => ⟨h, Pre.nil _ _, rfl, h'⟩
theorem Seg.trans {s : ByteArray} {a b c : Tk} {p q : List UInt8} (h : Seg s a b p) (k : Seg s b c q) (hb : a.p ≤ s.size → b.p ≤ s.size) : Seg s a c (p ++ q) := fun hc ha => by
  obtain ⟨b1, b2, b3, b4⟩ := k hc (hb ha)
  obtain ⟨a1, a2, a3, a4⟩ := h b1 ha
  refine ⟨a1, Pre.app.2 ⟨a2, by rw [← a3]; exact b2⟩, by rw [b3, a3, List.length_append, Nat.add_assoc], b4⟩

section
variable (s : ByteArray)
theorem tnum_le (most : Nat) (t : Tk) (h : t.p ≤ s.size) : (tnum s most t).2.p ≤ s.size := by
  unfold tnum
  split
  · exact h
  · rename_i hn
    have hz : (takeL (s.data.toList.drop t.p) 0 0).2.2 = 0 := Decidable.not_not.1 fun e => hn (.inl e)
    have := (takeL_fits (s.data.toList.drop t.p) 0 0 hz).1
    rw [List.length_drop, size_list] at this
    show t.p + _ ≤ _
    omega
theorem tnum_most (most : Nat) (t : Tk) : (tnum s most t).1 ≤ most := by
  unfold tnum
  split
  · exact Nat.zero_le _
  · rename_i hn
    exact Nat.le_of_not_lt fun e => hn (.inr e)
theorem take_eta (r : Nat × Nat × Nat) (h : r.2.2 = 0) : r = (r.1, r.2.1, 0) := by rw [← h]
theorem tnum_small (most : Nat) (t : Tk) : (tnum s most t).1 < 2 ^ 64 := by
  unfold tnum
  split
  · exact Nat.two_pow_pos 64
  · rename_i hn
    have hz : (takeL (s.data.toList.drop t.p) 0 0).2.2 = 0 := Decidable.not_not.1 fun e => hn (.inl e)
    exact take_small _ _ _ (take_eta _ hz)
theorem tnum_seg (most : Nat) (t : Tk) : Seg s t (tnum s most t).2 (num (tnum s most t).1) := by
  intro hb ha
  have hle := tnum_le s most t ha
  unfold tnum at hb hle ⊢
  split at hb
  · cases hb
  · rename_i hn
    rw [if_neg hn] at hle ⊢
    have hz : (takeL (s.data.toList.drop t.p) 0 0).2.2 = 0 := Decidable.not_not.1 fun e => hn (.inl e)
    obtain ⟨h1, h2, h3⟩ := back_num _ _ _ (take_eta _ hz)
    refine ⟨hb, ⟨(s.data.toList.drop t.p).drop (takeL (s.data.toList.drop t.p) 0 0).2.1, ?_⟩, ?_, hle⟩
    · rw [h3, List.take_append_drop]
    · show t.p + _ = t.p + _
      rw [h3, List.length_take]
      omega
theorem tnum_pre {most n a : Nat} {b : Bool} (hp : Pre s a (num n)) (hn : n < 2 ^ 64) (hm : n ≤ most) : tnum s most ⟨a, b⟩ = (n, ⟨a + (num n).length, b⟩) := by
  obtain ⟨r, h⟩ := hp
  unfold tnum
  show (if (takeL (s.data.toList.drop a) 0 0).2.2 ≠ 0 ∨ most < (takeL (s.data.toList.drop a) 0 0).1 then _ else _) = _
  rw [h, take_num n r hn, if_neg (by simp; omega)]
theorem tkn_le (t : Tk) (h : t.p ≤ s.size) : (tkn s t).2.p ≤ s.size := tnum_le s _ _ (tnum_le s _ _ h)
theorem tnw_le (t : Tk) (h : t.p ≤ s.size) : (tnw s t).2.p ≤ s.size := tkn_le s _ (tnum_le s _ _ h)
theorem tkn_fit (t : Tk) : Fit (tkn s t).1 := by
  have := tnum_most s 18446744073709551615 t
  exact ⟨Int.natCast_nonneg _, by show ((_ : Nat) : Int) ≤ _; omega⟩
theorem tkn_may (t : Tk) : mayK (tkn s t).1 = true := by
  have := tnum_most s 3 (tnum s 18446744073709551615 t).2
  rw [mayK_iff]
  exact ⟨Int.natCast_nonneg _, by show ((_ : Nat) : Int) ≤ _; omega⟩
theorem tkn_seg (t : Tk) : Seg s t (tkn s t).2 (layK (tkn s t).1) :=
  (tnum_seg s _ t).trans (tnum_seg s _ _) (tnum_le s _ t)
theorem tnw_seg (t : Tk) : Seg s t (tnw s t).2 (layN (tnw s t).1) :=
  (tnum_seg s _ t).trans (tkn_seg s _) (tnum_le s _ t)
theorem tls_le {α : Type} (f : Tk → α × Tk) (hf : ∀ t : Tk, t.p ≤ s.size → (f t).2.p ≤ s.size) : ∀ (n : Nat) (t : Tk), t.p ≤ s.size → (tls f n t).2.p ≤ s.size
  | 0, _, h => h
  | n + 1, t, h => hf _ (tls_le f hf n t h)
theorem tls_len {α : Type} (f : Tk → α × Tk) : ∀ (n : Nat) (t : Tk), (tls f n t).1.length = n
  | 0, _ => rfl
  | n + 1, t => by
    show ((tls f n t).1 ++ [_]).length = _
    rw [List.length_append, tls_len f n t]; rfl
theorem tls_seg {α : Type} (f : Tk → α × Tk) (lay : α → List UInt8) (hf : ∀ t : Tk, t.p ≤ s.size → (f t).2.p ≤ s.size) (hs : ∀ t, Seg s t (f t).2 (lay (f t).1)) : ∀ (n : Nat) (t : Tk), Seg s t (tls f n t).2 ((tls f n t).1.flatMap lay)
  | 0, t => Seg.refl s t
  | n + 1, t => by
    have h := (tls_seg f lay hf hs n t).trans (hs (tls f n t).2) (tls_le s f hf n t)
    show Seg s t (f (tls f n t).2).2 (((tls f n t).1 ++ [_]).flatMap lay)
    rw [List.flatMap_append]
    simpa using h
theorem tls_all {α : Type} (f : Tk → α × Tk) (p : α → Prop) (hf : ∀ t, p (f t).1) : ∀ (n : Nat) (t : Tk), ∀ x ∈ (tls f n t).1, p x
  | 0, _, _, h => by simp [tls] at h
  | n + 1, t, x, h => by
    have h' : x ∈ (tls f n t).1 ++ [(f (tls f n t).2).1] := h
    rcases List.mem_append.1 h' with h1 | h1
    · exact tls_all f p hf n t x h1
    · rw [List.mem_singleton.1 h1]; exact hf _
/-- What stands there is taken, one behind the other. -/
theorem tls_pre {α : Type} (f : Tk → α × Tk) (lay : α → List UInt8) (xs : List α) (hs : ∀ x ∈ xs, ∀ a b, Pre s a (lay x) → f ⟨a, b⟩ = (x, ⟨a + (lay x).length, b⟩)) :
    ∀ (n a : Nat) (b : Bool), n ≤ xs.length → Pre s a ((xs.take n).flatMap lay) → tls f n ⟨a, b⟩ = (xs.take n, ⟨a + ((xs.take n).flatMap lay).length, b⟩)
  | 0, a, b, _, _ => by simp [tls]
  | n + 1, a, b, hn, h => by
    have hx : n < xs.length := by omega
    rw [List.take_succ_eq_append_getElem hx, List.flatMap_append] at h ⊢
    obtain ⟨h1, h2⟩ := Pre.app.1 h
    have ih := tls_pre f lay xs hs n a b (by omega) h1
    have h2' : Pre s (a + ((xs.take n).flatMap lay).length) (lay xs[n]) := by simpa using h2
    have hf := hs xs[n] (List.getElem_mem hx) _ b h2'
    unfold tls
    rw [ih]
    simp only []
    rw [hf]
    simp [Nat.add_assoc]
end
end Go.Proofs.YtjeepmdklbfgeaaDoor.Pure
