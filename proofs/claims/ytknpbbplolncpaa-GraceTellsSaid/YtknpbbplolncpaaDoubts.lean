/-
  Doubts, as mathematics: nothing of the program is imported.
-/
import Derived.Test.YtknpbbplolncpaaNums
namespace Go.Proofs.Ytknpbbplolncpaa.Pure

/-- A doubt: of whom, of which incarnation, since when, by whom. -/
structure Dt where
  w : Int
  i : Int
  t : Int
  b : List Int
deriving DecidableEq
def dt (l : List Dt) (j : Nat) : Dt := l.getD j ⟨0, 0, 0, []⟩
theorem dt_lt (l : List Dt) {j : Nat} (h : j < l.length) : dt l j = l[j] := by simp [dt, List.getD, h]
theorem dt_mem (l : List Dt) {j : Nat} (h : j < l.length) : dt l j ∈ l := by rw [dt_lt l h]; exact List.getElem_mem h
theorem ext_dt {a b : List Dt} (hl : a.length = b.length) (h : ∀ j, j < a.length → dt a j = dt b j) : a = b := List.ext_getElem hl fun j h1 h2 => by
  have := h j h1
  rwa [dt_lt a h1, dt_lt b h2] at this
theorem same_dt {a b : List Dt} (hl : a.length = b.length) : (∀ j, j < a.length → dt a j = dt b j) ↔ a = b := ⟨fun h => ext_dt hl h, fun h => h ▸ fun _ _ => rfl⟩
theorem Dt.eq_iff (x y : Dt) : x = y ↔ x.w = y.w ∧ x.i = y.i ∧ x.t = y.t ∧ x.b = y.b := by
  obtain ⟨a, b, c, d⟩ := x
  obtain ⟨a', b', c', d'⟩ := y
  simp

def nodeB (n : Int) : Bool := decide (0 ≤ n) && decide (n < 64)
theorem nodeB_iff (n : Int) : nodeB n = true ↔ 0 ≤ n ∧ n < 64 := by simp [nodeB]
def tickB (t : Int) : Bool := decide (0 ≤ t) && decide (t ≤ 1099511627776)
theorem tickB_iff (t : Int) : tickB t = true ↔ 0 ≤ t ∧ t ≤ 1099511627776 := by simp [tickB]

/-- May one be? -/
def OkD (x : Dt) : Prop := (0 ≤ x.t ∧ x.t ≤ 1099511627776) ∧ x.b ≠ [] ∧ riseB x.b = true
instance (x : Dt) : Decidable (OkD x) := by unfold OkD; infer_instance
def whos (l : List Dt) : List Int := l.map Dt.w
theorem whos_len (l : List Dt) : (whos l).length = l.length := by simp [whos]
theorem whos_at (l : List Dt) {j : Nat} (h : j < l.length) : (whos l).getD j 0 = (dt l j).w := by simp [whos, dt, List.getD, h]
theorem whos_take (l : List Dt) (k : Nat) : whos (l.take k) = (whos l).take k := by simp [whos, List.map_take]
theorem whos_drop (l : List Dt) (k : Nat) : whos (l.drop k) = (whos l).drop k := by simp [whos, List.map_drop]
def mayD (l : List Dt) : Bool := decide (∀ j, j < l.length → OkD (dt l j)) && riseB (whos l)
theorem mayD_iff (l : List Dt) : mayD l = true ↔ (∀ j, j < l.length → OkD (dt l j)) ∧ riseB (whos l) = true := by simp [mayD]
theorem mayD_len {l : List Dt} (h : mayD l = true) : l.length ≤ 64 := by
  have := riseB_len ((mayD_iff l).1 h).2
  rwa [whos_len] at this

/-- A doubt raised. -/
def raiseD (l : List Dt) (who inc b now : Int) : List Dt :=
  if hitN (whos l) who = true then
    if (dt l (posN (whos l) who)).i < inc then l.set (posN (whos l) who) ⟨who, inc, now, [b]⟩
    else if (dt l (posN (whos l) who)).i = inc then l.set (posN (whos l) who) ⟨(dt l (posN (whos l) who)).w, (dt l (posN (whos l) who)).i, (dt l (posN (whos l) who)).t, withN (dt l (posN (whos l) who)).b b⟩
    else l
  else l.take (posN (whos l) who) ++ ⟨who, inc, now, [b]⟩ :: l.drop (posN (whos l) who)
def mayR (l : List Dt) (who b now : Int) : Bool := mayD l && (nodeB who && (nodeB b && tickB now))
def raiseA (l : List Dt) (who inc b now : Int) : List Dt × Int := if mayR l who b now = true then (raiseD l who inc b now, 0) else (l, 1)
/-- Is it one that is cleared? -/
def goneB (who inc : Int) (x : Dt) : Bool := decide (x.w = who) && decide (x.i ≤ inc)
def clearD (l : List Dt) (who inc : Int) : List Dt := l.filter fun x => !goneB who inc x
def clearA (l : List Dt) (who inc : Int) : List Dt × Int := if mayD l = true then (clearD l who inc, 0) else (l, 1)

/-- Rules: the least, the greatest, how many confirm. -/
structure Ru where
  mn : Int
  mo : Int
  al : Int
def Rl (r : Ru) : Prop := (1 ≤ r.mn ∧ r.mn ≤ 1000) ∧ (1 ≤ r.mo ∧ r.mo ≤ 20) ∧ 0 ≤ r.al ∧ r.al ≤ 10
instance (r : Ru) : Decidable (Rl r) := by unfold Rl; infer_instance
def rulesB (r : Ru) : Bool := decide (Rl r)
theorem rulesB_iff (r : Ru) : rulesB r = true ↔ Rl r := decide_eq_true_iff
/-- How many bits a number takes. -/
def bitsN (n : Nat) : Nat := if n = 0 then 0 else Nat.log2 n + 1
def leastN (r : Ru) (n : Nat) : Int := r.mn * (bitsN n : Int)
def graceN (r : Ru) (n : Nat) (c : Int) : Int :=
  if r.al = 0 then leastN r n else r.mo * leastN r n - (r.mo * leastN r n - leastN r n) * min c r.al / r.al
def mayG (r : Ru) (n c : Int) : Bool := rulesB r && (decide (1 ≤ n) && (decide (n ≤ 64) && decide (0 ≤ c)))
def graceA (r : Ru) (n c : Int) : Int × Int := if mayG r n c = true then (graceN r n.toNat c, 0) else (0, 1)
/-- Is it ripe? -/
def ripeB (r : Ru) (n : Nat) (now : Int) (x : Dt) : Bool := decide (x.t + graceN r n ((x.b.length : Int) - 1) ≤ now)
def mayP (l : List Dt) (r : Ru) (n now : Int) : Bool := mayG r n 0 && (mayD l && tickB now)
def ripeA (l : List Dt) (r : Ru) (n now : Int) : List Dt × List Dt × Int :=
  if mayP l r n now = true then (l.filter (ripeB r n.toNat now), l.filter (fun x => !ripeB r n.toNat now x), 0) else ([], [], 1)
end Go.Proofs.Ytknpbbplolncpaa.Pure
