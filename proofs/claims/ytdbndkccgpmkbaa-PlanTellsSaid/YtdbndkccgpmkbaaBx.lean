/-
  A round that appends to a slice in a box: what it keeps. A drawn region in a round, whose end comes in one order.
-/
import Derived.Test.YtdbndkccgpmkbaaPr
import Derived.Test.YtdbndkccgpmkbaaTailZ
namespace Go.Proofs.Ytdbndkccgpmkbaa
open Go.Sort Go.RowKit Go.Proofs.Ytdbndkccgpmkbaa.Pure
section
variable {W Wm W' w1 w3 : World} {S s B0 : Nat} {t e : TypeId} {size k m : Nat} {v v' : Value} {xs ys : List Value}
theorem box_on (h : Boxed W s t v) (hb : Below W.heap.size W W') : Boxed W' s t v := (hb.block s h.lt).trans h
theorem keeps_below (hb : Below W.heap.size W W') : KeepsOthers W W' := ⟨hb.size, fun k _ hk _ => (hb.block k (Array.getElem?_eq_some_iff.1 hk).1).trans hk⟩
theorem own_on (h : W.ownsRow B0 e size v k xs) (hb : Below W.heap.size W W') : W'.ownsRow B0 e size v k xs := by
  refine ⟨h.1, ?_⟩
  rcases h.2 with h' | ⟨g, cap, cur, rfl, h2, h3, h4⟩
  · exact .inl h'
  · exact .inr ⟨g, cap, cur, rfl, h2, (hb.block g (Array.getElem?_eq_some_iff.1 h3).1).trans h3, h4⟩
theorem ownsRow_pos {base n : Nat} (h : W.ownsRow base e size v n xs) (hn : 0 < n) : ∃ g cap, v = .slice (some ⟨g, 0, none⟩) n cap := by
  rcases h.2 with ⟨_, h0⟩ | ⟨g, cap, _, rfl, _⟩
  · omega
  · exact ⟨g, cap, rfl⟩
theorem round_none (hb : Below W.heap.size W W') (hS : S ≤ W.heap.size) (hB : Below s w3 W) (hs : s ≤ W.heap.size) : KeepsFrom B0 W W' ∧ Kq S s W W' ∧ Below s w3 W' :=
  ⟨(keeps_below hb).from _, Kq.of hb hS, hB.trans (hb.mono hs)⟩
theorem round_app (hv : Boxed W s t v) (hte : t ≠ e) (hrow : W.ownsRow S e size v k xs) (hS : S ≤ W.heap.size) (hs : s < S) (hb : Below W.heap.size W Wm) (hown : w1.ownsRow S e size v' m ys) (hg : Wm.grownBy w1 v.ownBlock) (hB : Below s w3 W) :
    Boxed w1 s t v ∧ Boxed (w1.setCell ⟨s, 0, none⟩ v') s t v' ∧ (w1.setCell ⟨s, 0, none⟩ v').ownsRow S e size v' m ys ∧ KeepsFrom B0 W (w1.setCell ⟨s, 0, none⟩ v') ∧ Kq S s W (w1.setCell ⟨s, 0, none⟩ v') ∧ Below s w3 (w1.setCell ⟨s, 0, none⟩ v') := by
  have hrm := own_on hrow hb
  have hm := box_on hv hb
  have h1 : Boxed w1 s t v := hm.kept hg (hm.not_row hte hrm)
  have hrb : ∀ j, v.ownBlock = some j → S ≤ j ∧ ∀ o, Wm.heap[j]? = some o → o.isCells = true := fun j ej => by
    rcases hrm.2 with ⟨rfl, _⟩ | ⟨g, cap, cur, rfl, hgS, hgb, _⟩
    · simp [Value.ownBlock] at ej
    · obtain rfl : g = j := by simpa [Value.ownBlock] using ej
      exact ⟨hgS, fun o ho => by rw [hgb] at ho; cases ho; rfl⟩
  have sz := hb.size
  refine ⟨h1, h1.set v', hown.kept (grownBy_setCell' w1 s v') (.inr (h1.not_row hte hown).symm), ?_, ?_, ?_⟩
  · exact ((((keeps_below hb).trans (KeepsOthers.of_grownBy hg fun j _ ej hj => (hrb j ej).2 _ hj)).trans (KeepsOthers.setCell _ _ _))).from _
  · exact ((Kq.of hb hS).trans (Kq.grown hg (by omega) (fun j ej => (hrb j ej).1))).trans (Kq.set v' w1)
  · refine ((hB.trans (hb.mono (by omega))).grown hg (by omega) (fun j ej => ?_)).setCell (p := ⟨s, 0, none⟩) (Nat.le_refl _) v'
    have := (hrb j ej).1
    omega
end
section
variable {P : Program} {n lo : Nat}
theorem zsr_enter {id : Nat} {Q : Exit → Act → World → Prop} {a : Act} {w : World} {L : List Oper} (k : Nat) (p : List (Nat × Bool)) (S : World → Prop) (hm : P.follows .mixedOrders = true) (hsel : Region.noSelect (L.take k).toArray = true) (hc : calmB L = true) (hL : ¬ LetsOut Q)
    (hB : (decide (k ≤ L.length) && (decide (p.length = k) && (seqB (L.take k).toArray p (Array.replicate k false) && tailZ (L.take k) (L.drop k)))) = true) (hQ : ∀ c a d v w, Q (.panic c) (a.put d v) w → Q (.panic c) a w) (hS : S w.drew)
    (h : Shut (wpSeq P (L.take k).toArray (thenQ Q (fun a w => wpList P L.toArray Q (L.drop k) a w)) S (pickL (L.take k) p) a w.drew)) : (Code.region id L.toArray true).wpIn (rnd lo) n P Q a w := by
  simp only [Bool.and_eq_true, decide_eq_true_eq] at hB
  obtain ⟨hn, hp, hseq, hT⟩ := hB
  have hL' : L.take k ++ L.drop k = L := List.take_append_drop k L
  have hln : (L.take k).length = k := by simp; omega
  have hh := seq_held (P := P) (Q := thenQ Q (fun a w => wpList P L.toArray Q (L.drop k) a w)) (S := S) (l := L.take k) rfl hsel hQ p (Array.replicate k false) a w.drew hseq hS h.out
  rw [hp] at hh
  refine draws_rnd hm hc hL ?_
  have hrep : Array.replicate L.toArray.size false = Array.replicate (L.take k).length false ++ Array.replicate (L.drop k).length false := by
    apply Array.ext'
    simp only [Array.toList_replicate, Array.toList_append, List.replicate_append_replicate, List.size_toArray]
    congr 1
    simp; omega
  have hsz : L.toArray.size = (L.take k).length + (L.drop k).length := by simp; omega
  rw [hrep, hsz]
  have hh' : wpAnyH P .any (L.take k).toArray (thenQ Q (fun a w => wpList P (L.take k ++ L.drop k).toArray Q (L.drop k) a w)) S (L.take k).length (Array.replicate (L.take k).length false) a w.drew := by
    rw [hL', hln]; exact hh
  have := tailz_any (P := P) (S := S) (Q' := Q) hT (L.take k).length (Array.replicate (L.take k).length false) a w.drew (by simp) (by simp) (fun k o _ hk => by simp [Array.getElem?_replicate] at hk; split at hk <;> simp at hk) hh'
  rw [hL'] at this
  exact this
end
end Go.Proofs.Ytdbndkccgpmkbaa
