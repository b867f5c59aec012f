/-
  The iterators' makers.
-/
import Derived.Test.YtdbndkccgpmkbaaItD
import Derived.Test.YtdbndkccgpmkbaaItA
import Derived.Test.YtdbndkccgpmkbaaBk
import Derived.Test.YtdbndkccgpmkbaaPy
namespace Go.Proofs.Ytdbndkccgpmkbaa
open Go.Sort Go.RowKit Go.Proofs.Ytdbndkccgpmkbaa.Pure
set_option maxRecDepth 100000 in
set_option maxHeartbeats 1000000 in
theorem pairsD_any (A B : Option Addr) (n m ca cb : Nat) (w : World) : Calls Try.prog 24 #[.slice A n ca, .slice B m cb, .func (.func 25) #[] #[]] w fun e w' =>
    e = .returned (.func (.func 37) #[] #[.pointer (some ⟨w.heap.size, 0, none⟩), .pointer (some ⟨w.heap.size + 1, 0, none⟩), .pointer (some ⟨w.heap.size + 2, 0, none⟩)]) ∧
      w' = ((w.alloc (.cells #[.slice A n ca] 22)).alloc (.cells #[.slice B m cb] 22)).alloc (.cells #[.func (.func 25) #[] #[]] 55) := by
  go_enter Try.func24, Try.ntmps24
  go_wp2_with fail
  go_ret
  exact ⟨rfl, rfl⟩
set_option maxRecDepth 100000 in
set_option maxHeartbeats 1000000 in
theorem pairsA_any (A B : Option Addr) (n m ca cb : Nat) (w : World) : Calls Try.prog 29 #[.slice A n ca, .slice B m cb, .func (.func 30) #[] #[]] w fun e w' =>
    e = .returned (.func (.func 39) #[] #[.pointer (some ⟨w.heap.size, 0, none⟩), .pointer (some ⟨w.heap.size + 1, 0, none⟩), .pointer (some ⟨w.heap.size + 2, 0, none⟩)]) ∧
      w' = ((w.alloc (.cells #[.slice A n ca] 22)).alloc (.cells #[.slice B m cb] 23)).alloc (.cells #[.func (.func 30) #[] #[]] 61) := by
  go_enter Try.func29, Try.ntmps29
  go_wp2_with fail
  go_ret
  exact ⟨rfl, rfl⟩
theorem Us.kq {w W W' : World} {A : Option Addr} {a : List Pu} {S : Nat} (h : Us w A a) (hb : Below w.heap.size w W) (hk : Kq S w.heap.size W W') (hS : w.heap.size ≤ S) : Us W' A a := fun j hj => by
  obtain ⟨ad, e, h1, h2⟩ := h j hj
  have s1 := hb.size
  have s2 := hk.size
  exact ⟨ad, e, by omega, h2.keep fun p hp => (hk.cell (p := p) (by rw [hp, block_add]; omega) (by rw [hp, block_add]; omega)).trans (hb.cell (by rw [hp, block_add]; exact h1))⟩
theorem Vs.kq {w W W' : World} {A : Option Addr} {a : List Mv} {S : Nat} (h : Vs w A a) (hb : Below w.heap.size w W) (hk : Kq S w.heap.size W W') (hS : w.heap.size ≤ S) : Vs W' A a := fun j hj => by
  obtain ⟨ad, e, h1, h2⟩ := h j hj
  have s1 := hb.size
  have s2 := hk.size
  exact ⟨ad, e, by omega, h2.keep fun p hp => (hk.cell (p := p) (by rw [hp, block_add]; omega) (by rw [hp, block_add]; omega)).trans (hb.cell (by rw [hp, block_add]; exact h1))⟩
theorem abides_below {β : Type} {B : Nat} {J : β → World → Prop} (h : AbidesFrom B J) (s : β) (w1 w2 : World) (hj : J s w1) (hb : Below w1.heap.size w1 w2) : J s w2 :=
  h s w1 w2 none hj ⟨hb.os, hb.tape, hb.output, hb.size, fun k hk _ => hb.block k hk⟩ (fun r e => (by cases e))
theorem itD_stops (n : Nat) (A B : Option Addr) (ca cb : Nat) (a : List Pu) (b : List Pu) (ha : a.length ≤ 100000) (hb : b.length ≤ 100000) (w W0 : World) (s : Nat) (hs : w.heap.size = s) (hA : Us w A a) (hB : Us w B b) (h0 : Below s w W0) (hsz : W0.heap.size = s + 4)
    (c1 : W0.cell? ⟨s + 1, 0, none⟩ = some (.slice A a.length ca)) (c2 : W0.cell? ⟨s + 2, 0, none⟩ = some (.slice B b.length cb)) (c3 : W0.cell? ⟨s + 3, 0, none⟩ = some (.func (.func 25) #[] #[])) :
    SeqStopsK Fence.wide n Try.prog 37 #[.pointer (some ⟨s + 1, 0, none⟩), .pointer (some ⟨s + 2, 0, none⟩), .pointer (some ⟨s + 3, 0, none⟩)]
      (fun x : Pu × Pu => #[.agg #[.string x.1.t, .int .i64 x.1.n], .agg #[.string x.2.t, .int .i64 x.2.n]]) (Kq (s + 4) s) (fun ys => ys = zipD a b) (fun pre => pre <+: zipD a b) (zipD a b).length W0 := fun l J Jx W hW hJ _ hY hj => by
  subst hs
  refine itD_in n l (w.heap.size + 4) (w.heap.size + 1) w.heap.size A B ca cb a b ha hb J Jx (abides_below hJ) hY W (by have := hW.size; omega) (fun W' hk => ?_) (fun W' hk => ?_) (fun W' hk => ?_) hj
  · exact hA.kq (h0.trans (hW.mono (by omega))) hk (by omega)
  · exact hB.kq (h0.trans (hW.mono (by omega))) hk (by omega)
  · exact ⟨(hk.cell (p := ⟨w.heap.size + 1, 0, none⟩) (by show w.heap.size + 1 < _; omega) (by show w.heap.size + 1 ≠ _; omega)).trans ((hW.cell (p := ⟨w.heap.size + 1, 0, none⟩) (by show w.heap.size + 1 < _; omega)).trans c1),
      (hk.cell (p := ⟨w.heap.size + 2, 0, none⟩) (by show w.heap.size + 2 < _; omega) (by show w.heap.size + 2 ≠ _; omega)).trans ((hW.cell (p := ⟨w.heap.size + 2, 0, none⟩) (by show w.heap.size + 2 < _; omega)).trans c2),
      (hk.cell (p := ⟨w.heap.size + 3, 0, none⟩) (by show w.heap.size + 3 < _; omega) (by show w.heap.size + 3 ≠ _; omega)).trans ((hW.cell (p := ⟨w.heap.size + 3, 0, none⟩) (by show w.heap.size + 3 < _; omega)).trans c3)⟩
theorem itA_stops (n : Nat) (A B : Option Addr) (ca cb : Nat) (a : List Pu) (b : List Mv) (ha : a.length ≤ 100000) (hb : b.length ≤ 100000) (w W0 : World) (s : Nat) (hs : w.heap.size = s) (hA : Us w A a) (hB : Vs w B b) (h0 : Below s w W0) (hsz : W0.heap.size = s + 4)
    (c1 : W0.cell? ⟨s + 1, 0, none⟩ = some (.slice A a.length ca)) (c2 : W0.cell? ⟨s + 2, 0, none⟩ = some (.slice B b.length cb)) (c3 : W0.cell? ⟨s + 3, 0, none⟩ = some (.func (.func 30) #[] #[])) :
    SeqStopsK Fence.wide n Try.prog 39 #[.pointer (some ⟨s + 1, 0, none⟩), .pointer (some ⟨s + 2, 0, none⟩), .pointer (some ⟨s + 3, 0, none⟩)]
      (fun x : Pu × Mv => #[.agg #[.string x.1.t, .int .i64 x.1.n], .agg #[.string x.2.t, .int .i64 x.2.f, .int .i64 x.2.g]]) (Kq (s + 4) s) (fun ys => ys = zipM a b) (fun pre => pre <+: zipM a b) (zipM a b).length W0 := fun l J Jx W hW hJ _ hY hj => by
  subst hs
  refine itA_in n l (w.heap.size + 4) (w.heap.size + 1) w.heap.size A B ca cb a b ha hb J Jx (abides_below hJ) hY W (by have := hW.size; omega) (fun W' hk => ?_) (fun W' hk => ?_) (fun W' hk => ?_) hj
  · exact hA.kq (h0.trans (hW.mono (by omega))) hk (by omega)
  · exact hB.kq (h0.trans (hW.mono (by omega))) hk (by omega)
  · exact ⟨(hk.cell (p := ⟨w.heap.size + 1, 0, none⟩) (by show w.heap.size + 1 < _; omega) (by show w.heap.size + 1 ≠ _; omega)).trans ((hW.cell (p := ⟨w.heap.size + 1, 0, none⟩) (by show w.heap.size + 1 < _; omega)).trans c1),
      (hk.cell (p := ⟨w.heap.size + 2, 0, none⟩) (by show w.heap.size + 2 < _; omega) (by show w.heap.size + 2 ≠ _; omega)).trans ((hW.cell (p := ⟨w.heap.size + 2, 0, none⟩) (by show w.heap.size + 2 < _; omega)).trans c2),
      (hk.cell (p := ⟨w.heap.size + 3, 0, none⟩) (by show w.heap.size + 3 < _; omega) (by show w.heap.size + 3 ≠ _; omega)).trans ((hW.cell (p := ⟨w.heap.size + 3, 0, none⟩) (by show w.heap.size + 3 < _; omega)).trans c3)⟩
end Go.Proofs.Ytdbndkccgpmkbaa
