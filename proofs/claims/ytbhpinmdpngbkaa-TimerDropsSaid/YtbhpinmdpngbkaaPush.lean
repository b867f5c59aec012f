/-
  The walks of a heap's Push and Pop.
-/
import Derived.Test.YtbhpinmdpngbkaaHeaped
namespace Go.Proofs.Ytbhpinmdpngbkaa
open Go.RowKit Go.Proofs.Ytbhpinmdpngbkaa.Pure

/-- All blocks but those of S are as they were. -/
structure Kept (w w' : World) (S : Nat → Prop) : Prop where
  os : w'.os = w.os
  tape : w'.tape = w.tape
  output : w'.output = w.output
  size : w.heap.size ≤ w'.heap.size
  block : ∀ k, k < w.heap.size → ¬ S k → w'.heap[k]? = w.heap[k]?

section
variable {a b c : World} {S T : Nat → Prop}
theorem Kept.refl (w : World) (S : Nat → Prop) : Kept w w S := ⟨rfl, rfl, rfl, Nat.le_refl _, fun _ _ _ => rfl⟩
theorem Kept.trans (h : Kept a b S) (k : Kept b c T) (hT : ∀ i, i < a.heap.size → T i → S i) : Kept a c S :=
  ⟨k.os.trans h.os, k.tape.trans h.tape, k.output.trans h.output, Nat.le_trans h.size k.size, fun i hi hn => (k.block i (by have := h.size; omega) (fun ht => hn (hT i hi ht))).trans (h.block i hi hn)⟩
theorem Kept.of_below (h : Below a.heap.size a b) (S : Nat → Prop) : Kept a b S := ⟨h.os, h.tape, h.output, h.size, fun i hi _ => h.block i hi⟩
theorem Kept.of_grown {row : Option Nat} (h : a.grownBy b row) (hS : ∀ i, row = some i → S i) : Kept a b S := ⟨h.os, h.tape, h.output, h.size, fun i hi hn => h.block i hi fun e => hn (hS i e.symm)⟩
theorem Kept.mono (h : Kept a b S) (hT : ∀ i, i < a.heap.size → S i → T i) : Kept a b T := ⟨h.os, h.tape, h.output, h.size, fun i hi hn => h.block i hi fun hs => hn (hT i hi hs)⟩
theorem Kept.drew (h : Kept a b S) : Kept a b.drew S := ⟨h.os, h.tape, h.output, h.size, h.block⟩
theorem Kept.drewN (h : Kept a b S) (n : Nat) : Kept a (b.drewN n) S := ⟨h.os, h.tape, h.output, h.size, h.block⟩
theorem Kept.set (h : Kept a b S) (p : Addr) (hp : a.heap.size ≤ p.block ∨ S p.block) (u : Value) : Kept a (b.setCell p u) S :=
  ⟨h.os, h.tape, h.output, by simpa [World.setCell] using h.size, fun i hi hn => (Below.heap_setCell b p u i (by
    rintro rfl
    rcases hp with hp | hp
    · omega
    · exact hn hp)).trans (h.block i hi hn)⟩
theorem Kept.alloc (h : Kept a b S) (o : Obj) : Kept a (b.alloc o) S :=
  ⟨h.os, h.tape, h.output, by have := h.size; simp; omega, fun i hi hn => (Below.heap_alloc b o i (by have := h.size; omega)).trans (h.block i hi hn)⟩
theorem Kept.below {B : Nat} (h : Kept a b S) (hB : B ≤ a.heap.size) (hS : ∀ i, S i → B ≤ i) : Below B a b := ⟨h.os, h.tape, h.output, h.size, fun i hi => h.block i (by omega) fun hs => by have := hS i hs; omega⟩
end

/-- A heap's variable is block g; it holds the slice v, of the call's own, which holds the timers xs. -/
structure Hp (w : World) (B g : Nat) (v : Value) (xs : List Tm) : Prop where
  own : Own w B v xs
  cell : w.cell? ⟨g, 0, none⟩ = some v
  free : w.frozen? ⟨g, 0, none⟩ = false
  ne : v.ownBlock ≠ some g
  lo : B ≤ g
/-- The blocks that are a heap's. -/
def Its (g : Nat) (v : Value) (k : Nat) : Prop := k = g ∨ v.ownBlock = some k

section
variable {w w' : World} {B g : Nat} {v : Value} {xs : List Tm}
theorem Hp.bound (h : Hp w B g v xs) : g < w.heap.size := World.block_lt_of_cell? w _ h.cell
theorem Hp.keep (h : Hp w B g v xs) {S : Nat → Prop} (hk : Kept w w' S) (hS : ∀ k, Its g v k → ¬ S k) : Hp w' B g v xs :=
  ⟨h.own.keep fun k e => hk.block k (h.own.ge k e).2 (hS k (.inr e)), (World.cell?_of_block (a := ⟨g, 0, none⟩) (hk.block g h.bound (hS g (.inl rfl)))).trans h.cell,
    (World.frozen?_of_block (a := ⟨g, 0, none⟩) (hk.block g h.bound (hS g (.inl rfl)))).trans h.free, h.ne, h.lo⟩
theorem Hp.on (h : Hp w B g v xs) (hb : Below w.heap.size w w') : Hp w' B g v xs := h.keep (Kept.of_below hb (fun _ => False)) fun _ _ => id
theorem Hp.drew (h : Hp w B g v xs) : Hp w.drew B g v xs := ⟨h.own, h.cell, h.free, h.ne, h.lo⟩
theorem Hp.drewN (h : Hp w B g v xs) (n : Nat) : Hp (w.drewN n) B g v xs := ⟨h.own, h.cell, h.free, h.ne, h.lo⟩
theorem Hp.alloc (h : Hp w B g v xs) (o : Obj) : Hp (w.alloc o) B g v xs := h.on ((Below.refl _ _).alloc (Nat.le_refl _) o)
end

theorem one_new (w : World) (p q r s : Int) : (w.alloc (.cells #[.int .i64 p, .int .i64 q, .int .i64 r, .int .u64 s] 33)).heap[w.heap.size]? = some (.cells #[.int .i64 p, .int .i64 q, .int .i64 r, .int .u64 s] 33) := heap_alloc_new w _

theorem told_tm (x : Value) (w : World) : (Instr.typeAssert (.iface 33 x) 20 33 false).run Try.prog w = .ok x w := by
  simp [Instr.typeAssert, run_underlying Try.underlying33]

set_option maxRecDepth 100000 in
set_option maxHeartbeats 2000000 in
theorem push_any (B g : Nat) (v : Value) (xs : List Tm) (p q r s : Int) (w : World) (hn : xs.length ≤ 1000) (h : Hp w B g v xs) (hB : B ≤ w.heap.size) :
    Calls Try.prog 59 #[.pointer (some ⟨g, 0, none⟩), .iface 33 (.agg #[.int .i64 p, .int .i64 q, .int .i64 r, .int .u64 s])] w fun e w' =>
      ∃ v', e = .returned (.tuple #[]) ∧ Hp w' B g v' (xs ++ [⟨p, q, r, s⟩]) ∧ (v'.ownBlock = v.ownBlock ∨ ∃ b, w.heap.size ≤ b ∧ v'.ownBlock = some b) ∧ Kept w w' (Its g v) := by
  obtain ⟨i0, hi0, hz0, hz1, hz2⟩ := info_parts Try.infoTm
  have HH := Lib.hid h
  have hc := h.cell
  have hf := h.free
  have hglt := h.bound
  have hta := fun W => told_tm (.agg #[.int .i64 p, .int .i64 q, .int .i64 r, .int .u64 s]) W
  clear h
  go_enter Try.func59, Try.ntmps59
  go_wp2_with fail
  go_region_law
    ((refine step_append_lies _ (by rfl) _ _ _ (by rfl) B 33 i0 _ 4 32 Try.underlying61 hi0 hz0 hz1 hz2 rfl (by decide) v xs.length (tms xs) (by rfl) ((World.ownsRow.alloc HH.out.own _).drew)
        ⟨w.heap.size, 0, none⟩ 1 1 [.int .i64 p, .int .i64 q, .int .i64 r, .int .u64 s] (by rfl) (by rfl) (World.news_of_block (cs := #[.int .i64 p, .int .i64 q, .int .i64 r, .int .u64 s]) (t := 33) (fr := (0, 0)) (one_new w p q r s)) (by simp [Value.oneCell'])
        (by omega) (by unfold maxLen; omega) (by omega) (by simp [World.drew]; omega) (w.heap.size + 1) (by simp [World.drew]) ?_; intro gg cap w5 hown5 hgrow5 hat5 hlt5
      have hgne : some (⟨g, 0, none⟩ : Addr).block ≠ v.ownBlock := fun e => HH.out.ne e.symm
      have hc5 : w5.cell? ⟨g, 0, none⟩ = some v := (hgrow5.cell_far ⟨g, 0, none⟩ (by simp [World.drew]; omega) hgne).trans ((World.cell?_alloc_lt w _ ⟨g, 0, none⟩ hglt).trans hc)
      have hf5 : w5.frozen? ⟨g, 0, none⟩ = false := (hgrow5.frozen_far ⟨g, 0, none⟩ (by simp [World.drew]; omega) hgne).trans ((World.frozen?_of_block (a := ⟨g, 0, none⟩) (Below.heap_alloc w _ g hglt)).trans hf)))
  all_goals
    go_end0
    have hlen : (xs ++ [(⟨p, q, r, s⟩ : Tm)]).length = xs.length + 1 := by simp
    have hog : Own w5 B (.slice (some ⟨gg, 0, none⟩) (xs.length + 1) cap) (xs ++ [⟨p, q, r, s⟩]) := by
      unfold Own
      rw [hlen, tms_append]
      exact hown5
    have hgg : gg ≠ g := by
      rintro rfl
      rcases hat5 with e | e
      · exact HH.out.ne e
      · omega
    have hk : Kept w w5 (Its g v) := (Kept.refl w _).alloc _ |>.drew |>.trans (Kept.of_grown hgrow5 (S := fun i => v.ownBlock = some i) (fun _ e => e)) (fun i _ e => .inr e)
    refine ⟨.slice (some ⟨gg, 0, none⟩) (xs.length + 1) cap, rfl, ⟨?_, ?_, ?_, ?_, HH.out.lo⟩, ?_, ?_⟩
    · exact hog.keep fun k e => Below.heap_setCell w5 ⟨g, 0, none⟩ _ k (by
        have e' : gg = k := Option.some.inj e
        rw [← e']
        exact hgg)
    · exact World.cell?_setCell_same w5 _ _ hc5
    · rw [World.frozen?_setCell]; exact hf5
    · simp [Value.ownBlock]; exact hgg
    · rcases hat5 with e | e
      · exact .inl e.symm
      · exact .inr ⟨gg, by omega, rfl⟩
    · exact hk.set ⟨g, 0, none⟩ (.inr (.inl rfl)) _

theorem Own.some_ {w : World} {B : Nat} {v : Value} {xs : List Tm} (h : Own w B v xs) (hn : 0 < xs.length) : ∃ b c, v = .slice (some ⟨b, 0, none⟩) xs.length c ∧ B ≤ b ∧ b < w.heap.size ∧ xs.length ≤ c ∧ c ≤ maxLen := by
  rcases h.2 with ⟨_, h0⟩ | ⟨g, cap, cur, rfl, hb, hg, hc, hm, _⟩
  · omega
  · exact ⟨g, cap, rfl, hb, (h.ge g rfl).2, hc, hm⟩
theorem Own.cut {w : World} {B b n c : Nat} {xs : List Tm} (h : Own w B (.slice (some ⟨b, 0, none⟩) n c) xs) (k : Nat) (hk : k ≤ n) : Own w B (.slice (some ⟨b, 0, none⟩) k c) (xs.take k) := by
  obtain rfl := h.len
  have hl : (xs.take k).length = k := by rw [List.length_take]; omega
  rcases h.2 with ⟨h', _⟩ | ⟨g, cap, cur, hv, hb, hg, hc, hm, hs, ht⟩
  · cases h'
  · injection hv with h1 h2 h3
    injection h1 with h1
    injection h1 with h1
    subst h1 h3
    refine ⟨by rw [tms_len], .inr ⟨b, c, cur, by rw [hl], hb, hg, by omega, hm, hs, ?_⟩⟩
    rw [hl, tms_take, ← ht, List.take_take]
    congr 1
    omega

set_option maxRecDepth 100000 in
set_option maxHeartbeats 2000000 in
theorem mpop_any (B g n : Nat) (v : Value) (xs : List Tm) (w : World) (hn : xs.length = n + 1) (hm : n ≤ 1000) (h : Hp w B g v xs) :
    Calls Try.prog 58 #[.pointer (some ⟨g, 0, none⟩)] w fun e w' =>
      ∃ v', e = .returned (.iface 33 (.agg #[.int .i64 (nth xs n).a, .int .i64 (nth xs n).k, .int .i64 (nth xs n).o, .int .u64 (nth xs n).n])) ∧ Hp w' B g v' (xs.take n) ∧ v'.ownBlock = v.ownBlock ∧ Kept w w' (Its g v) := by
  obtain ⟨b, c, rfl, hb, hblt, hcap, hcm⟩ := h.own.some_ (by omega)
  have HH := Lib.hid h
  have hc := h.cell
  have hf := h.free
  have hglt := h.bound
  have HO := Lib.hid (h.own.cut n (by omega))
  have hcap' : n + 1 ≤ c := by omega
  obtain ⟨a0, a1, a2, a3, _, _, _, _⟩ := h.own.four n (by omega)
  generalize nth xs n = x at *
  have HN := Lib.hid hn
  rw [hn] at hc
  unfold maxLen at hcm
  clear h hn hcap
  have i1 : (n : Int) + 1 - 1 = n := by omega
  have i2 : (0 : Int) ≤ (n : Int) := by omega
  have i3 : (n : Int) < (n : Int) + 1 := by omega
  have i4 : (n : Int) ≤ (c : Int) := by omega
  go_enter Try.func58, Try.ntmps58
  go_wp2_with fail
  go_ret
  have hgb : b ≠ g := fun e => HH.out.ne (by rw [← e]; rfl)
  refine ⟨.slice (some ⟨b, 0, none⟩) n c, rfl, Hp.alloc (w := w.setCell _ _) ⟨?_, ?_, ?_, ?_, HH.out.lo⟩ _, rfl, ?_⟩
  · exact HO.out.keep fun k e => Below.heap_setCell w ⟨g, 0, none⟩ _ k (by
      have e' : b = k := Option.some.inj e
      rw [← e']
      exact hgb)
  · exact World.cell?_setCell_same w _ _ hc
  · rw [World.frozen?_setCell]; exact hf
  · simp [Value.ownBlock]; exact hgb
  · exact ((Kept.refl w _).set ⟨g, 0, none⟩ (.inr (.inl rfl)) _).alloc _

/-! ### the methods, reached through the interface -/
theorem load_v {w : World} {g : Nat} {v : Value} (hc : w.cell? ⟨g, 0, none⟩ = some v) : (loadVar 61 ⟨g, 0, none⟩).run Try.prog w = .ok v w := by
  simp [loadVar, isAgg, run_underlying Try.underlying61, hc]
theorem wrap_chk (t : TypeId) (a : Addr) (s nm : String) (w : World) : (Builtin.ssaWrapNilChk_ #[t] t #[.pointer (some a), strVal s, strVal nm]).run Try.prog w = .ok (.pointer (some a)) w := rfl
theorem meth_any {w : World} {g : Nat} {v : Value} (hc : w.cell? ⟨g, 0, none⟩ = some v) (F f : Nat) (nm : String) (h : (Try.prog.info? 51).bind (fun i => (i.methods.find? (·.name == nm)).map fun m => (m.path, m.func)) = some (#[], some (f, false))) :
   (method (F + 1) 51 (.pointer (some ⟨g, 0, none⟩)) nm).run Try.prog w = .ok (f, v) w := by
  rcases hi : Try.prog.info? 51 with _ | i
  · rw [hi] at h; cases h
  · rw [hi] at h
    simp only [Option.bind_some] at h
    rcases hm : i.methods.find? (·.name == nm) with _ | m
    · rw [hm] at h; cases h
    · rw [hm] at h
      simp only [Option.map_some, Option.some.injEq, Prod.mk.injEq] at h
      obtain ⟨h1, h2⟩ := h
      simp [method, typeInfo, hi, hm, h1, h2, follow, receiverAt, run_underlying Try.underlying51, Place.get, wrap_chk, asAddr, load_v hc]

theorem meth_ptr (w : World) (a : Addr) (F f : Nat) (nm : String) (h : (Try.prog.info? 51).bind (fun i => (i.methods.find? (·.name == nm)).map fun m => (m.path, m.func)) = some (#[], some (f, true))) :
    (method (F + 1) 51 (.pointer (some a)) nm).run Try.prog w = .ok (f, .pointer (some a)) w := by
  rcases hi : Try.prog.info? 51 with _ | i
  · rw [hi] at h; cases h
  · rw [hi] at h
    simp only [Option.bind_some] at h
    rcases hm : i.methods.find? (·.name == nm) with _ | m
    · rw [hm] at h; cases h
    · rw [hm] at h
      simp only [Option.map_some, Option.some.injEq, Prod.mk.injEq] at h
      obtain ⟨h1, h2⟩ := h
      simp [method, typeInfo, hi, hm, h1, h2, follow, receiverAt, run_underlying Try.underlying51, Place.get]
theorem m_len (g : Nat) (v : Value) (w : World) (hc : w.cell? ⟨g, 0, none⟩ = some v) : (method 192 51 (.pointer (some ⟨g, 0, none⟩)) "Len").run Try.prog w = .ok (38, v) w := meth_any hc 191 _ _ (by kernel_rfl)
theorem m_less (g : Nat) (v : Value) (w : World) (hc : w.cell? ⟨g, 0, none⟩ = some v) : (method 192 51 (.pointer (some ⟨g, 0, none⟩)) "Less").run Try.prog w = .ok (57, v) w := meth_any hc 191 _ _ (by kernel_rfl)
theorem m_swap (g : Nat) (v : Value) (w : World) (hc : w.cell? ⟨g, 0, none⟩ = some v) : (method 192 51 (.pointer (some ⟨g, 0, none⟩)) "Swap").run Try.prog w = .ok (60, v) w := meth_any hc 191 _ _ (by kernel_rfl)
theorem m_push (g : Nat) (w : World) : (method 192 51 (.pointer (some ⟨g, 0, none⟩)) "Push").run Try.prog w = .ok (59, .pointer (some ⟨g, 0, none⟩)) w := meth_ptr w _ 191 _ _ (by kernel_rfl)
theorem m_pop (g : Nat) (w : World) : (method 192 51 (.pointer (some ⟨g, 0, none⟩)) "Pop").run Try.prog w = .ok (58, .pointer (some ⟨g, 0, none⟩)) w := meth_ptr w _ 191 _ _ (by kernel_rfl)
end Go.Proofs.Ytbhpinmdpngbkaa
