/-
  The walks of takeList: lists of news, and of what is known.
-/
import Derived.Test.YtjeepmdklbfgeaaDoorTakes
namespace Go.Proofs.YtjeepmdklbfgeaaDoor
open Go.Sort Go.RowKit Go.Proofs.YtjeepmdklbfgeaaDoor.Pure Go.Proofs.YtjeepmdklbfgeaaDoor.W Go.Proofs.YtjeepmdklbfgeaaDoor.W.Pure

theorem Kp.grown {B : Nat} {S : List Nat} {a w w' : World} {row : Option Nat} (h : Kp B S a w) (hs : B ≤ w.heap.size) (hg : w.grownBy w' row) (hr : ∀ k, row = some k → B ≤ k) : Kp B S a w' :=
  h.trans ⟨hg.os, hg.tape, hg.output, hg.size, fun k hk _ => hg.block k (by omega) (fun e => by have := hr k e.symm; omega)⟩
theorem Row.blk {w w' : World} {b : Nat} {cs : List Value} (h : Row w b cs) (hb : w'.heap[b]? = w.heap[b]?) : Row w' b cs :=
  ⟨fun j hj => (World.cell?_of_block hb).trans (h.1 j hj), fun o => (World.frozen?_of_block (a := ⟨b, o, none⟩) hb).trans (h.2 o)⟩
theorem TkAt.grown {w w' : World} {b : Nat} {s : ByteArray} {t : Tk} {row : Option Nat} (h : TkAt w b s t) (hg : w.grownBy w' row) (hr : ∀ k, row = some k → k ≠ b) : TkAt w' b s t :=
  Row.blk h (hg.block b h.lt (fun e => hr b e.symm rfl))
set_option maxRecDepth 100000 in
set_option maxHeartbeats 4000000 in
theorem takelist_News (b : Nat) (s : ByteArray) (t : Tk) (w : World) (hs : s.size ≤ 140737488351232) (ht : t.p ≤ s.size) (h : TkAt w b s t) :
    Calls Tryd.prog 75 #[.pointer (some ⟨b, 0, none⟩), .int .u64 8, .func (.func 76) #[.pointer (some ⟨b, 0, none⟩)] #[]] w fun e w' => ∃ v, e = .returned v ∧ OwnN w' w.heap.size v (tnws s t).1 ∧ Took w b s (tnws s t).2 w' := by
  have H1 := Lib.hid (number_any b 8 s t w hs ht h)
  have H2 := Lib.hid (fun (W : World) (k : Nat) (h : TkAt W b s (tls (tnw s) k (tnum s 8 t).2).2) => news_any b s _ W hs (tls_le s _ (tnw_le s) k _ (tnum_le s _ t ht)) h)
  have hm := tnum_most s 8 t
  have hE : tnws s t = tls (tnw s) (tnum s 8 t).1 (tnum s 8 t).2 := rfl
  have HN : Hid (∀ k, (tls (tnw s) (k + 1) (tnum s 8 t).2).1 = (tls (tnw s) k (tnum s 8 t).2).1 ++ [(tnw s (tls (tnw s) k (tnum s 8 t).2).2).1] ∧ (tls (tnw s) (k + 1) (tnum s 8 t).2).2 = (tnw s (tls (tnw s) k (tnum s 8 t).2).2).2) := Lib.hid (fun k => ⟨rfl, rfl⟩)
  have HL : Hid (∀ k, (tls (tnw s) k (tnum s 8 t).2).1.length = k) := Lib.hid (fun k => tls_len _ k _)
  have HZ : Hid ((tls (tnw s) 0 (tnum s 8 t).2).1 = [] ∧ (tls (tnw s) 0 (tnum s 8 t).2).2 = (tnum s 8 t).2) := Lib.hid ⟨rfl, rfl⟩
  have hlt := h.lt
  rw [hE]
  clear hE h
  generalize (tnum s 8 t).1 = n at *
  generalize (tnum s 8 t).2 = t1 at *
  obtain ⟨f, hf⟩ : ∃ f, f = fun k => tls (tnw s) k t1 := ⟨_, rfl⟩
  have hf' : ∀ k, tls (tnw s) k t1 = f k := fun k => by rw [hf]
  simp only [hf'] at *
  obtain ⟨g, hg⟩ : ∃ g, g = fun k => tnw s (f k).2 := ⟨_, rfl⟩
  have hg' : ∀ k, tnw s (f k).2 = g k := fun k => by rw [hg]
  simp only [hg'] at *
  clear hf hf' hg hg'
  go_enter Tryd.func75, Tryd.ntmps75
  go_wp2_with (go_at_call 88; refine H1.out.mono ?_; rintro e w1 ⟨rfl, hT⟩)
  have HT := Lib.hid hT
  clear hT H1
  go_loopw [7, 11] (fun v i wr => ∃ k : Nat, i = .int .u64 k ∧ k ≤ n ∧ Hid (OwnN wr w.heap.size v (f k).1) ∧ Hid (Took w b s (f k).2 wr)) (fun _ i _ => n - (intOf i).toNat)
  case atStart => exact ⟨0, rfl, Nat.zero_le _, Lib.hid (by rw [HZ.out.1]; exact OwnN.nil _ _), Lib.hid (by rw [HZ.out.2]; exact HT.out)⟩
  case round =>
    obtain ⟨k, rfl, hk, hown, hT⟩ := hrel
    by_cases hlt2 : k < n
    · have e0 : decide ((k : Int) < (n : Int)) = true := by simp; omega
      have e0' : decide (k < n) = true := by simpa using hlt2
      have HC := Lib.hid (H2.out wr k hT.out.1)
      have HX := Lib.hid (HN.out k)
      have hln := HL.out k
      generalize (g k).1 = x at *
      generalize (g k).2 = t2 at *
      have hsw := hT.out.2.size
      go_wp2_with (first | (go_at_call 76; refine HC.out.mono ?_; rintro e w2 ⟨rfl, hT2⟩; have HT2 := Lib.hid (hT.out.trans hT2); have HO2 := Lib.hid (hown.out.kp hT2.2 (by simpa using hlt)); have hs2 := hT2.2.size; clear hT2) | (at_builtin; refine wpList_appendNw rfl _ _ rfl w.heap.size _ (f k).1 rfl ?c1 (some ⟨w2.heap.size, 0, none⟩) 1 [x] rfl ?c2 ?c3 ?c4 ?_))
      case c1 => exact HO2.out.alloc _
      case c2 => exact Ns.one w2 x _
      case c3 => simp only [List.length_cons, List.length_nil]; omega
      case c4 => simp; omega
      · intro v' w3 hO3 hgr
        have hB2 : w.heap.size ≤ w2.heap.size := by omega
        have hge : ∀ j, Value.ownBlock _ = some j → w.heap.size ≤ j := fun j e => (HO2.out.ge j e).1
        have HO3 : Hid (OwnN w3 w.heap.size v' (f (k + 1)).1) := Lib.hid (by rw [HX.out.1]; exact hO3)
        have HT3 : Hid (Took w b s (f (k + 1)).2 w3) := Lib.hid (by
          rw [HX.out.2]
          refine ⟨(HT2.out.1.on ((Below.refl _ _).alloc (Nat.le_refl _) _)).grown hgr (fun j e => by have := hge j e; omega), ?_⟩
          exact (HT2.out.2.alloc hB2 _).grown (by simp; omega) hgr hge)
        clear hO3 hgr HT2 HO2 hge HX hown hT
        go_wp2_with fail
        go_roundw
        case rel => exact ⟨k + 1, by go_num, by omega, HO3, HT3⟩
        case measure => simp [intOf]; omega
    · have e0 : decide ((k : Int) < (n : Int)) = false := by simp; omega
      have e0' : decide (k < n) = false := by simpa using hlt2
      obtain rfl : k = n := by omega
      go_wp2_with fail
      go_ret
      exact ⟨_, rfl, hown.out, hT.out⟩
set_option maxRecDepth 100000 in
set_option maxHeartbeats 4000000 in
theorem takelist_Know (b : Nat) (s : ByteArray) (t : Tk) (w : World) (hs : s.size ≤ 140737488351232) (ht : t.p ≤ s.size) (h : TkAt w b s t) :
    Calls Tryd.prog 83 #[.pointer (some ⟨b, 0, none⟩), .int .u64 64, .func (.func 67) #[.pointer (some ⟨b, 0, none⟩)] #[]] w fun e w' => ∃ v, e = .returned v ∧ Own w' w.heap.size v (ttbs s t).1 ∧ Took w b s (ttbs s t).2 w' := by
  have H1 := Lib.hid (number_any b 64 s t w hs ht h)
  have H2 := Lib.hid (fun (W : World) (k : Nat) (h : TkAt W b s (tls (tkn s) k (tnum s 64 t).2).2) => know_any b s _ W hs (tls_le s _ (tkn_le s) k _ (tnum_le s _ t ht)) h)
  have hm := tnum_most s 64 t
  have hE : ttbs s t = tls (tkn s) (tnum s 64 t).1 (tnum s 64 t).2 := rfl
  have HN : Hid (∀ k, (tls (tkn s) (k + 1) (tnum s 64 t).2).1 = (tls (tkn s) k (tnum s 64 t).2).1 ++ [(tkn s (tls (tkn s) k (tnum s 64 t).2).2).1] ∧ (tls (tkn s) (k + 1) (tnum s 64 t).2).2 = (tkn s (tls (tkn s) k (tnum s 64 t).2).2).2) := Lib.hid (fun k => ⟨rfl, rfl⟩)
  have HL : Hid (∀ k, (tls (tkn s) k (tnum s 64 t).2).1.length = k) := Lib.hid (fun k => tls_len _ k _)
  have HZ : Hid ((tls (tkn s) 0 (tnum s 64 t).2).1 = [] ∧ (tls (tkn s) 0 (tnum s 64 t).2).2 = (tnum s 64 t).2) := Lib.hid ⟨rfl, rfl⟩
  have hlt := h.lt
  rw [hE]
  clear hE h
  generalize (tnum s 64 t).1 = n at *
  generalize (tnum s 64 t).2 = t1 at *
  obtain ⟨f, hf⟩ : ∃ f, f = fun k => tls (tkn s) k t1 := ⟨_, rfl⟩
  have hf' : ∀ k, tls (tkn s) k t1 = f k := fun k => by rw [hf]
  simp only [hf'] at *
  obtain ⟨g, hg⟩ : ∃ g, g = fun k => tkn s (f k).2 := ⟨_, rfl⟩
  have hg' : ∀ k, tkn s (f k).2 = g k := fun k => by rw [hg]
  simp only [hg'] at *
  clear hf hf' hg hg'
  go_enter Tryd.func83, Tryd.ntmps83
  go_wp2_with (go_at_call 88; refine H1.out.mono ?_; rintro e w1 ⟨rfl, hT⟩)
  have HT := Lib.hid hT
  clear hT H1
  go_loopw [7, 11] (fun v i wr => ∃ k : Nat, i = .int .u64 k ∧ k ≤ n ∧ Hid (Own wr w.heap.size v (f k).1) ∧ Hid (Took w b s (f k).2 wr)) (fun _ i _ => n - (intOf i).toNat)
  case atStart => exact ⟨0, rfl, Nat.zero_le _, Lib.hid (by rw [HZ.out.1]; exact Own.nil _ _), Lib.hid (by rw [HZ.out.2]; exact HT.out)⟩
  case round =>
    obtain ⟨k, rfl, hk, hown, hT⟩ := hrel
    by_cases hlt2 : k < n
    · have e0 : decide ((k : Int) < (n : Int)) = true := by simp; omega
      have e0' : decide (k < n) = true := by simpa using hlt2
      have HC := Lib.hid (H2.out wr k hT.out.1)
      have HX := Lib.hid (HN.out k)
      have hln := HL.out k
      generalize (g k).1 = x at *
      generalize (g k).2 = t2 at *
      have hsw := hT.out.2.size
      go_wp2_with (first | (go_at_call 67; refine HC.out.mono ?_; rintro e w2 ⟨rfl, hT2⟩; have HT2 := Lib.hid (hT.out.trans hT2); have HO2 := Lib.hid (hown.out.kp hT2.2 (by simpa using hlt)); have hs2 := hT2.2.size; clear hT2) | (at_builtin; refine wpList_append_lst rfl _ _ rfl w.heap.size _ (f k).1 rfl ?c1 (some ⟨w2.heap.size, 0, none⟩) 1 [x] rfl ?c2 ?c3 ?c4 ?_))
      case c1 => exact HO2.out.alloc _
      case c2 => exact Lst.one w2 x _
      case c3 => simp only [List.length_cons, List.length_nil]; omega
      case c4 => simp; omega
      · intro v' w3 hO3 hgr
        have hB2 : w.heap.size ≤ w2.heap.size := by omega
        have hge : ∀ j, Value.ownBlock _ = some j → w.heap.size ≤ j := fun j e => (HO2.out.ge j e).1
        have HO3 : Hid (Own w3 w.heap.size v' (f (k + 1)).1) := Lib.hid (by rw [HX.out.1]; exact hO3)
        have HT3 : Hid (Took w b s (f (k + 1)).2 w3) := Lib.hid (by
          rw [HX.out.2]
          refine ⟨(HT2.out.1.on ((Below.refl _ _).alloc (Nat.le_refl _) _)).grown hgr (fun j e => by have := hge j e; omega), ?_⟩
          exact (HT2.out.2.alloc hB2 _).grown (by simp; omega) hgr hge)
        clear hO3 hgr HT2 HO2 hge HX hown hT
        go_wp2_with fail
        go_roundw
        case rel => exact ⟨k + 1, by go_num, by omega, HO3, HT3⟩
        case measure => simp [intOf]; omega
    · have e0 : decide ((k : Int) < (n : Int)) = false := by simp; omega
      have e0' : decide (k < n) = false := by simpa using hlt2
      obtain rfl : k = n := by omega
      go_wp2_with fail
      go_ret
      exact ⟨_, rfl, hown.out, hT.out⟩
end Go.Proofs.YtjeepmdklbfgeaaDoor
