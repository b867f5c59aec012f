/-
  The walks of mayNews, partsOf, and the library's Index and Contains.
-/
import Derived.Test.YtjeepmdklbfgeaaDoorLay
namespace Go.Proofs.YtjeepmdklbfgeaaDoor
open Go.Sort Go.RowKit Go.Proofs.YtjeepmdklbfgeaaDoor.Pure

/-- Numbers in a slice. -/
def Is (w : World) (A : Option Addr) (xs : List Nat) : Prop := ∀ j, j < xs.length → ∃ ad, A = some ad ∧ ad.block < w.heap.size ∧ w.cell? (ad.add j) = some (.int .i64 ((xs.getD j 0 : Nat) : Int))
theorem Is.on {w w' : World} {A : Option Addr} {xs : List Nat} (h : Is w A xs) (hb : Below w.heap.size w w') : Is w' A xs := fun j hj => by
  obtain ⟨ad, e, h1, h2⟩ := h j hj
  exact ⟨ad, e, Nat.lt_of_lt_of_le h1 hb.size, (hb.cell (by rw [block_add]; exact h1)).trans h2⟩
theorem Is.nil (w : World) (A : Option Addr) : Is w A [] := fun j hj => absurd hj (by simp)
def Parts (w : World) (xs : List Nat) (e : Ending) (w' : World) : Prop := ∃ (A : Option Addr) (c : Nat), e = .returned (.slice A xs.length c) ∧ Is w' A xs ∧ (∀ ad, A = some ad → w.heap.size ≤ ad.block) ∧ Below w.heap.size w w'
theorem Is.new (w : World) (xs : List Nat) (cs : Array Value) (t : TypeId) (h : ∀ j, j < xs.length → cs[j]? = some (.int .i64 ((xs.getD j 0 : Nat) : Int))) : Is (w.alloc (.cells cs t)) (some ⟨w.heap.size, 0, none⟩) xs := fun j hj => by
  refine ⟨_, rfl, by simp, ?_⟩
  have e : (⟨w.heap.size, 0, none⟩ : Addr).add j = ⟨w.heap.size, j, none⟩ := by unfold Addr.add; split <;> simp_all
  rw [e, World.cell?_alloc_new]
  exact h j hj
theorem Parts.new (w : World) (xs : List Nat) (cs : Array Value) (t : TypeId) (h : ∀ j, j < xs.length → cs[j]? = some (.int .i64 ((xs.getD j 0 : Nat) : Int))) : Parts w xs (.returned (.slice (some ⟨w.heap.size, 0, none⟩) xs.length xs.length)) (w.alloc (.cells cs t)) :=
  ⟨_, _, rfl, Is.new w xs cs t h, (fun ad e => by injection e with e; rw [← e]; exact Nat.le_refl _), (Below.refl _ _).alloc (Nat.le_refl _) _⟩
set_option maxRecDepth 100000 in
set_option maxHeartbeats 4000000 in
theorem partsof_any (k : Int) (w : World) : Calls Tryd.prog 24 #[.int .i64 k] w (Parts w (pof k)) := by
  rcases kinds k with (rfl | rfl | rfl | rfl | rfl | rfl | rfl | rfl | rfl | rfl | rfl | rfl) | ⟨hk, e⟩
  · have hP := Lib.hid (Parts.new w [0, 2, 3] #[.int .i64 0, .int .i64 2, .int .i64 3] 3 (fun j hj => by match j, hj with | 0, _ => rfl | 1, _ => rfl | 2, _ => rfl))
    have e : pof 1 = [0, 2, 3] := rfl
    rw [e]
    clear e
    go_enter Tryd.func24, Tryd.ntmps24
    go_wp2
    go_ret
    exact hP.out
  · have hP := Lib.hid (Parts.new w [0, 1, 3] #[.int .i64 0, .int .i64 1, .int .i64 3] 3 (fun j hj => by match j, hj with | 0, _ => rfl | 1, _ => rfl | 2, _ => rfl))
    have e : pof 2 = [0, 1, 3] := rfl
    rw [e]
    clear e
    go_enter Tryd.func24, Tryd.ntmps24
    go_wp2
    go_ret
    exact hP.out
  · have hP := Lib.hid (Parts.new w [0, 1, 2, 3] #[.int .i64 0, .int .i64 1, .int .i64 2, .int .i64 3] 3 (fun j hj => by match j, hj with | 0, _ => rfl | 1, _ => rfl | 2, _ => rfl | 3, _ => rfl))
    have e : pof 3 = [0, 1, 2, 3] := rfl
    rw [e]
    clear e
    go_enter Tryd.func24, Tryd.ntmps24
    go_wp2
    go_ret
    exact hP.out
  · have hP := Lib.hid (Parts.new w [0, 1] #[.int .i64 0, .int .i64 1] 3 (fun j hj => by match j, hj with | 0, _ => rfl | 1, _ => rfl))
    have e : pof 4 = [0, 1] := rfl
    rw [e]
    clear e
    go_enter Tryd.func24, Tryd.ntmps24
    go_wp2
    go_ret
    exact hP.out
  · have hP := Lib.hid (Parts.new w [4] #[.int .i64 4] 3 (fun j hj => by match j, hj with | 0, _ => rfl))
    have e : pof 5 = [4] := rfl
    rw [e]
    clear e
    go_enter Tryd.func24, Tryd.ntmps24
    go_wp2
    go_ret
    exact hP.out
  · have hP := Lib.hid (Parts.new w [4] #[.int .i64 4] 3 (fun j hj => by match j, hj with | 0, _ => rfl))
    have e : pof 6 = [4] := rfl
    rw [e]
    clear e
    go_enter Tryd.func24, Tryd.ntmps24
    go_wp2
    go_ret
    exact hP.out
  · have hP := Lib.hid (Parts.new w [5, 6, 7] #[.int .i64 5, .int .i64 6, .int .i64 7] 3 (fun j hj => by match j, hj with | 0, _ => rfl | 1, _ => rfl | 2, _ => rfl))
    have e : pof 7 = [5, 6, 7] := rfl
    rw [e]
    clear e
    go_enter Tryd.func24, Tryd.ntmps24
    go_wp2
    go_ret
    exact hP.out
  · have hP := Lib.hid (Parts.new w [5, 6, 7] #[.int .i64 5, .int .i64 6, .int .i64 7] 3 (fun j hj => by match j, hj with | 0, _ => rfl | 1, _ => rfl | 2, _ => rfl))
    have e : pof 8 = [5, 6, 7] := rfl
    rw [e]
    clear e
    go_enter Tryd.func24, Tryd.ntmps24
    go_wp2
    go_ret
    exact hP.out
  · have hP := Lib.hid (Parts.new w [5, 6] #[.int .i64 5, .int .i64 6] 3 (fun j hj => by match j, hj with | 0, _ => rfl | 1, _ => rfl))
    have e : pof 9 = [5, 6] := rfl
    rw [e]
    clear e
    go_enter Tryd.func24, Tryd.ntmps24
    go_wp2
    go_ret
    exact hP.out
  · have hP := Lib.hid (Parts.new w [6, 7] #[.int .i64 6, .int .i64 7] 3 (fun j hj => by match j, hj with | 0, _ => rfl | 1, _ => rfl))
    have e : pof 10 = [6, 7] := rfl
    rw [e]
    clear e
    go_enter Tryd.func24, Tryd.ntmps24
    go_wp2
    go_ret
    exact hP.out
  · have hP := Lib.hid (Parts.new w [5, 6, 7, 8, 9] #[.int .i64 5, .int .i64 6, .int .i64 7, .int .i64 8, .int .i64 9] 3 (fun j hj => by match j, hj with | 0, _ => rfl | 1, _ => rfl | 2, _ => rfl | 3, _ => rfl | 4, _ => rfl))
    have e : pof 11 = [5, 6, 7, 8, 9] := rfl
    rw [e]
    clear e
    go_enter Tryd.func24, Tryd.ntmps24
    go_wp2
    go_ret
    exact hP.out
  · have hP := Lib.hid (Parts.new w [8, 9, 10] #[.int .i64 8, .int .i64 9, .int .i64 10] 3 (fun j hj => by match j, hj with | 0, _ => rfl | 1, _ => rfl | 2, _ => rfl))
    have e : pof 12 = [8, 9, 10] := rfl
    rw [e]
    clear e
    go_enter Tryd.func24, Tryd.ntmps24
    go_wp2
    go_ret
    exact hP.out
  · rw [e]
    have hP : Hid (Parts w [] (.returned (.slice none 0 0)) w) := Lib.hid ⟨none, 0, rfl, Is.nil _ _, (fun ad e => by cases e), Below.refl _ _⟩
    have e1 : (k == 1) = false := by simp; omega
    have e2 : (k == 2) = false := by simp; omega
    have e3 : (k == 3) = false := by simp; omega
    have e4 : (k == 4) = false := by simp; omega
    have e5 : (k == 5) = false := by simp; omega
    have e6 : (k == 6) = false := by simp; omega
    have e7 : (k == 7) = false := by simp; omega
    have e8 : (k == 8) = false := by simp; omega
    have e9 : (k == 9) = false := by simp; omega
    have e10 : (k == 10) = false := by simp; omega
    have e11 : (k == 11) = false := by simp; omega
    have e12 : (k == 12) = false := by simp; omega
    clear e hk
    go_enter Tryd.func24, Tryd.ntmps24
    go_wp2
    go_ret
    exact hP.out
set_option maxRecDepth 100000 in
set_option maxHeartbeats 4000000 in
theorem index_any (A : Option Addr) (c : Nat) (xs : List Nat) (i : Nat) (w : World) (hn : xs.length ≤ 1000) (h : Is w A xs) :
    Calls Tryd.prog 101 #[.slice A xs.length c, .int .i64 (i : Int)] w fun e w' => ∃ r : Int, e = .returned (.int .i64 r) ∧ Hid (0 ≤ r ↔ i ∈ xs) ∧ w = w' := by
  have Hc := Lib.hid h
  clear h
  go_enter Tryd.func101, Tryd.ntmps101
  go_wp2_with fail
  go_loop [8] (fun j => ∃ k : Nat, j = .int .i64 k ∧ k ≤ xs.length ∧ Hid (∀ m, m < k → xs.getD m 0 ≠ i)) (fun j => xs.length - (intOf j).toNat)
  case atStart => exact ⟨0, rfl, Nat.zero_le _, Lib.hid fun m hm => absurd hm (Nat.not_lt_zero m)⟩
  case round =>
    obtain ⟨k, rfl, hk, hok⟩ := hrel
    by_cases hlt : k < xs.length
    · obtain ⟨ad, rfl, hbk, hcell⟩ := Hc.out k hlt
      have k0 : (0 : Int) ≤ (k : Int) := by omega
      have k1 : (k : Int) < (xs.length : Int) := by omega
      have e0 : decide ((k : Int) < (xs.length : Int)) = true := by simpa using k1
      have e0' : decide (k < xs.length) = true := by simpa using hlt
      have hm : xs.getD k 0 ∈ xs := by
        rw [show xs.getD k 0 = xs[k] by simp [List.getD, hlt]]; exact List.getElem_mem hlt
      by_cases he : i = xs.getD k 0
      · have hC : Hid ((0 : Int) ≤ (k : Int) ↔ i ∈ xs) := Lib.hid ⟨fun _ => he ▸ hm, fun _ => k0⟩
        have e1 : ((i : Int) == ((xs.getD k 0 : Nat) : Int)) = true := by rw [← he]; simp
        generalize xs.getD k 0 = x at *
        clear hm he
        go_wp2_with fail
        go_ret
        exact ⟨_, rfl, hC, rfl⟩
      · have e1 : ((i : Int) == ((xs.getD k 0 : Nat) : Int)) = false := beq_eq_false_iff_ne.2 (fun e => he (by omega))
        have hok2 : Hid (∀ m, m < k + 1 → xs.getD m 0 ≠ i) := Lib.hid fun m hm => by
          rcases Nat.lt_or_ge m k with h' | h'
          · exact hok.out m h'
          · obtain rfl : m = k := by omega
            exact fun e => he e.symm
        generalize xs.getD k 0 = x at *
        clear hm he
        go_wp2_with fail
        go_round
        case rel => exact ⟨k + 1, by go_num, by omega, hok2⟩
        case measure => simp [intOf]; omega
    · have e0 : decide ((k : Int) < (xs.length : Int)) = false := by simp; omega
      have e0' : decide (k < xs.length) = false := by simpa using hlt
      have hC : Hid ((0 : Int) ≤ -1 ↔ i ∈ xs) := Lib.hid (by
        refine ⟨fun h => absurd h (by decide), fun hm => ?_⟩
        obtain ⟨m, hm, e⟩ := List.mem_iff_getElem.1 hm
        exact absurd (by simp [List.getD, hm, e]) (hok.out m (by omega)))
      go_wp2_with fail
      go_ret
      exact ⟨_, rfl, hC, rfl⟩
set_option maxRecDepth 100000 in
set_option maxHeartbeats 4000000 in
theorem contains_any (A : Option Addr) (c : Nat) (xs : List Nat) (i : Nat) (w : World) (hn : xs.length ≤ 1000) (h : Is w A xs) :
    Calls Tryd.prog 27 #[.slice A xs.length c, .int .i64 (i : Int)] w fun e w' => e = .returned (.bool (xs.contains i)) ∧ w = w' := by
  have HC := Lib.hid (index_any A c xs i w hn h)
  clear h
  go_enter Tryd.func27, Tryd.ntmps27
  go_wp2_with (go_at_call 101; refine HC.out.mono ?_; rintro e w1 ⟨r, rfl, hr, rfl⟩)
  go_ret
  exact ⟨ret_bool (by rw [Bool.eq_iff_iff]; simpa using hr.out), rfl⟩
set_option maxRecDepth 100000 in
set_option maxHeartbeats 4000000 in
theorem maynews_any (A : Option Addr) (c : Nat) (l : List Nw) (w : World) (hn : l.length ≤ 1000) (h : Ns w A l) :
    Calls Tryd.prog 69 #[.slice A l.length c] w fun e w' => e = .returned (.bool (mayNs l)) ∧ Below w.heap.size w w' := by
  by_cases h8 : 8 < l.length
  · have e0 : decide ((8 : Int) < (l.length : Int)) = true := by simp; omega
    have e0' : decide (8 < l.length) = true := by simpa using h8
    have hF : mayNs l = false := by unfold mayNs; simp; omega
    rw [hF]
    clear h hF
    go_enter Tryd.func69, Tryd.ntmps69
    go_wp2_with fail
    go_ret
    exact ⟨rfl, Below.refl _ _⟩
  have d0 : decide ((8 : Int) < (l.length : Int)) = false := by simp; omega
  have d0' : decide (8 < l.length) = false := by simpa using h8
  have H := Lib.hid h
  have HL : Hid (mayNs l = l.all oneB) := Lib.hid (by unfold mayNs; rw [show decide (l.length ≤ 8) = true by simp; omega, Bool.true_and])
  have HI := Lib.hid isnode_any
  have HK := Lib.hid (fun (W : World) (x : Kn) (g : Nat) (h : Bx W g x) (L : Bool) (hL : mayK x = L) => check_any (some ⟨g, 0, none⟩) 1 [x] W (by simp) (fun j hj => ⟨_, rfl, h.lt, by
    match j, hj with
    | 0, _ => exact ⟨by simpa [Addr.add, kn] using h.1, by simpa [Addr.add, kn] using h.2⟩⟩) L (by simpa [mayL] using hL))
  have ho : okE true = 0 := rfl
  have hz : okE false = 1 := rfl
  clear h
  go_enter Tryd.func69, Tryd.ntmps69
  go_wp2_with fail
  go_loopw [10] (fun i wr => ∃ k : Nat, i = .int .i64 k ∧ k ≤ l.length ∧ Hid (∀ j, j < k → oneB (nw l j) = true) ∧ Hid (Below w.heap.size w wr)) (fun i _ => l.length - (intOf i).toNat)
  case atStart => exact ⟨0, rfl, Nat.zero_le _, Lib.hid (fun j hj => absurd hj (Nat.not_lt_zero j)), Lib.hid (Below.refl _ _)⟩
  case round =>
    obtain ⟨k, rfl, hk, hok, hb⟩ := hrel
    by_cases hlt : k < l.length
    · obtain ⟨ad, rfl, hlo, h1⟩ := (H.out.on hb.out) k hlt
      have HX : Hid (oneB (nw l k) = (isN (nw l k).w && mayK ⟨(nw l k).i, (nw l k).s⟩)) := Lib.hid rfl
      have HF : Hid (oneB (nw l k) = false → mayNs l = false) := Lib.hid (fun h => by
        rw [HL.out]
        rcases e : l.all oneB with _ | _
        · rfl
        · rw [List.all_eq_true.1 e _ (nw_mem l hlt)] at h; cases h)
      have HS : Hid (oneB (nw l k) = true → ∀ j, j < k + 1 → oneB (nw l j) = true) := Lib.hid (fun h j hj => by
        rcases Nat.lt_or_ge j k with hjk | hjk
        · exact hok.out j hjk
        · obtain rfl : j = k := by omega
          exact h)
      generalize hO : oneB (nw l k) = O at *
      generalize nw l k = x at *
      obtain ⟨a0, a1, a2⟩ := h1.flat
      obtain ⟨xw, xi, xs⟩ := x
      simp only [] at a0 a1 a2 HX
      have k0 : (0 : Int) ≤ (k : Int) := by omega
      have k1 : (k : Int) < (l.length : Int) := by omega
      have e0 : decide ((k : Int) < (l.length : Int)) = true := by simpa using k1
      have e0' : decide (k < l.length) = true := by simpa using hlt
      have hsw := hb.out.size
      have HB1 : Hid (Below w.heap.size w (wr.alloc (.cells #[.int .i64 xw, .int .u64 xi, .int .i64 xs] 63))) := Lib.hid (hb.out.alloc hsw _)
      rcases hN : isN xw with _ | _
      · have hOF : O = false := by rw [HX.out, hN]; rfl
        have HR := Lib.hid (HF.out hOF)
        have HIx := Lib.hid (fun W => HI.out xw W)
        rw [hN] at HIx
        clear h1 hO hOF HX HF HS HI hN
        go_wp2_with (go_at_call 26; refine (HIx.out _).mono ?_; rintro e w2 ⟨rfl, rfl⟩)
        go_ret
        exact ⟨ret_bool HR.out.symm, HB1.out⟩
      · have HIx := Lib.hid (fun W => HI.out xw W)
        rw [hN] at HIx
        have HB2 : Hid (Below w.heap.size w ((wr.alloc (.cells #[.int .i64 xw, .int .u64 xi, .int .i64 xs] 63)).alloc (.cells #[.int .u64 xi, .int .i64 xs] 24))) := Lib.hid (HB1.out.alloc HB1.out.size _)
        have BX : Hid (Bx ((wr.alloc (.cells #[.int .i64 xw, .int .u64 xi, .int .i64 xs] 63)).alloc (.cells #[.int .u64 xi, .int .i64 xs] 24)) (wr.heap.size + 1) ⟨xi, xs⟩) := Lib.hid (by have := Bx.new (wr.alloc (.cells #[.int .i64 xw, .int .u64 xi, .int .i64 xs] 63)) ⟨xi, xs⟩ 24; simpa using this)
        rcases hM : mayK ⟨xi, xs⟩ with _ | _
        · have hOF : O = false := by rw [HX.out, hN, hM]; rfl
          have HR := Lib.hid (HF.out hOF)
          have HKx := Lib.hid (HK.out _ _ _ BX.out _ hM)
          rw [hz] at HKx
          clear h1 hO hOF HX HF HS HI hN HK hM
          go_wp2_with (first | (go_at_call 26; refine (HIx.out _).mono ?_; rintro e w2 ⟨rfl, rfl⟩) | (go_at_call 62; refine HKx.out.mono ?_; rintro e w2 ⟨rfl, hb2⟩))
          go_ret
          exact ⟨ret_bool HR.out.symm, HB2.out.trans (hb2.mono HB2.out.size)⟩
        · have hOT : O = true := by rw [HX.out, hN, hM]; rfl
          have HS2 := Lib.hid (HS.out hOT)
          have HKx := Lib.hid (HK.out _ _ _ BX.out _ hM)
          rw [ho] at HKx
          clear h1 hO hOT HX HF HS HI hN HK hM
          go_wp2_with (first | (go_at_call 26; refine (HIx.out _).mono ?_; rintro e w2 ⟨rfl, rfl⟩) | (go_at_call 62; refine HKx.out.mono ?_; rintro e w2 ⟨rfl, hb2⟩))
          go_roundw
          case rel => exact ⟨k + 1, by go_num, by omega, HS2, Lib.hid (HB2.out.trans (hb2.mono HB2.out.size))⟩
          case measure => simp [intOf]; omega
    · have e0 : decide ((k : Int) < (l.length : Int)) = false := by simp; omega
      have e0' : decide (k < l.length) = false := by simpa using hlt
      have hT : mayNs l = true := by
        rw [HL.out, List.all_eq_true]
        intro x hx
        obtain ⟨j, hj, rfl⟩ := List.mem_iff_getElem.1 hx
        have := hok.out j (by omega)
        rwa [nw_lt l hj] at this
      have HR := Lib.hid hT
      clear hT
      go_wp2_with fail
      go_ret
      exact ⟨ret_bool HR.out.symm, hb.out⟩
end Go.Proofs.YtjeepmdklbfgeaaDoor
