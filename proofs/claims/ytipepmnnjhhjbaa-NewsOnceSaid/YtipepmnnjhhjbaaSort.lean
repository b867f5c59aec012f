/-
  The library's SortFunc and Len at this program: the shelf's contracts, laid; a slice of the call's own, sorted.
-/
import Derived.Test.YtipepmnnjhhjbaaTurn
import Derived.Shelf.SlSortCmp.WholeK
namespace Go.Proofs.Ytipepmnnjhhjbaa
open Go.Shelf Go.Lib Go.Sort Go.RowKit Go.Proofs.Ytipepmnnjhhjbaa.Pure

def sortTold_ren : Go.Shelf.Ren := ⟨fun | 6 => 32 | 15 => 24 | 14 => 46 | 28 => 38 | 29 => 39 | 20 => 51 | 21 => 52 | 22 => 53 | 23 => 54 | 24 => 55 | 25 => 56 | 26 => 57 | 27 => 58 | 46 => 60 | 47 => 61 | 48 => 62 | 49 => 63 | 50 => 64 | 57 => 65 | n => n, fun | 22 => 22 | 24 => 59 | 25 => 68 | 3 => 3 | 39 => 63 | 0 => 0 | 53 => 76 | 55 => 23 | 4 => 4 | 46 => 91 | 45 => 90 | 50 => 66 | 5 => 5 | 9 => 9 | 66 => 97 | 70 => 101 | 76 => 103 | 77 => 104 | n => n, fun n => n⟩
theorem sortTold : SlLaysF0.n6 Try.prog sortTold_ren := {
  mixed := by kernel_rfl
  f6 := ⟨Try.f32.name, by decide, Try.func32.trans (congrArg some (by kernel_rfl))⟩
  f14 := ⟨Try.f46.name, by decide, Try.func46.trans (congrArg some (by kernel_rfl))⟩
  f15 := Try.func24.trans (congrArg some (by kernel_rfl))
  f20 := ⟨Try.f51.name, by decide, Try.func51.trans (congrArg some (by kernel_rfl))⟩
  f21 := ⟨Try.f52.name, by decide, Try.func52.trans (congrArg some (by kernel_rfl))⟩
  f22 := ⟨Try.f53.name, by decide, Try.func53.trans (congrArg some (by kernel_rfl))⟩
  f23 := ⟨Try.f54.name, by decide, Try.func54.trans (congrArg some (by kernel_rfl))⟩
  f24 := ⟨Try.f55.name, by decide, Try.func55.trans (congrArg some (by kernel_rfl))⟩
  f25 := ⟨Try.f56.name, by decide, Try.func56.trans (congrArg some (by kernel_rfl))⟩
  f26 := ⟨Try.f57.name, by decide, Try.func57.trans (congrArg some (by kernel_rfl))⟩
  f27 := ⟨Try.f58.name, by decide, Try.func58.trans (congrArg some (by kernel_rfl))⟩
  f28 := Try.func38.trans (congrArg some (by kernel_rfl))
  f29 := Try.func39.trans (congrArg some (by kernel_rfl))
  f46 := ⟨Try.f60.name, by decide, Try.func60.trans (congrArg some (by kernel_rfl))⟩
  f47 := Try.func61.trans (congrArg some (by kernel_rfl))
  f48 := Try.func62.trans (congrArg some (by kernel_rfl))
  f49 := ⟨Try.f63.name, by decide, Try.func63.trans (congrArg some (by kernel_rfl))⟩
  f50 := ⟨Try.f64.name, by decide, Try.func64.trans (congrArg some (by kernel_rfl))⟩
  f57 := ⟨Try.f65.name, by decide, Try.func65.trans (congrArg some (by kernel_rfl))⟩
  t0 := Try.underlying0
  a0 := Try.isAgg0
  z0 := Try.sizeOf0
  v0 := Try.zeroValue0
  t3 := Try.underlying3
  a3 := Try.isAgg3
  z3 := Try.sizeOf3
  v3 := Try.zeroValue3
  t4 := Try.underlying4
  a4 := Try.isAgg4
  z4 := Try.sizeOf4
  v4 := Try.zeroValue4
  t5 := Try.underlying5
  a5 := Try.isAgg5
  z5 := Try.sizeOf5
  v5 := Try.zeroValue5
  t9 := Try.underlying9
  a9 := Try.isAgg9
  z9 := Try.sizeOf9
  v9 := Try.zeroValue9
  t22 := Try.underlying22
  a22 := Try.isAgg22
  z22 := Try.sizeOf22
  v22 := Try.zeroValue22
  t25 := Try.underlying68
  a25 := Try.isAgg68
  z25 := Try.sizeOf68
  v25 := Try.zeroValue68
  t39 := Try.underlying63
  a39 := Try.isAgg63
  z39 := Try.sizeOf63
  v39 := Try.zeroValue63
  t45 := Try.underlying90
  a45 := Try.isAgg90
  z45 := Try.sizeOf90
  v45 := Try.zeroValue90
  t46 := Try.underlying91
  a46 := Try.isAgg91
  z46 := Try.sizeOf91
  v46 := Try.zeroValue91
  t50 := Try.underlying66
  a50 := Try.isAgg66
  z50 := Try.sizeOf66
  v50 := Try.zeroValue66
  t53 := Try.underlying76
  a53 := Try.isAgg76
  z53 := Try.sizeOf76
  v53 := Try.zeroValue76
  t55 := Try.underlying23
  a55 := Try.isAgg23
  z55 := Try.sizeOf23
  v55 := Try.zeroValue23
  t66 := Try.underlying97
  a66 := Try.isAgg97
  z66 := Try.sizeOf97
  v66 := Try.zeroValue97
  t70 := Try.underlying101
  a70 := Try.isAgg101
  z70 := Try.sizeOf101
  v70 := Try.zeroValue101
  t76 := Try.underlying103
  a76 := Try.isAgg103
  z76 := Try.sizeOf103
  v76 := Try.zeroValue103
  t77 := Try.underlying104
  a77 := Try.isAgg104
  z77 := Try.sizeOf104
  v77 := Try.zeroValue104 }


theorem len_any (n : Nat) (w : World) (hn : n ≤ 1000) : Calls Try.prog 24 #[.int .u64 (n : Int)] w fun e w' => e = .returned (.int .i64 (Lib.bitLen n : Nat)) ∧ w = w' := by
  have L := sortTold
  have h := Any.bits_Len (SlLaysF0.n15.bits (P := Try.prog) (ρ := sortTold_ren) { L with }) (n : Int) w (by omega) (by omega)
  rw [Int.toNat_natCast] at h
  exact h.mono fun _ _ ⟨he, hw⟩ => ⟨he, hw.symm⟩

/-! ### the two orders are orders -/
theorem ltW_iff (x y : Td) : ltOf cfW x y = decide (x.w < y.w) := by
  unfold ltOf cfW
  rw [Bool.eq_iff_iff, decide_eq_true_iff, decide_eq_true_iff]
  rcases cmp_cases x.w y.w with c | c | c <;> omega
theorem ltT_iff (x y : Td) : ltOf cfT x y = decide (y.l < x.l ∨ (x.l = y.l ∧ x.w < y.w)) := by
  unfold ltOf cfT
  rw [Bool.eq_iff_iff, decide_eq_true_iff, decide_eq_true_iff]
  simp only [firstN, bne_iff_ne, ne_eq]
  rcases cmp_cases y.l x.l with c | c | c <;> rcases cmp_cases x.w y.w with d | d | d <;> rw [c.2, d.2] <;> simp <;> omega
theorem swoW : SWO (ltOf cfW) where
  irrefl x := by rw [ltW_iff]; simp
  trans x y z h1 h2 := by rw [ltW_iff] at *; simp at *; omega
  ntrans x y z h1 h2 := by rw [ltW_iff] at *; simp at *; omega
theorem swoT : SWO (ltOf cfT) where
  irrefl x := by rw [ltT_iff]; simp
  trans x y z h1 h2 := by rw [ltT_iff] at *; simp at *; omega
  ntrans x y z h1 h2 := by rw [ltT_iff] at *; simp at *; omega

/-! ### a row of the call's own, as the sort has it -/
theorem flat_get (q : List Td) (t : Nat) (h : t < q.length * 4) : (flatK tds1 4 q.toArray)[t]? = (tds q)[t]? := by
  have hs : (flatK tds1 4 q.toArray).size = q.length * 4 := by simp
  have e : t / 4 * 4 + t % 4 = t := by omega
  have h1 := tds_at q (t / 4) (t % 4) (by omega) (by omega)
  rw [e] at h1
  rw [h1, Array.getElem?_eq_getElem (by omega), ← getElem!_pos _ t (by omega), get_flatK _ _ _ t (by simpa using h)]
  have e2 : q.toArray[t / 4]! = td q (t / 4) := by
    rw [getElem!_pos _ _ (by simp; omega), td_lt q (by omega)]
    simp
  rw [e2]
  have hm : t % 4 < 4 := by omega
  generalize t % 4 = r at hm
  generalize td q (t / 4) = x
  match r, hm with
  | 0, _ => rfl
  | 1, _ => rfl
  | 2, _ => rfl
  | 3, _ => rfl
theorem flat_list (q : List Td) : (flatK tds1 4 q.toArray).toList = tds q := by
  apply List.ext_getElem?
  intro t
  by_cases h : t < q.length * 4
  · rw [Array.getElem?_toList, flat_get q t h]
  · rw [List.getElem?_eq_none (by simp; omega), List.getElem?_eq_none (by rw [tds_len]; omega)]
theorem holds_own {w : World} {B g c : Nat} {q : List Td} (h : OwnT w B (.slice (some ⟨g, 0, none⟩) q.length c) q) : HoldsK tds1 4 w g 0 q.toArray := by
  intro j hj
  have hj' : j < q.length * 4 := by simpa using hj
  have hl : j < (tds q).length := by rw [tds_len]; exact hj'
  refine ⟨?_, World.ownsRow.frozenAt (w := w) h (0 + j)⟩
  rw [Nat.zero_add, World.ownsRow.cellAt (w := w) h j hj', ← flat_get q j hj']
  rw [getElem!_pos _ j hj]
  simp
theorem own_sorted {w : World} {B g c n : Nat} {os : Array Obj} {q d : List Td} (h : OwnT w B (.slice (some ⟨g, 0, none⟩) q.length c) q) (hl : d.length = q.length) :
    OwnT (sortWorldK tds1 4 w g 0 n d.toArray os) B (.slice (some ⟨g, 0, none⟩) d.length c) d ∧ w.grownBy (sortWorldK tds1 4 w g 0 n d.toArray os) (some g) := by
  rcases h.2 with ⟨h0, _⟩ | ⟨g', cap, cur, he, hg, hh, hcap, hm, hsz, _⟩
  · cases h0
  obtain ⟨rfl, rfl⟩ : g = g' ∧ c = cap := by injection he with e1 _ e3; injection e1 with e1; injection e1 with e1 _ _; exact ⟨e1, e3⟩
  have hlt : g < w.heap.size := (Array.getElem?_eq_some_iff.1 hh).1
  constructor
  · refine ⟨tds_len d, .inr ⟨g, c, putCells id 0 (flatK tds1 4 d.toArray) cur, rfl, hg, ?_, by omega, hm, by simp [putCells, hsz], ?_⟩⟩
    · unfold sortWorldK
      rw [heap_grow_old _ _ (by simpa [putRowK, putRow, mapBlock, Sort.ahead] using hlt)]
      simp [putRowK, putRow, mapBlock, Sort.ahead, Array.getElem?_modify, hh, onCells]
    · rw [← flat_list d]
      apply List.ext_getElem?
      intro j
      by_cases hj : j < d.length * 4
      · rw [List.getElem?_take_of_lt hj, Array.getElem?_toList, Array.getElem?_toList]
        have : j < cur.size := by rw [hsz]; omega
        simp [putCells, hj, this]
      · rw [List.getElem?_take_eq_none (by omega), List.getElem?_eq_none (by simp; omega)]
  · refine ⟨rfl, rfl, rfl, by simp [sortWorldK, putRowK, putRow, mapBlock, Sort.ahead], fun k hk hne => ?_⟩
    unfold sortWorldK
    rw [heap_grow_old _ _ (by simpa [putRowK, putRow, mapBlock, Sort.ahead] using hk)]
    have : g ≠ k := fun e => hne (by rw [e])
    simp [putRowK, putRow, mapBlock, Sort.ahead, Array.getElem?_modify, this]

/-- What is sorted: as one list. -/
def srtOf (cf : Td → Td → Int) (q : List Td) : List Td := q.mergeSort fun x y => !ltOf cf y x
theorem srtOf_eq {cf : Td → Td → Int} (hO : SWO (ltOf cf)) {q d : List Td} (hp : d.Perm q) (hs : d.Pairwise fun x y => ltOf cf y x = false) (ha : ∀ x ∈ q, ∀ y ∈ q, ltOf cf x y = false → ltOf cf y x = false → x = y) : d = srtOf cf q := by
  have h1 : (srtOf cf q).Perm q := List.mergeSort_perm q _
  have h2 : (srtOf cf q).Pairwise fun x y => ltOf cf y x = false := by
    have := List.pairwise_mergeSort (le := fun x y => !ltOf cf y x) (fun a b c h h' => by simp at *; exact hO.ntrans c b a h' h) (fun a b => by
      rcases hh : ltOf cf b a with _ | _
      · simp
      · have : ltOf cf a b = false := by
          rcases h' : ltOf cf a b with _ | _
          · rfl
          · have := hO.trans a b a h' hh
            rw [hO.irrefl] at this; cases this
        simp [this]) q
    exact this.imp (fun h => by simpa using h)
  refine List.Perm.eq_of_pairwise (le := fun x y => ltOf cf y x = false) ?_ hs h2 (hp.trans h1.symm)
  intro a b ha' hb' h h'
  exact ha a (hp.mem_iff.1 ha') b (h1.mem_iff.1 hb') h' h
theorem sorted_pair {lt : Td → Td → Bool} {d : Array Td} (h : SortedIn lt 0 d.size d) : d.toList.Pairwise fun x y => lt y x = false := by
  rw [List.pairwise_iff_getElem]
  intro i j hi hj hij
  have := h i j (Nat.zero_le _) hij (by simpa using hj)
  rw [getElem!_pos _ _ (by simpa using hj), getElem!_pos _ _ (by simpa using hi)] at this
  simpa using this
theorem perm_in {q d : Array Td} (h : PermIn 0 q.size q d) : d.toList.Perm q.toList := by
  have := h.2.2
  have hs := h.1
  have h1 : d.extract 0 q.size = d := by rw [← hs]; simp
  have h2 : q.extract 0 q.size = q := by simp
  rwa [h1, h2] at this

/-! ### nothing to be sorted -/
set_option maxRecDepth 100000 in
set_option maxHeartbeats 1000000 in
theorem ins_none (g : Nat) (w : World) : Calls Try.prog 51 #[.slice none 0 0, .int .i64 0, .int .i64 0, .func (.func g) #[] #[]] w fun e w' => e = .returned (.tuple #[]) ∧ w = w' := by
  go_enter Try.func51, Try.ntmps51
  go_wp2_with fail
  go_loop [8] (fun i => i = .int .i64 1) (fun _ => 0)
  case atStart => rfl
  case round =>
    subst hrel
    go_wp2_with fail
    go_end0
    exact ⟨rfl, rfl⟩
set_option maxRecDepth 100000 in
set_option maxHeartbeats 1000000 in
theorem pdq_none (g : Nat) (w : World) : Calls Try.prog 46 #[.slice none 0 0, .int .i64 0, .int .i64 0, .int .i64 0, .func (.func g) #[] #[]] w fun e w' => e = .returned (.tuple #[]) ∧ w = w' := by
  have HI := Lib.hid (fun W => ins_none g W)
  go_enter Try.func46, Try.ntmps46
  go_wp2_with fail
  go_loop [1, 2] (fun a b => a = .int .i64 0 ∧ b = .int .i64 0) (fun _ _ => 0)
  case atStart => exact ⟨rfl, rfl⟩
  case round =>
    obtain ⟨rfl, rfl⟩ := hrel
    go_wp2_with (go_at_call 51; refine (HI.out _).mono ?_; rintro e w' ⟨rfl, rfl⟩)
    (try simp only [Exit.inBlock, Exit.then]); refine bodyPost_ret (results_none rfl _ _ _) rfl ?_
    exact ⟨rfl, rfl⟩
set_option maxRecDepth 100000 in
set_option maxHeartbeats 1000000 in
theorem sort_none (g : Nat) (w : World) : Calls Try.prog 32 #[.slice none 0 0, .func (.func g) #[] #[]] w fun e w' => e = .returned (.tuple #[]) ∧ w = w' := by
  have HP := Lib.hid (fun W => pdq_none g W)
  have HL : Hid (∀ W, Calls Try.prog 24 #[.int .u64 0] W fun e w' => e = .returned (.int .i64 0) ∧ W = w') := Lib.hid (fun W => len_any 0 W (by decide))
  go_enter Try.func32, Try.ntmps32
  go_wp2_with (first | (go_at_call 24; refine (HL.out _).mono ?_; rintro e w' ⟨rfl, rfl⟩) | (go_at_call 46; refine (HP.out _).mono ?_; rintro e w' ⟨rfl, rfl⟩))
  go_end0
  exact ⟨rfl, rfl⟩

/-! ### a slice of the call's own, sorted -/
/-- Two things in it that come neither first are one. -/
def Told1 (q : List Td) : Prop := ∀ x ∈ q, ∀ y ∈ q, x.w = y.w → x = y
theorem sort_own (g : Nat) (cf : Td → Td → Int) (hO : SWO (ltOf cf)) (hg : ∀ (x y : Td) (W : World), Calls Try.prog g #[.agg #[.int .i64 x.w, .int .u64 x.i, .int .i64 x.s, .int .i64 x.l], .agg #[.int .i64 y.w, .int .u64 y.i, .int .i64 y.s, .int .i64 y.l]] W fun e w' => e = .returned (.int .i64 (cf x y)) ∧ Grew W w')
    (eg : ∀ args w, (callFunc g args).run Try.prog w = .ok (.enter g args) w) (q : List Td) (ha : ∀ x ∈ q, ∀ y ∈ q, ltOf cf x y = false → ltOf cf y x = false → x = y) (B : Nat) (v : Value) (w : World) (hn : q.length ≤ 1000) (h : OwnT w B v q) :
    Calls Try.prog 32 #[v, .func (.func g) #[] #[]] w fun e w' => e = .returned (.tuple #[]) ∧ OwnT w' B v (srtOf cf q) ∧ w.grownBy w' v.ownBlock := by
  rcases h.2 with ⟨rfl, h0⟩ | ⟨b, cap, cur, rfl, hb, hh, hcap, hm, hsz, htk⟩
  · obtain rfl : q = [] := List.eq_nil_of_length_eq_zero h0
    refine (sort_none g w).mono ?_
    rintro e w' ⟨rfl, rfl⟩
    exact ⟨rfl, by simpa [srtOf] using h, World.grownBy.refl _ _⟩
  · have hlt : b < w.heap.size := (Array.getElem?_eq_some_iff.1 hh).1
    have hcon := AnyQ.slices_SortFunc sortTold 4 Try.isAgg59 Try.sizeOf59 tds1 (fun _ => rfl) (fun x u hu => by simp [tds1] at hu; rcases hu with rfl | rfl | rfl | rfl <;> rfl) cf hO g #[] b 0 cap q.toArray w eg (fun _ _ _ _ x y => hg x y _) (holds_own h) hlt (by simp; omega)
    refine Calls.mono hcon ?_
    rintro e w' ⟨rfl, d', n, os, hp, hs, rfl⟩
    have hp' := perm_in hp
    have hs' := sorted_pair (lt := ltOf cf) (d := d') (by have := hp.1; rw [this]; simpa using hs)
    have he := srtOf_eq hO hp' hs' ha
    have hl : d'.toList.length = q.length := by simpa using hp'.length_eq
    have ho := own_sorted (n := n) (os := os) h hl
    rw [Array.toArray_toList] at ho
    rw [hl, he] at ho
    exact ⟨rfl, ho.1, ho.2⟩
end Go.Proofs.Ytipepmnnjhhjbaa
