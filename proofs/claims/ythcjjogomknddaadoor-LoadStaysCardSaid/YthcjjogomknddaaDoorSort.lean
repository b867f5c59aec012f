/-
  The library's SortFunc and Len at this program: the shelf's contracts, laid; a slice of the call's own, sorted.
-/
import Derived.Test.YthcjjogomknddaaDoorDig
import Derived.Shelf.SlSortCmp.WholeK
namespace Go.Proofs.YthcjjogomknddaaDoor
open Go.Shelf Go.Lib Go.Sort Go.RowKit Go.Proofs.YthcjjogomknddaaDoor.Pure

def sortPt_ren : Go.Shelf.Ren := ⟨fun | 6 => 46 | 15 => 54 | 14 => 53 | 28 => 71 | 29 => 72 | 20 => 63 | 21 => 64 | 22 => 65 | 23 => 66 | 24 => 67 | 25 => 68 | 26 => 69 | 27 => 70 | 46 => 78 | 47 => 79 | 48 => 80 | 49 => 81 | 50 => 82 | 57 => 87 | n => n, fun | 22 => 49 | 24 => 67 | 25 => 76 | 3 => 3 | 39 => 87 | 0 => 0 | 53 => 102 | 55 => 63 | 4 => 4 | 46 => 95 | 45 => 94 | 50 => 99 | 5 => 5 | 9 => 9 | 66 => 109 | 70 => 113 | 76 => 119 | 77 => 120 | n => n, fun n => n⟩
theorem sortPt : SlLaysF0.n6 Tryd.prog sortPt_ren := {
  mixed := by kernel_rfl
  f6 := ⟨Tryd.f46.name, by decide, Tryd.func46.trans (congrArg some (by kernel_rfl))⟩
  f14 := ⟨Tryd.f53.name, by decide, Tryd.func53.trans (congrArg some (by kernel_rfl))⟩
  f15 := Tryd.func54.trans (congrArg some (by kernel_rfl))
  f20 := ⟨Tryd.f63.name, by decide, Tryd.func63.trans (congrArg some (by kernel_rfl))⟩
  f21 := ⟨Tryd.f64.name, by decide, Tryd.func64.trans (congrArg some (by kernel_rfl))⟩
  f22 := ⟨Tryd.f65.name, by decide, Tryd.func65.trans (congrArg some (by kernel_rfl))⟩
  f23 := ⟨Tryd.f66.name, by decide, Tryd.func66.trans (congrArg some (by kernel_rfl))⟩
  f24 := ⟨Tryd.f67.name, by decide, Tryd.func67.trans (congrArg some (by kernel_rfl))⟩
  f25 := ⟨Tryd.f68.name, by decide, Tryd.func68.trans (congrArg some (by kernel_rfl))⟩
  f26 := ⟨Tryd.f69.name, by decide, Tryd.func69.trans (congrArg some (by kernel_rfl))⟩
  f27 := ⟨Tryd.f70.name, by decide, Tryd.func70.trans (congrArg some (by kernel_rfl))⟩
  f28 := Tryd.func71.trans (congrArg some (by kernel_rfl))
  f29 := Tryd.func72.trans (congrArg some (by kernel_rfl))
  f46 := ⟨Tryd.f78.name, by decide, Tryd.func78.trans (congrArg some (by kernel_rfl))⟩
  f47 := Tryd.func79.trans (congrArg some (by kernel_rfl))
  f48 := Tryd.func80.trans (congrArg some (by kernel_rfl))
  f49 := ⟨Tryd.f81.name, by decide, Tryd.func81.trans (congrArg some (by kernel_rfl))⟩
  f50 := ⟨Tryd.f82.name, by decide, Tryd.func82.trans (congrArg some (by kernel_rfl))⟩
  f57 := ⟨Tryd.f87.name, by decide, Tryd.func87.trans (congrArg some (by kernel_rfl))⟩
  t0 := Tryd.underlying0
  a0 := Tryd.isAgg0
  z0 := Tryd.sizeOf0
  v0 := Tryd.zeroValue0
  t3 := Tryd.underlying3
  a3 := Tryd.isAgg3
  z3 := Tryd.sizeOf3
  v3 := Tryd.zeroValue3
  t4 := Tryd.underlying4
  a4 := Tryd.isAgg4
  z4 := Tryd.sizeOf4
  v4 := Tryd.zeroValue4
  t5 := Tryd.underlying5
  a5 := Tryd.isAgg5
  z5 := Tryd.sizeOf5
  v5 := Tryd.zeroValue5
  t9 := Tryd.underlying9
  a9 := Tryd.isAgg9
  z9 := Tryd.sizeOf9
  v9 := Tryd.zeroValue9
  t22 := Tryd.underlying49
  a22 := Tryd.isAgg49
  z22 := Tryd.sizeOf49
  v22 := Tryd.zeroValue49
  t25 := Tryd.underlying76
  a25 := Tryd.isAgg76
  z25 := Tryd.sizeOf76
  v25 := Tryd.zeroValue76
  t39 := Tryd.underlying87
  a39 := Tryd.isAgg87
  z39 := Tryd.sizeOf87
  v39 := Tryd.zeroValue87
  t45 := Tryd.underlying94
  a45 := Tryd.isAgg94
  z45 := Tryd.sizeOf94
  v45 := Tryd.zeroValue94
  t46 := Tryd.underlying95
  a46 := Tryd.isAgg95
  z46 := Tryd.sizeOf95
  v46 := Tryd.zeroValue95
  t50 := Tryd.underlying99
  a50 := Tryd.isAgg99
  z50 := Tryd.sizeOf99
  v50 := Tryd.zeroValue99
  t53 := Tryd.underlying102
  a53 := Tryd.isAgg102
  z53 := Tryd.sizeOf102
  v53 := Tryd.zeroValue102
  t55 := Tryd.underlying63
  a55 := Tryd.isAgg63
  z55 := Tryd.sizeOf63
  v55 := Tryd.zeroValue63
  t66 := Tryd.underlying109
  a66 := Tryd.isAgg109
  z66 := Tryd.sizeOf109
  v66 := Tryd.zeroValue109
  t70 := Tryd.underlying113
  a70 := Tryd.isAgg113
  z70 := Tryd.sizeOf113
  v70 := Tryd.zeroValue113
  t76 := Tryd.underlying119
  a76 := Tryd.isAgg119
  z76 := Tryd.sizeOf119
  v76 := Tryd.zeroValue119
  t77 := Tryd.underlying120
  a77 := Tryd.isAgg120
  z77 := Tryd.sizeOf120
  v77 := Tryd.zeroValue120 }

theorem len_any (n : Nat) (w : World) (hn : n ≤ 1000) : Calls Tryd.prog 54 #[.int .u64 (n : Int)] w fun e w' => e = .returned (.int .i64 (Lib.bitLen n : Nat)) ∧ w = w' := by
  have L := sortPt
  have h := Any.bits_Len (SlLaysF0.n15.bits (P := Tryd.prog) (ρ := sortPt_ren) { L with }) (n : Int) w (by omega) (by omega)
  rw [Int.toNat_natCast] at h
  exact h.mono fun _ _ ⟨he, hw⟩ => ⟨he, hw.symm⟩

instance : Inhabited Pt := ⟨z3⟩
/-! ### the order is one -/
theorem ltO_eq (x y : Pt) : ltOf cfP x y = ltP x y := cfP_lt x y
theorem swoP : SWO (ltOf cfP) where
  irrefl x := by rw [ltO_eq]; exact ltP_irrefl x
  trans x y z h1 h2 := by rw [ltO_eq] at *; exact ltP_trans h1 h2
  ntrans x y z h1 h2 := by rw [ltO_eq, ltP_false] at *; omega

/-! ### a row of the call's own, as the sort has it -/
theorem flat_get (q : List Pt) (t : Nat) (h : t < q.length * 3) : (flatK ps1 3 q.toArray)[t]? = (pss q)[t]? := by
  have hs : (flatK ps1 3 q.toArray).size = q.length * 3 := by simp
  have e : t / 3 * 3 + t % 3 = t := by omega
  have h1 := pss_at q (t / 3) (t % 3) (by omega) (by omega)
  rw [e] at h1
  rw [h1, Array.getElem?_eq_getElem (by omega), ← getElem!_pos _ t (by omega), get_flatK _ _ _ t (by simpa using h)]
  have e2 : q.toArray[t / 3]! = pt q (t / 3) := by
    rw [getElem!_pos _ _ (by simp; omega), pt_lt q (by omega)]
    simp
  rw [e2]
  have hm : t % 3 < 3 := by omega
  generalize t % 3 = r at hm
  generalize pt q (t / 3) = x
  match r, hm with
  | 0, _ => rfl
  | 1, _ => rfl
  | 2, _ => rfl
theorem flat_list (q : List Pt) : (flatK ps1 3 q.toArray).toList = pss q := by
  apply List.ext_getElem?
  intro t
  by_cases h : t < q.length * 3
  · rw [Array.getElem?_toList, flat_get q t h]
  · rw [List.getElem?_eq_none (by simp; omega), List.getElem?_eq_none (by rw [pss_len]; omega)]
theorem holds_own {w : World} {B g c : Nat} {q : List Pt} (h : OwnP w B (.slice (some ⟨g, 0, none⟩) q.length c) q) : HoldsK ps1 3 w g 0 q.toArray := by
  intro j hj
  have hj' : j < q.length * 3 := by simpa using hj
  have hl : j < (pss q).length := by rw [pss_len]; exact hj'
  refine ⟨?_, World.ownsRow.frozenAt (w := w) h (0 + j)⟩
  rw [Nat.zero_add, World.ownsRow.cellAt (w := w) h j hj', ← flat_get q j hj']
  rw [getElem!_pos _ j hj]
  simp
theorem own_sorted {w : World} {B g c n : Nat} {os : Array Obj} {q d : List Pt} (h : OwnP w B (.slice (some ⟨g, 0, none⟩) q.length c) q) (hl : d.length = q.length) :
    OwnP (sortWorldK ps1 3 w g 0 n d.toArray os) B (.slice (some ⟨g, 0, none⟩) d.length c) d ∧ w.grownBy (sortWorldK ps1 3 w g 0 n d.toArray os) (some g) := by
  rcases h.2 with ⟨h0, _⟩ | ⟨g', cap, cur, he, hg, hh, hcap, hm, hsz, _⟩
  · cases h0
  obtain ⟨rfl, rfl⟩ : g = g' ∧ c = cap := by injection he with e1 _ e3; injection e1 with e1; injection e1 with e1 _ _; exact ⟨e1, e3⟩
  have hlt : g < w.heap.size := (Array.getElem?_eq_some_iff.1 hh).1
  constructor
  · refine ⟨pss_len d, .inr ⟨g, c, putCells id 0 (flatK ps1 3 d.toArray) cur, rfl, hg, ?_, by omega, hm, by simp [putCells, hsz], ?_⟩⟩
    · unfold sortWorldK
      rw [heap_grow_old _ _ (by simpa [putRowK, putRow, mapBlock, Sort.ahead] using hlt)]
      simp [putRowK, putRow, mapBlock, Sort.ahead, Array.getElem?_modify, hh, onCells]
    · rw [← flat_list d]
      apply List.ext_getElem?
      intro j
      by_cases hj : j < d.length * 3
      · rw [List.getElem?_take_of_lt hj, Array.getElem?_toList, Array.getElem?_toList]
        have : j < cur.size := by rw [hsz]; omega
        simp [putCells, hj, this]
      · rw [List.getElem?_take_eq_none (by omega), List.getElem?_eq_none (by simp; omega)]
  · refine ⟨rfl, rfl, rfl, by simp [sortWorldK, putRowK, putRow, mapBlock, Sort.ahead], fun k hk hne => ?_⟩
    unfold sortWorldK
    rw [heap_grow_old _ _ (by simpa [putRowK, putRow, mapBlock, Sort.ahead] using hk)]
    have : g ≠ k := fun e => hne (by rw [e])
    simp [putRowK, putRow, mapBlock, Sort.ahead, Array.getElem?_modify, this]

/-- What is sorted: as one list. -/
def srtOf (cf : Pt → Pt → Int) (q : List Pt) : List Pt := q.mergeSort fun x y => !ltOf cf y x
theorem srtOf_eq {cf : Pt → Pt → Int} (hO : SWO (ltOf cf)) {q d : List Pt} (hp : d.Perm q) (hs : d.Pairwise fun x y => ltOf cf y x = false) (ha : ∀ x ∈ q, ∀ y ∈ q, ltOf cf x y = false → ltOf cf y x = false → x = y) : d = srtOf cf q := by
  have h1 : (srtOf cf q).Perm q := List.mergeSort_perm q _
  have h2 : (srtOf cf q).Pairwise fun x y => ltOf cf y x = false := by
    have := List.pairwise_mergeSort (le := fun x y => !ltOf cf y x) (fun a b c h h' => by simp at *; exact hO.ntrans c b a h' h) (fun a b => by
      rcases hh : ltOf cf b a with _ | _
      · simp
      · have : ltOf cf a b = false := by
          rcases h' : ltOf cf a b with _ | _
          · rfl
          · have := hO.trans a b a h' hh
            rw [hO.irrefl] at this; cases this
        simp [this]) q
    exact this.imp (fun h => by simpa using h)
  refine List.Perm.eq_of_pairwise (le := fun x y => ltOf cf y x = false) ?_ hs h2 (hp.trans h1.symm)
  intro a b ha' hb' h h'
  exact ha a (hp.mem_iff.1 ha') b (h1.mem_iff.1 hb') h' h
theorem sorted_pair {lt : Pt → Pt → Bool} {d : Array Pt} (h : SortedIn lt 0 d.size d) : d.toList.Pairwise fun x y => lt y x = false := by
  rw [List.pairwise_iff_getElem]
  intro i j hi hj hij
  have := h i j (Nat.zero_le _) hij (by simpa using hj)
  rw [getElem!_pos _ _ (by simpa using hj), getElem!_pos _ _ (by simpa using hi)] at this
  simpa using this
theorem perm_in {q d : Array Pt} (h : PermIn 0 q.size q d) : d.toList.Perm q.toList := by
  have := h.2.2
  have hs := h.1
  have h1 : d.extract 0 q.size = d := by rw [← hs]; simp
  have h2 : q.extract 0 q.size = q := by simp
  rwa [h1, h2] at this

/-! ### nothing to be sorted -/
set_option maxRecDepth 100000 in
set_option maxHeartbeats 1000000 in
theorem ins_none (g : Nat) (w : World) : Calls Tryd.prog 63 #[.slice none 0 0, .int .i64 0, .int .i64 0, .func (.func g) #[] #[]] w fun e w' => e = .returned (.tuple #[]) ∧ w = w' := by
  go_enter Tryd.func63, Tryd.ntmps63
  go_wp2_with fail
  go_loop [8] (fun i => i = .int .i64 1) (fun _ => 0)
  case atStart => rfl
  case round =>
    subst hrel
    go_wp2_with fail
    go_end0
    exact ⟨rfl, rfl⟩
set_option maxRecDepth 100000 in
set_option maxHeartbeats 1000000 in
theorem pdq_none (g : Nat) (w : World) : Calls Tryd.prog 53 #[.slice none 0 0, .int .i64 0, .int .i64 0, .int .i64 0, .func (.func g) #[] #[]] w fun e w' => e = .returned (.tuple #[]) ∧ w = w' := by
  have HI := Lib.hid (fun W => ins_none g W)
  go_enter Tryd.func53, Tryd.ntmps53
  go_wp2_with fail
  go_loop [1, 2] (fun a b => a = .int .i64 0 ∧ b = .int .i64 0) (fun _ _ => 0)
  case atStart => exact ⟨rfl, rfl⟩
  case round =>
    obtain ⟨rfl, rfl⟩ := hrel
    go_wp2_with (go_at_call 63; refine (HI.out _).mono ?_; rintro e w' ⟨rfl, rfl⟩)
    (try simp only [Exit.inBlock, Exit.then]); refine bodyPost_ret (results_none rfl _ _ _) rfl ?_
    exact ⟨rfl, rfl⟩
set_option maxRecDepth 100000 in
set_option maxHeartbeats 1000000 in
theorem sort_none (g : Nat) (w : World) : Calls Tryd.prog 46 #[.slice none 0 0, .func (.func g) #[] #[]] w fun e w' => e = .returned (.tuple #[]) ∧ w = w' := by
  have HP := Lib.hid (fun W => pdq_none g W)
  have HL : Hid (∀ W, Calls Tryd.prog 54 #[.int .u64 0] W fun e w' => e = .returned (.int .i64 0) ∧ W = w') := Lib.hid (fun W => len_any 0 W (by decide))
  go_enter Tryd.func46, Tryd.ntmps46
  go_wp2_with (first | (go_at_call 54; refine (HL.out _).mono ?_; rintro e w' ⟨rfl, rfl⟩) | (go_at_call 53; refine (HP.out _).mono ?_; rintro e w' ⟨rfl, rfl⟩))
  go_end0
  exact ⟨rfl, rfl⟩

/-! ### a slice of the call's own, sorted -/
theorem sort_own (g : Nat) (cf : Pt → Pt → Int) (hO : SWO (ltOf cf)) (hg : ∀ (x y : Pt) (W : World), Calls Tryd.prog g #[.agg #[.int .u64 x.h, .int .i64 x.n, .int .i64 x.i], .agg #[.int .u64 y.h, .int .i64 y.n, .int .i64 y.i]] W fun e w' => e = .returned (.int .i64 (cf x y)) ∧ Grew W w')
    (eg : ∀ args w, (callFunc g args).run Tryd.prog w = .ok (.enter g args) w) (q : List Pt) (ha : ∀ x ∈ q, ∀ y ∈ q, ltOf cf x y = false → ltOf cf y x = false → x = y) (B : Nat) (v : Value) (w : World) (hn : q.length ≤ 3000) (h : OwnP w B v q) :
    Calls Tryd.prog 46 #[v, .func (.func g) #[] #[]] w fun e w' => e = .returned (.tuple #[]) ∧ OwnP w' B v (srtOf cf q) ∧ w.grownBy w' v.ownBlock := by
  rcases h.2 with ⟨rfl, h0⟩ | ⟨b, cap, cur, rfl, hb, hh, hcap, hm, hsz, htk⟩
  · obtain rfl : q = [] := List.eq_nil_of_length_eq_zero h0
    refine (sort_none g w).mono ?_
    rintro e w' ⟨rfl, rfl⟩
    exact ⟨rfl, by simpa [srtOf] using h, World.grownBy.refl _ _⟩
  · have hlt : b < w.heap.size := (Array.getElem?_eq_some_iff.1 hh).1
    have hcon := AnyQ.slices_SortFunc sortPt 3 Tryd.isAgg67 Tryd.sizeOf67 ps1 (fun _ => rfl) (fun x u hu => by simp [ps1] at hu; rcases hu with rfl | rfl | rfl <;> rfl) cf hO g #[] b 0 cap q.toArray w eg (fun _ _ _ _ x y => hg x y _) (holds_own h) hlt (by simp; omega)
    refine Calls.mono hcon ?_
    rintro e w' ⟨rfl, d', n, os, hp, hs, rfl⟩
    have hp' := perm_in hp
    have hs' := sorted_pair (lt := ltOf cf) (d := d') (by have := hp.1; rw [this]; simpa using hs)
    have he := srtOf_eq hO hp' hs' ha
    have hl : d'.toList.length = q.length := by simpa using hp'.length_eq
    have ho := own_sorted (n := n) (os := os) h hl
    rw [Array.toArray_toList] at ho
    rw [hl, he] at ho
    exact ⟨rfl, ho.1, ho.2⟩

/-- Points of the call's own, in order. -/
theorem sort_pts (q : List Pt) (B : Nat) (v : Value) (w : World) (hn : q.length ≤ 3000) (h : OwnP w B v q) :
    Calls Tryd.prog 46 #[v, .func (.func 47) #[] #[]] w fun e w' => e = .returned (.tuple #[]) ∧ OwnP w' B v (srtP q) ∧ w.grownBy w' v.ownBlock := by
  have h := sort_own 47 cfP swoP (fun x y W => order_grew x y W) (fun args w => by rfl) q (fun x _ y _ h1 h2 => by rw [ltO_eq] at *; exact ltP_eq h1 h2) B v w hn h
  have e : srtOf cfP q = srtP q := by
    unfold srtOf srtP
    congr 1
    funext x y
    rw [ltO_eq]
  rwa [e] at h
end Go.Proofs.YthcjjogomknddaaDoor
