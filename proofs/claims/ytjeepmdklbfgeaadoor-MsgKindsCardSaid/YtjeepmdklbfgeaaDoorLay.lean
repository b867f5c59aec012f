/-
  The walks of what lays parts of messages down: layKnow, layNews, layList, layText, layGood; numbers of two and three.
-/
import Derived.Test.YtjeepmdklbfgeaaDoorNames
import Derived.Test.YtjeepmdklbfgeaaDoorSeq
import Derived.Test.YtjeepmdklbfgeaaDoorWSeal
namespace Go.Proofs.YtjeepmdklbfgeaaDoor
open Go.Sort Go.RowKit Go.Proofs.YtjeepmdklbfgeaaDoor.Pure Go.Proofs.YtjeepmdklbfgeaaDoor.W Go.Proofs.YtjeepmdklbfgeaaDoor.W.Pure

/-- Octets as a text. -/
def tx (l : List UInt8) : ByteArray := ⟨l.toArray⟩
theorem tx_app (a b : List UInt8) : tx a ++ tx b = tx (a ++ b) := ByteArray.mk_append_mk a b
theorem tx_size (a : List UInt8) : (tx a).size = a.length := by show a.toArray.size = _; simp
theorem tx_list (a : List UInt8) : (tx a).data.toList = a := by simp [tx]
theorem ret_tx {a b : ByteArray} (h : a = b) : Ending.returned (.string a) = .returned (.string b) := by rw [h]
theorem nums1 (a : Nat) : nums [a] = num a := by simp [nums]
theorem nums2 (a b : Nat) : nums [a, b] = num a ++ num b := by simp [nums]
theorem nums3 (a b c : Nat) : nums [a, b, c] = num a ++ (num b ++ num c) := by simp [nums]
/-- Of one number, two, three, which lie at the head of a block. -/
theorem tnum1 (a g : Nat) (w : World) (ha : a < 2 ^ 64) (hg : g < w.heap.size) (h0 : w.cell? ⟨g, 0, none⟩ = some (.int .u64 a)) :
    Calls Tryd.prog 22 #[.slice (some ⟨g, 0, none⟩) 1 1] w fun e w' => e = .returned (.string (tx (num a))) ∧ Below w.heap.size w w' := num_one a g w ha hg h0
theorem tnum2 (a b g : Nat) (w : World) (ha : a < 2 ^ 64) (hb : b < 2 ^ 64) (hg : g < w.heap.size) (h0 : w.cell? ⟨g, 0, none⟩ = some (.int .u64 a)) (h1 : w.cell? ⟨g, 1, none⟩ = some (.int .u64 b)) :
    Calls Tryd.prog 22 #[.slice (some ⟨g, 0, none⟩) 2 2] w fun e w' => e = .returned (.string (tx (num a ++ num b))) ∧ Below w.heap.size w w' := by
  have h := num_any (some ⟨g, 0, none⟩) 2 [a, b] w (by simp) (by simpa using ⟨ha, hb⟩) (fun j hj => ⟨⟨g, 0, none⟩, rfl, hg, by
    match j, hj with
    | 0, _ => simpa [Addr.add] using h0
    | 1, _ => simpa [Addr.add] using h1⟩)
  rw [nums2] at h
  exact h
theorem tnum3 (a b c g : Nat) (w : World) (ha : a < 2 ^ 64) (hb : b < 2 ^ 64) (hc : c < 2 ^ 64) (hg : g < w.heap.size) (h0 : w.cell? ⟨g, 0, none⟩ = some (.int .u64 a)) (h1 : w.cell? ⟨g, 1, none⟩ = some (.int .u64 b)) (h2 : w.cell? ⟨g, 2, none⟩ = some (.int .u64 c)) :
    Calls Tryd.prog 22 #[.slice (some ⟨g, 0, none⟩) 3 3] w fun e w' => e = .returned (.string (tx (num a ++ (num b ++ num c)))) ∧ Below w.heap.size w w' := by
  have h := num_any (some ⟨g, 0, none⟩) 3 [a, b, c] w (by simp) (by simpa using ⟨ha, hb, hc⟩) (fun j hj => ⟨⟨g, 0, none⟩, rfl, hg, by
    match j, hj with
    | 0, _ => simpa [Addr.add] using h0
    | 1, _ => simpa [Addr.add] using h1
    | 2, _ => simpa [Addr.add] using h2⟩)
  rw [nums3] at h
  exact h
theorem num_le' (n : Nat) : (num n).length ≤ 10 := num_le n
theorem layK_le (x : Kn) : (layK x).length ≤ 20 := by
  unfold layK; rw [List.length_append]; have := num_le x.i.toNat; have := num_le x.s.toNat; omega
theorem layN_le (x : Nw) : (layN x).length ≤ 30 := by
  unfold layN; rw [List.length_append]; have := num_le x.w.toNat; have := layK_le x.k; omega
theorem flat_le {α : Type} (f : α → List UInt8) (c : Nat) (hf : ∀ x, (f x).length ≤ c) (l : List α) : (l.flatMap f).length ≤ c * l.length := by
  induction l with
  | nil => simp
  | cons x l ih => rw [List.flatMap_cons, List.length_append, List.length_cons, Nat.mul_succ]; have := hf x; omega

set_option maxRecDepth 100000 in
set_option maxHeartbeats 4000000 in
theorem layknow_any (x : Kn) (w : World) (hf : Fit x) (hm : mayK x = true) : Calls Tryd.prog 65 #[.agg #[.int .u64 x.i, .int .i64 x.s]] w fun e w' => e = .returned (.string (tx (layK x))) ∧ Below w.heap.size w w' := by
  obtain ⟨f1, f2⟩ := hf
  obtain ⟨m1, m2⟩ := (mayK_iff x).1 hm
  obtain ⟨n, hn⟩ : ∃ n : Nat, x.i = (n : Int) := ⟨x.i.toNat, (nat_of f1).symm⟩
  obtain ⟨k, hk⟩ : ∃ k : Nat, x.s = (k : Int) := ⟨x.s.toNat, (nat_of m1).symm⟩
  have hL : layK x = num n ++ num k := by unfold layK; rw [hn, hk]; rfl
  rw [hn] at f2
  rw [hk] at m2
  rw [hL, hn, hk]
  have HC := Lib.hid (fun (W : World) (g : Nat) => tnum2 n k g W (by omega) (by omega))
  generalize num n ++ num k = L at *
  clear hL hn hk hm f1 m1
  go_enter Tryd.func65, Tryd.ntmps65
  go_wp2_with fail
  refine (HC.out _ _ (by simp) (by go_simp) (by go_simp)).mono ?_
  rintro e w' ⟨rfl, hb⟩
  go_wp2
  go_ret
  exact ⟨rfl, (((Below.refl _ _).alloc (Nat.le_refl _) _).alloc (by simp) _).trans (hb.mono (by simp; omega))⟩
set_option maxRecDepth 100000 in
set_option maxHeartbeats 4000000 in
theorem laynews_any (y : Nw) (w : World) (hf : Fit y.k) (hm : oneB y = true) : Calls Tryd.prog 73 #[.agg #[.int .i64 y.w, .int .u64 y.i, .int .i64 y.s]] w fun e w' => e = .returned (.string (tx (layN y))) ∧ Below w.heap.size w w' := by
  obtain ⟨m1, m2, m3, m4⟩ := (oneB_iff y).1 hm
  have HK := Lib.hid (fun (W : World) => layknow_any y.k W hf (by rw [mayK_iff]; exact ⟨m3, m4⟩))
  obtain ⟨d, hd⟩ : ∃ d : Nat, y.w = (d : Int) := ⟨y.w.toNat, (nat_of m1).symm⟩
  have hL : tx (layN y) = tx (num d) ++ tx (layK y.k) := by rw [tx_app]; unfold layN; rw [hd]; rfl
  rw [hd] at m2
  have HC := Lib.hid (fun (W : World) (g : Nat) => tnum1 d g W (by omega))
  have s1 : (tx (num d)).size ≤ 10 := by rw [tx_size]; exact num_le d
  have s2 : (tx (layK y.k)).size ≤ 20 := by rw [tx_size]; exact layK_le y.k
  rw [hL, hd]
  obtain ⟨x, hx⟩ : ∃ x : Kn, x = y.k := ⟨_, rfl⟩
  have hi : y.i = x.i := by rw [hx]; rfl
  have hs : y.s = x.s := by rw [hx]; rfl
  rw [hi, hs]
  rw [← hx] at HK s2
  rw [← hx]
  generalize tx (num d) = L1 at *
  generalize tx (layK x) = L2 at *
  clear hL hi hs hx hd hm hf m1 m3 m4
  have hW : IntKind.u64.wrap (d : Int) = (d : Int) := IntWalk.u64_in _ ⟨by omega, by omega⟩
  have hAdd : ¬ 9223372036854775807 < L1.size + L2.size := by omega
  go_enter Tryd.func73, Tryd.ntmps73
  go_upto_region 1 with (fail)
  have hB : Below w.heap.size w (w.alloc (.cells #[.int .i64 (d : Int), .int .u64 x.i, .int .i64 x.s] 63)) := (Below.refl _ _).alloc (Nat.le_refl _) _
  have c0 : (w.alloc (.cells #[.int .i64 (d : Int), .int .u64 x.i, .int .i64 x.s] 63)).cell? ⟨w.heap.size, 0, none⟩ = some (.int .i64 (d : Int)) := by go_simp
  have c1 : (w.alloc (.cells #[.int .i64 (d : Int), .int .u64 x.i, .int .i64 x.s] 63)).cell? ⟨w.heap.size, 1, none⟩ = some (.int .u64 x.i) := by go_simp
  have c2 : (w.alloc (.cells #[.int .i64 (d : Int), .int .u64 x.i, .int .i64 x.s] 63)).cell? ⟨w.heap.size, 2, none⟩ = some (.int .i64 x.s) := by go_simp
  have hsz : w.heap.size < (w.alloc (.cells #[.int .i64 (d : Int), .int .u64 x.i, .int .i64 x.s] 63)).heap.size := by simp
  generalize w.alloc (.cells #[.int .i64 (d : Int), .int .u64 x.i, .int .i64 x.s] 63) = w2 at *
  refine z_enter [(0, true), (1, true), (2, true), (5, true), (6, true), (3, false), (4, false), (7, false), (8, true), (9, true)] (fun w' => w'.cell? ⟨w.heap.size, 0, none⟩ = some (.int .i64 (d : Int)) ∧ w'.cell? ⟨w.heap.size, 1, none⟩ = some (.int .u64 x.i) ∧ w'.cell? ⟨w.heap.size, 2, none⟩ = some (.int .i64 x.s)) (by kernel_rfl) (by kernel_rfl) (by kernel_rfl) (fun _ _ d _ _ h => by cases d <;> exact h) ⟨c0, c1, c2⟩ ?_
  simp only [pickL, List.drop_succ_cons, List.drop_zero]
  have hB0 : Hid (Below w.heap.size w w2.drew) := Lib.hid (hB.trans ⟨rfl, rfl, rfl, Nat.le_refl _, fun _ _ => rfl⟩)
  have hsz0 : w.heap.size < w2.drew.heap.size := hsz
  have C0 : Hid (w2.drew.cell? ⟨w.heap.size, 0, none⟩ = some (.int .i64 (d : Int)) ∧ w2.drew.cell? ⟨w.heap.size, 1, none⟩ = some (.int .u64 x.i) ∧ w2.drew.cell? ⟨w.heap.size, 2, none⟩ = some (.int .i64 x.s)) := Lib.hid ⟨c0, c1, c2⟩
  clear hB c0 c1 c2 hsz
  generalize w2.drew = w3 at *
  iterate 5 (first | (refine' z_yes ?_ (by rfl) ?_ ?_; rotate_left; (intro w' hS; (try dsimp only at hS); go_simp; try (with_reducible rfl)); simp only [Act.put, List.setIfInBounds_toArray, List.set_cons_zero, List.set_cons_succ]) | (refine z_no (by rfl) ?_; simp only [Act.put, List.setIfInBounds_toArray, List.set_cons_zero, List.set_cons_succ]))
  refine z_mem ?_
  intro K hK
  go_simp
  have hB1 : Hid (Below w.heap.size w (w3.alloc (.cells #[.int .u64 (d : Int)] 22))) := Lib.hid (hB0.out.alloc (Nat.le_of_lt hsz0) _)
  have C1 : Hid ((w3.alloc (.cells #[.int .u64 (d : Int)] 22)).cell? ⟨w.heap.size, 0, none⟩ = some (.int .i64 (d : Int)) ∧ (w3.alloc (.cells #[.int .u64 (d : Int)] 22)).cell? ⟨w.heap.size, 1, none⟩ = some (.int .u64 x.i) ∧ (w3.alloc (.cells #[.int .u64 (d : Int)] 22)).cell? ⟨w.heap.size, 2, none⟩ = some (.int .i64 x.s)) := Lib.hid (by
    have hb : Below w3.heap.size w3 (w3.alloc (.cells #[.int .u64 (d : Int)] 22)) := (Below.refl _ _).alloc (Nat.le_refl _) _
    exact ⟨(hb.cell hsz0).trans C0.out.1, (hb.cell hsz0).trans C0.out.2.1, (hb.cell hsz0).trans C0.out.2.2⟩)
  have hN : (w3.alloc (.cells #[.int .u64 (d : Int)] 22)).cell? ⟨w3.heap.size, 0, none⟩ = some (.int .u64 (d : Int)) := by go_simp
  have hsz1 : w.heap.size < (w3.alloc (.cells #[.int .u64 (d : Int)] 22)).heap.size := by simp; omega
  have hg : w3.heap.size < (w3.alloc (.cells #[.int .u64 (d : Int)] 22)).heap.size := by simp
  generalize w3.alloc (.cells #[.int .u64 (d : Int)] 22) = w4 at *
  generalize w3.heap.size = g at *
  refine hK.out _ _ C1.out ?_
  clear hK C0 hB0 hsz0
  refine z_mem ?_
  intro K hK
  go_simp
  refine (HC.out _ _ hg hN).mono ?_
  rintro e w5 ⟨rfl, hb⟩
  have hB2 : Hid (Below w.heap.size w w5) := Lib.hid (hB1.out.trans (hb.mono hB1.out.size))
  have C2 : Hid (w5.cell? ⟨w.heap.size, 0, none⟩ = some (.int .i64 (d : Int)) ∧ w5.cell? ⟨w.heap.size, 1, none⟩ = some (.int .u64 x.i) ∧ w5.cell? ⟨w.heap.size, 2, none⟩ = some (.int .i64 x.s)) := Lib.hid ⟨(hb.cell hsz1).trans C1.out.1, (hb.cell hsz1).trans C1.out.2.1, (hb.cell hsz1).trans C1.out.2.2⟩
  have hsz2 : w.heap.size < w5.heap.size := Nat.lt_of_lt_of_le hsz1 hb.size
  refine hK.out _ _ C2.out ?_
  clear hK C1 hB1 hsz1 hb hN hg
  refine z_mem ?_
  intro K hK
  go_simp
  refine (HK.out _).mono ?_
  rintro e w6 ⟨rfl, hb⟩
  have hB3 : Hid (Below w.heap.size w w6) := Lib.hid (hB2.out.trans (hb.mono hB2.out.size))
  have C3 : Hid (w6.cell? ⟨w.heap.size, 0, none⟩ = some (.int .i64 (d : Int)) ∧ w6.cell? ⟨w.heap.size, 1, none⟩ = some (.int .u64 x.i) ∧ w6.cell? ⟨w.heap.size, 2, none⟩ = some (.int .i64 x.s)) := Lib.hid ⟨(hb.cell hsz2).trans C2.out.1, (hb.cell hsz2).trans C2.out.2.1, (hb.cell hsz2).trans C2.out.2.2⟩
  refine hK.out _ _ C3.out ?_
  clear hK C2 hB2 hsz2 hb
  iterate 2 (first | (refine' z_yes ?_ (by rfl) ?_ ?_; rotate_left; (intro w' hS; (try dsimp only at hS); go_simp; try (with_reducible rfl)); simp only [Act.put, List.setIfInBounds_toArray, List.set_cons_zero, List.set_cons_succ]) | (refine z_no (by rfl) ?_; simp only [Act.put, List.setIfInBounds_toArray, List.set_cons_zero, List.set_cons_succ]))
  refine z_nil ?_
  go_wp2_with fail
  go_ret
  exact ⟨rfl, hB3.out⟩
set_option maxRecDepth 100000 in
set_option maxHeartbeats 4000000 in
theorem laylist_Know (A : Option Addr) (c : Nat) (l : List Kn) (w : World) (hn : l.length ≤ 64) (h : Lst w A l) (hf : ∀ y ∈ l, Fit y) (hm : ∀ y ∈ l, mayK y = true) :
    Calls Tryd.prog 81 #[.slice A l.length c, .func (.func 65) #[] #[]] w fun e w' => e = .returned (.string (tx (num l.length ++ l.flatMap layK))) ∧ Below w.heap.size w w' := by
  have H := Lib.hid h
  have HY := Lib.hid (fun (y : Kn) (hy : y ∈ l) (W : World) => layknow_any y W (hf y hy) (hm y hy))
  have HC := Lib.hid (fun (W : World) (g : Nat) => tnum1 l.length g W (by omega))
  have hT : tx (num l.length) = tx (num l.length ++ (l.take 0).flatMap layK) := by simp
  have hS0 : (tx (num l.length)).size ≤ 10 := by rw [tx_size]; exact num_le _
  have HT := Lib.hid hT
  have HE : Hid (∀ k, k ≤ l.length → (tx (num l.length ++ (l.take k).flatMap layK)).size ≤ 10 + 20 * k) := Lib.hid (fun k hk => by
    rw [tx_size, List.length_append]
    have h1 := num_le l.length
    have h2 := flat_le layK 20 layK_le (l.take k)
    rw [List.length_take, Nat.min_eq_left hk] at h2
    omega)
  clear h hf hm hT
  generalize hq : tx (num l.length) = q0 at *
  clear hq
  go_enter Tryd.func81, Tryd.ntmps81
  go_wp2_with fail
  refine (HC.out _ _ (by simp) (by go_simp)).mono ?_
  rintro e w1 ⟨rfl, hb1⟩
  have HB0 : Hid (Below w.heap.size w w1) := Lib.hid (((Below.refl _ _).alloc (Nat.le_refl _) _).trans (hb1.mono (by simp)))
  clear hb1
  go_wp2_with fail
  go_loopw [5, 15] (fun v i wr => ∃ (k : Nat) (q : ByteArray), v = .string q ∧ i = .int .i64 k ∧ k ≤ l.length ∧ q.size ≤ 10 + 20 * k ∧ Hid (q = tx (num l.length ++ (l.take k).flatMap layK)) ∧ Hid (Below w.heap.size w wr)) (fun _ i _ => l.length - (intOf i).toNat)
  case atStart => exact ⟨0, q0, rfl, rfl, Nat.zero_le _, by omega, HT, HB0⟩
  case round =>
    obtain ⟨k, q, rfl, rfl, hk, hqs, hq, hb⟩ := hrel
    by_cases hlt : k < l.length
    · obtain ⟨ad, rfl, hlo, h1⟩ := (H.out.on hb.out) k hlt
      have HX := Lib.hid (fun W => HY.out (kn l k) (by rw [show kn l k = l[k] by simp [kn, hlt]]; exact List.getElem_mem hlt) W)
      have hsz : (tx (layK (kn l k))).size ≤ 20 := by rw [tx_size]; exact layK_le _
      have HN : Hid (tx (num l.length ++ (l.take (k + 1)).flatMap layK) = tx (num l.length ++ (l.take k).flatMap layK) ++ tx (layK (kn l k))) := Lib.hid (by
        rw [tx_app, List.take_succ_eq_append_getElem hlt, List.flatMap_append, show kn l k = l[k] by simp [kn, hlt], List.append_assoc]
        simp)
      generalize kn l k = x at *
      obtain ⟨a0, a1⟩ := h1.flat
      have k0 : (0 : Int) ≤ (k : Int) := by omega
      have k1 : (k : Int) < (l.length : Int) := by omega
      have e0 : decide ((k : Int) < (l.length : Int)) = true := by simpa using k1
      have hsw := hb.out.size
      have HB1 : Hid (Below w.heap.size w (wr.alloc (.cells #[.int .u64 x.i, .int .i64 x.s] 24))) := Lib.hid (hb.out.alloc hsw _)
      generalize hz : tx (layK x) = z at *
      clear h1 hz
      go_wp2_with (go_at_call 65; refine (HX.out _).mono ?_; rintro e w2 ⟨rfl, hb2⟩)
      go_roundw
      case rel => exact ⟨k + 1, q ++ z, rfl, by go_num, by omega, by simp; omega, Lib.hid (by rw [hq.out, HN.out]), Lib.hid (HB1.out.trans (hb2.mono HB1.out.size))⟩
      case measure => simp [intOf]; omega
    · have hkl : k = l.length := by omega
      have e0 : decide ((k : Int) < (l.length : Int)) = false := by simp; omega
      have e0' : decide (k < l.length) = false := by simpa using hlt
      have HQ : Hid (q = tx (num l.length ++ l.flatMap layK)) := Lib.hid (by rw [hq.out, hkl, List.take_length])
      clear hkl
      go_wp2_with fail
      go_ret
      exact ⟨ret_tx HQ.out, hb.out⟩
set_option maxRecDepth 100000 in
set_option maxHeartbeats 4000000 in
theorem laylist_News (A : Option Addr) (c : Nat) (l : List Nw) (w : World) (hn : l.length ≤ 64) (h : Ns w A l) (hf : ∀ y ∈ l, Fit y.k) (hm : ∀ y ∈ l, oneB y = true) :
    Calls Tryd.prog 72 #[.slice A l.length c, .func (.func 73) #[] #[]] w fun e w' => e = .returned (.string (tx (num l.length ++ l.flatMap layN))) ∧ Below w.heap.size w w' := by
  have H := Lib.hid h
  have HY := Lib.hid (fun (y : Nw) (hy : y ∈ l) (W : World) => laynews_any y W (hf y hy) (hm y hy))
  have HC := Lib.hid (fun (W : World) (g : Nat) => tnum1 l.length g W (by omega))
  have hT : tx (num l.length) = tx (num l.length ++ (l.take 0).flatMap layN) := by simp
  have hS0 : (tx (num l.length)).size ≤ 10 := by rw [tx_size]; exact num_le _
  have HT := Lib.hid hT
  have HE : Hid (∀ k, k ≤ l.length → (tx (num l.length ++ (l.take k).flatMap layN)).size ≤ 10 + 30 * k) := Lib.hid (fun k hk => by
    rw [tx_size, List.length_append]
    have h1 := num_le l.length
    have h2 := flat_le layN 30 layN_le (l.take k)
    rw [List.length_take, Nat.min_eq_left hk] at h2
    omega)
  clear h hf hm hT
  generalize hq : tx (num l.length) = q0 at *
  clear hq
  go_enter Tryd.func72, Tryd.ntmps72
  go_wp2_with fail
  refine (HC.out _ _ (by simp) (by go_simp)).mono ?_
  rintro e w1 ⟨rfl, hb1⟩
  have HB0 : Hid (Below w.heap.size w w1) := Lib.hid (((Below.refl _ _).alloc (Nat.le_refl _) _).trans (hb1.mono (by simp)))
  clear hb1
  go_wp2_with fail
  go_loopw [5, 15] (fun v i wr => ∃ (k : Nat) (q : ByteArray), v = .string q ∧ i = .int .i64 k ∧ k ≤ l.length ∧ q.size ≤ 10 + 30 * k ∧ Hid (q = tx (num l.length ++ (l.take k).flatMap layN)) ∧ Hid (Below w.heap.size w wr)) (fun _ i _ => l.length - (intOf i).toNat)
  case atStart => exact ⟨0, q0, rfl, rfl, Nat.zero_le _, by omega, HT, HB0⟩
  case round =>
    obtain ⟨k, q, rfl, rfl, hk, hqs, hq, hb⟩ := hrel
    by_cases hlt : k < l.length
    · obtain ⟨ad, rfl, hlo, h1⟩ := (H.out.on hb.out) k hlt
      have HX := Lib.hid (fun W => HY.out (nw l k) (by rw [show nw l k = l[k] by simp [nw, hlt]]; exact List.getElem_mem hlt) W)
      have hsz : (tx (layN (nw l k))).size ≤ 30 := by rw [tx_size]; exact layN_le _
      have HN : Hid (tx (num l.length ++ (l.take (k + 1)).flatMap layN) = tx (num l.length ++ (l.take k).flatMap layN) ++ tx (layN (nw l k))) := Lib.hid (by
        rw [tx_app, List.take_succ_eq_append_getElem hlt, List.flatMap_append, show nw l k = l[k] by simp [nw, hlt], List.append_assoc]
        simp)
      generalize nw l k = x at *
      obtain ⟨a0, a1, a2⟩ := h1.flat
      have k0 : (0 : Int) ≤ (k : Int) := by omega
      have k1 : (k : Int) < (l.length : Int) := by omega
      have e0 : decide ((k : Int) < (l.length : Int)) = true := by simpa using k1
      have hsw := hb.out.size
      have HB1 : Hid (Below w.heap.size w (wr.alloc (.cells #[.int .i64 x.w, .int .u64 x.i, .int .i64 x.s] 63))) := Lib.hid (hb.out.alloc hsw _)
      generalize hz : tx (layN x) = z at *
      clear h1 hz
      go_wp2_with (go_at_call 73; refine (HX.out _).mono ?_; rintro e w2 ⟨rfl, hb2⟩)
      go_roundw
      case rel => exact ⟨k + 1, q ++ z, rfl, by go_num, by omega, by simp; omega, Lib.hid (by rw [hq.out, HN.out]), Lib.hid (HB1.out.trans (hb2.mono HB1.out.size))⟩
      case measure => simp [intOf]; omega
    · have hkl : k = l.length := by omega
      have e0 : decide ((k : Int) < (l.length : Int)) = false := by simp; omega
      have e0' : decide (k < l.length) = false := by simpa using hlt
      have HQ : Hid (q = tx (num l.length ++ l.flatMap layN)) := Lib.hid (by rw [hq.out, hkl, List.take_length])
      clear hkl
      go_wp2_with fail
      go_ret
      exact ⟨ret_tx HQ.out, hb.out⟩
set_option maxRecDepth 100000 in
set_option maxHeartbeats 4000000 in
theorem laytext_any (s : ByteArray) (w : World) (hs : s.size ≤ 200) : Calls Tryd.prog 92 #[.string s] w fun e w' => e = .returned (.string (tx (num s.size ++ s.data.toList))) ∧ Below w.heap.size w w' := by
  have hT : textOf s = tx (num s.size ++ s.data.toList) := by
    rw [← tx_app]
    unfold textOf
    congr 1
  have HC := Lib.hid (fun (W : World) => text_in s W hs)
  rw [hT] at HC
  generalize tx (num s.size ++ s.data.toList) = q at *
  clear hT
  go_enter Tryd.func92, Tryd.ntmps92
  go_wp2_with (go_at_call 109; refine (HC.out _).mono ?_; rintro e w1 ⟨rfl, hb⟩)
  go_ret
  exact ⟨rfl, hb⟩
set_option maxRecDepth 100000 in
set_option maxHeartbeats 4000000 in
theorem laygood_any (g : Bool) (w : World) : Calls Tryd.prog 98 #[.bool g] w fun e w' => e = .returned (.string (tx (num (if g = true then 1 else 0)))) ∧ Below w.heap.size w w' := by
  rcases g with _ | _
  · have HC := Lib.hid (fun (W : World) (g : Nat) => tnum1 0 g W (by omega))
    have e : (if false = true then 1 else 0 : Nat) = 0 := rfl
    rw [e]
    clear e
    generalize tx (num 0) = q at *
    go_enter Tryd.func98, Tryd.ntmps98
    go_wp2_with (go_at_call 22; refine (HC.out _ _ (by simp) (by go_simp)).mono ?_; rintro e w1 ⟨rfl, hb⟩)
    go_ret
    exact ⟨rfl, ((Below.refl _ _).alloc (Nat.le_refl _) _).trans (hb.mono (by simp))⟩
  · have HC := Lib.hid (fun (W : World) (g : Nat) => tnum1 1 g W (by omega))
    have e : (if true = true then 1 else 0 : Nat) = 1 := rfl
    rw [e]
    clear e
    generalize tx (num 1) = q at *
    go_enter Tryd.func98, Tryd.ntmps98
    go_wp2_with (go_at_call 22; refine (HC.out _ _ (by simp) (by go_simp)).mono ?_; rintro e w1 ⟨rfl, hb⟩)
    go_ret
    exact ⟨rfl, ((Below.refl _ _).alloc (Nat.le_refl _) _).trans (hb.mono (by simp))⟩
end Go.Proofs.YtjeepmdklbfgeaaDoor
