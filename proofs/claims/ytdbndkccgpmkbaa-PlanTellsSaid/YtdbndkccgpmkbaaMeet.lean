/-
  The walk of meet: which numbers are met, and whether there are such alone, none twice.
-/
import Derived.Test.YtdbndkccgpmkbaaArr
namespace Go.Proofs.Ytdbndkccgpmkbaa
open Go.RowKit Go.Proofs.Ytdbndkccgpmkbaa.Pure

theorem Arr.setRow {w : World} {b : Nat} {bs : List Bool} (h : Arr w b bs) (cs : List Bool) : Arr (w.setRow b (bools cs)) b cs := setRow_heap w b _ _ _ _ h
theorem below_setRow {W w : World} {B b : Nat} (h : Below B W w) (hb : B ≤ b) (cs : Array Value) : Below B W (w.setRow b cs) :=
  h.trans ⟨rfl, rfl, rfl, by simp, fun i hi => by
    simp only [World.setRow, Array.getElem?_modify]
    rw [if_neg (by omega)]⟩
theorem Arr.loaded {w : World} {b : Nat} {bs : List Bool} (h : Arr w b bs) (hl : bs.length = 64) : (loadVar 74 ⟨b, 0, none⟩).run Try.prog w = .ok (.agg (bools bs)) w :=
  run_loadVar_row w b _ 74 _ _ _ h Try.underlying74 rfl (size_arr bs hl)

set_option maxRecDepth 100000 in
set_option maxHeartbeats 2000000 in
theorem meet_any (A : Option Addr) (c lo hi : Nat) (xs : List Int) (w : World) (hn : xs.length ≤ 100000) (h : Has w lo hi A xs) (hh : hi ≤ w.heap.size) (L : Bool) (hL : numsB xs = L) :
    Calls Try.prog 42 #[.slice A xs.length c] w fun e w' => ∃ bs : List Bool, e = .returned (.tuple #[.agg (bools bs), .bool L]) ∧ bs.length = 64 ∧ (L = true → bs = marks xs) ∧ Below w.heap.size w w' := by
  have H := Lib.hid h
  have HL := Lib.hid hL
  have hzv := zero_arr
  have HA0 : Hid (Arr ((w.alloc (.cells (bools (List.replicate 64 false)) 74)).alloc (.cells (bools (List.replicate 64 false)) 74)) w.heap.size (marks [])) := Lib.hid (by
    rw [marks_nil]; exact (Arr.new w _).on ((Below.refl _ _).alloc (Nat.le_refl _) _))
  have HA1 : Hid (Arr ((w.alloc (.cells (bools (List.replicate 64 false)) 74)).alloc (.cells (bools (List.replicate 64 false)) 74)) (w.heap.size + 1) (marks [])) := Lib.hid (by
    rw [marks_nil]
    have := Arr.new (w.alloc (.cells (bools (List.replicate 64 false)) 74)) (List.replicate 64 false)
    simpa using this)
  have HB : Hid (Below w.heap.size w ((w.alloc (.cells (bools (List.replicate 64 false)) 74)).alloc (.cells (bools (List.replicate 64 false)) 74))) := Lib.hid (((Below.refl _ _).alloc (Nat.le_refl _) _).alloc (by simp) _)
  clear h hL
  generalize bools (List.replicate 64 false) = zs at *
  go_enter Try.func42, Try.ntmps42
  go_upto_region 2 with (fail)
  generalize (w.alloc (.cells zs 74)).alloc (.cells zs 74) = w0 at *
  clear hzv
  go_wp2_with fail
  go_loopw [9] (fun i wr => ∃ k : Nat, i = .int .i64 k ∧ k ≤ xs.length ∧ Hid (numsB (xs.take k) = true) ∧ Hid (Arr wr w.heap.size (marks [])) ∧ Hid (Arr wr (w.heap.size + 1) (marks (xs.take k))) ∧ Hid (Below w.heap.size w wr)) (fun i _ => xs.length - (intOf i).toNat)
  case atStart => exact ⟨0, rfl, Nat.zero_le _, Lib.hid nums_nil, HA0, by simpa using HA1, HB⟩
  case round =>
    clear HA0 HA1 HB
    obtain ⟨k, rfl, hk, hok, ha0, ha1, hb⟩ := hrel
    have HB2 : Hid (Below w.heap.size w (wr.setRow w.heap.size (bools (marks (xs.take k))))) := Lib.hid (below_setRow hb.out (Nat.le_refl _) _)
    by_cases hlt : k < xs.length
    · obtain ⟨ad, rfl, hlo, hhi, hc⟩ := (H.out.on hb.out hh) k hlt
      have HN := Lib.hid (nums_not xs k hlt)
      have HS := Lib.hid (nums_snoc xs k hlt hok.out)
      have HM := Lib.hid (marks_snoc xs k)
      have HY : Hid (mkB (xs.take k) = fun j : Nat => decide ((j : Int) ∈ xs.take k)) := Lib.hid rfl
      generalize hy : xs.getD k 0 = y at *
      have k0 : (0 : Int) ≤ (k : Int) := by omega
      have k1 : (k : Int) < (xs.length : Int) := by omega
      clear hy
      by_cases b1 : y < 0
      · have e1 : decide (y < 0) = true := by simpa using b1
        have hLf : L = false := by rw [← HL.out]; exact HN.out (.inl b1)
        subst hLf
        go_wp2_with (first | (refine wpList_load_row rfl 74 _ rfl _ rfl _ _ _ _ ha1.out Try.underlying74 rfl (size_arr _ (marks_len _)) ?_) | (refine wpList_store_row rfl 74 _ _ rfl _ (bools (marks (xs.take k))) rfl rfl _ _ ha0.out (size_arr _ (marks_len _)) (by rw [bools_len, bools_len, marks_len, marks_len]) (bools_one _) ?_))
        have hres := (ha0.out.setRow (marks (xs.take k))).loaded (marks_len _)
        refine bodyPost_ret (v := .tuple #[.agg (bools (marks (xs.take k))), .bool false]) (by simp [results, Try.results42, asAddr, hres]) rfl (by first | exact ⟨marks (xs.take k), rfl, marks_len _, (fun h => by cases h), HB2.out⟩ | exact ⟨marks (xs.take k), rfl, marks_len _, HB2.out⟩)
      have e1 : decide (y < 0) = false := by simpa using b1
      by_cases b2 : 64 ≤ y
      · have e2 : decide (64 ≤ y) = true := by simpa using b2
        have hLf : L = false := by rw [← HL.out]; exact HN.out (.inr (.inl b2))
        subst hLf
        go_wp2_with (first | (refine wpList_load_row rfl 74 _ rfl _ rfl _ _ _ _ ha1.out Try.underlying74 rfl (size_arr _ (marks_len _)) ?_) | (refine wpList_store_row rfl 74 _ _ rfl _ (bools (marks (xs.take k))) rfl rfl _ _ ha0.out (size_arr _ (marks_len _)) (by rw [bools_len, bools_len, marks_len, marks_len]) (bools_one _) ?_))
        have hres := (ha0.out.setRow (marks (xs.take k))).loaded (marks_len _)
        refine bodyPost_ret (v := .tuple #[.agg (bools (marks (xs.take k))), .bool false]) (by simp [results, Try.results42, asAddr, hres]) rfl (by first | exact ⟨marks (xs.take k), rfl, marks_len _, (fun h => by cases h), HB2.out⟩ | exact ⟨marks (xs.take k), rfl, marks_len _, HB2.out⟩)
      have e2 : decide (64 ≤ y) = false := by simpa using b2
      obtain ⟨v, rfl⟩ := Int.eq_ofNat_of_zero_le (show 0 ≤ y by omega)
      have hv : v < 64 := by omega
      have v0 : (0 : Int) ≤ (v : Int) := by omega
      have v1 : (v : Int) < 64 := by omega
      have hcv := ha1.out.cell v (by rw [marks_len]; exact hv)
      have hfv := ha1.out.frozen v
      rw [marks_at _ v hv] at hcv
      clear b1 b2
      rcases hm : mkB (xs.take k) v with _ | _
      · rw [hm] at hcv
        have HA2 := Lib.hid ((ha1.out.put v true))
        have HR2 : Hid (Arr (wr.setCell ⟨w.heap.size + 1, v, none⟩ (.bool true)) w.heap.size (marks [])) := Lib.hid ((Below.heap_setCell wr ⟨w.heap.size + 1, v, none⟩ (.bool true) w.heap.size (by simp)).trans ha0.out)
        have HN2 : Hid (numsB (xs.take (k + 1)) = true) := Lib.hid (HS.out (by omega) (by omega) (by have := congrFun HY.out v; rw [hm] at this; simpa using this.symm))
        have HM2 : Hid ((marks (xs.take k)).set v true = marks (xs.take (k + 1))) := Lib.hid (HM.out v hlt rfl hv)
        clear hm HB2 HM HS HN HY
        go_wp2_with fail
        go_roundw
        case rel => exact ⟨k + 1, by go_num, by omega, HN2, HR2, Lib.hid (by rw [← HM2.out]; exact HA2.out), Lib.hid (hb.out.setCell (by simp) _)⟩
        case measure => simp [intOf]; omega
      · rw [hm] at hcv
        have hLf : L = false := by rw [← HL.out]; exact HN.out (.inr (.inr (by have := congrFun HY.out v; rw [hm] at this; simpa using this.symm)))
        subst hLf
        clear hm
        go_wp2_with (first | (refine wpList_load_row rfl 74 _ rfl _ rfl _ _ _ _ ha1.out Try.underlying74 rfl (size_arr _ (marks_len _)) ?_) | (refine wpList_store_row rfl 74 _ _ rfl _ (bools (marks (xs.take k))) rfl rfl _ _ ha0.out (size_arr _ (marks_len _)) (by rw [bools_len, bools_len, marks_len, marks_len]) (bools_one _) ?_))
        have hres := (ha0.out.setRow (marks (xs.take k))).loaded (marks_len _)
        refine bodyPost_ret (v := .tuple #[.agg (bools (marks (xs.take k))), .bool false]) (by simp [results, Try.results42, asAddr, hres]) rfl (by first | exact ⟨marks (xs.take k), rfl, marks_len _, (fun h => by cases h), HB2.out⟩ | exact ⟨marks (xs.take k), rfl, marks_len _, HB2.out⟩)
    · obtain rfl : k = xs.length := by omega
      rw [List.take_length] at ha1 HB2 hok
      have hLt : L = true := by rw [← HL.out]; exact hok.out
      subst hLt
      have e0 : decide ((xs.length : Int) < (xs.length : Int)) = false := by simp
      go_wp2_with (first | (refine wpList_load_row rfl 74 _ rfl _ rfl _ _ _ _ ha1.out Try.underlying74 rfl (size_arr _ (marks_len _)) ?_) | (refine wpList_store_row rfl 74 _ _ rfl _ (bools (marks (xs))) rfl rfl _ _ ha0.out (size_arr _ (marks_len _)) (by rw [bools_len, bools_len, marks_len, marks_len]) (bools_one _) ?_))
      have hres := (ha0.out.setRow (marks (xs))).loaded (marks_len _)
      refine bodyPost_ret (v := .tuple #[.agg (bools (marks (xs))), .bool true]) (by simp [results, Try.results42, asAddr, hres]) rfl (by first | exact ⟨marks xs, rfl, marks_len _, fun _ => rfl, HB2.out⟩ | exact ⟨marks xs, rfl, marks_len _, rfl, HB2.out⟩)
end Go.Proofs.Ytdbndkccgpmkbaa
