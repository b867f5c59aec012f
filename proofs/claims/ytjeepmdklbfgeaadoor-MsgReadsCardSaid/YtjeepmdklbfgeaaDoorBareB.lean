/-
  The walks of the document's bare, kind by kind (B).
-/
import Derived.Test.YtjeepmdklbfgeaaDoorKeeps
namespace Go.Proofs.YtjeepmdklbfgeaaDoor
open Go.Sort Go.RowKit Go.Proofs.YtjeepmdklbfgeaaDoor.Pure Go.Proofs.YtjeepmdklbfgeaaDoor.W Go.Proofs.YtjeepmdklbfgeaaDoor.W.Pure

set_option maxRecDepth 100000 in
set_option maxHeartbeats 4000000 in
theorem bare_7 (fr tt : Int) (sq : Nat) (wh ki ks : Int) (A : Option Addr) (nA cA : Nat) (T : Option Addr) (tA cT : Nat) (ep bo : Nat) (ak : Int) (ts : ByteArray) (tn : Nat) (gd : Bool) (w : World) :
    Calls Tryd.prog 29 #[.agg #[.int .i64 7, .int .i64 fr, .int .i64 tt, .int .u64 (sq : Int), .int .i64 wh, .int .u64 ki, .int .i64 ks, .slice A nA cA, .slice T tA cT, .int .u64 (ep : Int), .int .u64 (bo : Int), .int .i64 ak, .string ts, .int .u64 (tn : Int), .bool gd]] w fun e w' => e = .returned (.agg #[.int .i64 7, .int .i64 fr, .int .i64 tt, .int .u64 0, .int .i64 0, .int .u64 0, .int .i64 0, .slice none 0 0, .slice none 0 0, .int .u64 (ep : Int), .int .u64 (bo : Int), .int .i64 ak, .string ⟨#[]⟩, .int .u64 0, .bool false]) ∧ Below w.heap.size w w' := by
  go_enter Tryd.func29, Tryd.ntmps29
  go_wp2_with fail
  refine bodyPost_ret (v := .agg #[.int .i64 7, .int .i64 fr, .int .i64 tt, .int .u64 0, .int .i64 0, .int .u64 0, .int .i64 0, .slice none 0 0, .slice none 0 0, .int .u64 (ep : Int), .int .u64 (bo : Int), .int .i64 ak, .string ⟨#[]⟩, .int .u64 0, .bool false]) (by simp [results, Tryd.results29, go_sem]) rfl ⟨rfl, ?_⟩
  exact (((Below.refl _ _).alloc (Nat.le_refl _) _).alloc (by simp) _).alloc (by simp; omega) _
set_option maxRecDepth 100000 in
set_option maxHeartbeats 4000000 in
theorem bare_8 (fr tt : Int) (sq : Nat) (wh ki ks : Int) (A : Option Addr) (nA cA : Nat) (T : Option Addr) (tA cT : Nat) (ep bo : Nat) (ak : Int) (ts : ByteArray) (tn : Nat) (gd : Bool) (w : World) :
    Calls Tryd.prog 29 #[.agg #[.int .i64 8, .int .i64 fr, .int .i64 tt, .int .u64 (sq : Int), .int .i64 wh, .int .u64 ki, .int .i64 ks, .slice A nA cA, .slice T tA cT, .int .u64 (ep : Int), .int .u64 (bo : Int), .int .i64 ak, .string ts, .int .u64 (tn : Int), .bool gd]] w fun e w' => e = .returned (.agg #[.int .i64 8, .int .i64 fr, .int .i64 tt, .int .u64 0, .int .i64 0, .int .u64 0, .int .i64 0, .slice none 0 0, .slice none 0 0, .int .u64 (ep : Int), .int .u64 (bo : Int), .int .i64 ak, .string ⟨#[]⟩, .int .u64 0, .bool false]) ∧ Below w.heap.size w w' := by
  go_enter Tryd.func29, Tryd.ntmps29
  go_wp2_with fail
  refine bodyPost_ret (v := .agg #[.int .i64 8, .int .i64 fr, .int .i64 tt, .int .u64 0, .int .i64 0, .int .u64 0, .int .i64 0, .slice none 0 0, .slice none 0 0, .int .u64 (ep : Int), .int .u64 (bo : Int), .int .i64 ak, .string ⟨#[]⟩, .int .u64 0, .bool false]) (by simp [results, Tryd.results29, go_sem]) rfl ⟨rfl, ?_⟩
  exact (((Below.refl _ _).alloc (Nat.le_refl _) _).alloc (by simp) _).alloc (by simp; omega) _
set_option maxRecDepth 100000 in
set_option maxHeartbeats 4000000 in
theorem bare_9 (fr tt : Int) (sq : Nat) (wh ki ks : Int) (A : Option Addr) (nA cA : Nat) (T : Option Addr) (tA cT : Nat) (ep bo : Nat) (ak : Int) (ts : ByteArray) (tn : Nat) (gd : Bool) (w : World) :
    Calls Tryd.prog 29 #[.agg #[.int .i64 9, .int .i64 fr, .int .i64 tt, .int .u64 (sq : Int), .int .i64 wh, .int .u64 ki, .int .i64 ks, .slice A nA cA, .slice T tA cT, .int .u64 (ep : Int), .int .u64 (bo : Int), .int .i64 ak, .string ts, .int .u64 (tn : Int), .bool gd]] w fun e w' => e = .returned (.agg #[.int .i64 9, .int .i64 fr, .int .i64 tt, .int .u64 0, .int .i64 0, .int .u64 0, .int .i64 0, .slice none 0 0, .slice none 0 0, .int .u64 (ep : Int), .int .u64 (bo : Int), .int .i64 0, .string ⟨#[]⟩, .int .u64 0, .bool false]) ∧ Below w.heap.size w w' := by
  go_enter Tryd.func29, Tryd.ntmps29
  go_wp2_with fail
  refine bodyPost_ret (v := .agg #[.int .i64 9, .int .i64 fr, .int .i64 tt, .int .u64 0, .int .i64 0, .int .u64 0, .int .i64 0, .slice none 0 0, .slice none 0 0, .int .u64 (ep : Int), .int .u64 (bo : Int), .int .i64 0, .string ⟨#[]⟩, .int .u64 0, .bool false]) (by simp [results, Tryd.results29, go_sem]) rfl ⟨rfl, ?_⟩
  exact (((Below.refl _ _).alloc (Nat.le_refl _) _).alloc (by simp) _).alloc (by simp; omega) _
set_option maxRecDepth 100000 in
set_option maxHeartbeats 4000000 in
theorem bare_10 (fr tt : Int) (sq : Nat) (wh ki ks : Int) (A : Option Addr) (nA cA : Nat) (T : Option Addr) (tA cT : Nat) (ep bo : Nat) (ak : Int) (ts : ByteArray) (tn : Nat) (gd : Bool) (w : World) :
    Calls Tryd.prog 29 #[.agg #[.int .i64 10, .int .i64 fr, .int .i64 tt, .int .u64 (sq : Int), .int .i64 wh, .int .u64 ki, .int .i64 ks, .slice A nA cA, .slice T tA cT, .int .u64 (ep : Int), .int .u64 (bo : Int), .int .i64 ak, .string ts, .int .u64 (tn : Int), .bool gd]] w fun e w' => e = .returned (.agg #[.int .i64 10, .int .i64 fr, .int .i64 tt, .int .u64 0, .int .i64 0, .int .u64 0, .int .i64 0, .slice none 0 0, .slice none 0 0, .int .u64 0, .int .u64 (bo : Int), .int .i64 ak, .string ⟨#[]⟩, .int .u64 0, .bool false]) ∧ Below w.heap.size w w' := by
  go_enter Tryd.func29, Tryd.ntmps29
  go_wp2_with fail
  refine bodyPost_ret (v := .agg #[.int .i64 10, .int .i64 fr, .int .i64 tt, .int .u64 0, .int .i64 0, .int .u64 0, .int .i64 0, .slice none 0 0, .slice none 0 0, .int .u64 0, .int .u64 (bo : Int), .int .i64 ak, .string ⟨#[]⟩, .int .u64 0, .bool false]) (by simp [results, Tryd.results29, go_sem]) rfl ⟨rfl, ?_⟩
  exact (((Below.refl _ _).alloc (Nat.le_refl _) _).alloc (by simp) _).alloc (by simp; omega) _
set_option maxRecDepth 100000 in
set_option maxHeartbeats 4000000 in
theorem bare_11 (fr tt : Int) (sq : Nat) (wh ki ks : Int) (A : Option Addr) (nA cA : Nat) (T : Option Addr) (tA cT : Nat) (ep bo : Nat) (ak : Int) (ts : ByteArray) (tn : Nat) (gd : Bool) (w : World) :
    Calls Tryd.prog 29 #[.agg #[.int .i64 11, .int .i64 fr, .int .i64 tt, .int .u64 (sq : Int), .int .i64 wh, .int .u64 ki, .int .i64 ks, .slice A nA cA, .slice T tA cT, .int .u64 (ep : Int), .int .u64 (bo : Int), .int .i64 ak, .string ts, .int .u64 (tn : Int), .bool gd]] w fun e w' => e = .returned (.agg #[.int .i64 11, .int .i64 fr, .int .i64 tt, .int .u64 0, .int .i64 0, .int .u64 0, .int .i64 0, .slice none 0 0, .slice none 0 0, .int .u64 (ep : Int), .int .u64 (bo : Int), .int .i64 ak, .string ts, .int .u64 (tn : Int), .bool false]) ∧ Below w.heap.size w w' := by
  go_enter Tryd.func29, Tryd.ntmps29
  go_wp2_with fail
  refine bodyPost_ret (v := .agg #[.int .i64 11, .int .i64 fr, .int .i64 tt, .int .u64 0, .int .i64 0, .int .u64 0, .int .i64 0, .slice none 0 0, .slice none 0 0, .int .u64 (ep : Int), .int .u64 (bo : Int), .int .i64 ak, .string ts, .int .u64 (tn : Int), .bool false]) (by simp [results, Tryd.results29, go_sem]) rfl ⟨rfl, ?_⟩
  exact (((Below.refl _ _).alloc (Nat.le_refl _) _).alloc (by simp) _).alloc (by simp; omega) _
set_option maxRecDepth 100000 in
set_option maxHeartbeats 4000000 in
theorem bare_12 (fr tt : Int) (sq : Nat) (wh ki ks : Int) (A : Option Addr) (nA cA : Nat) (T : Option Addr) (tA cT : Nat) (ep bo : Nat) (ak : Int) (ts : ByteArray) (tn : Nat) (gd : Bool) (w : World) :
    Calls Tryd.prog 29 #[.agg #[.int .i64 12, .int .i64 fr, .int .i64 tt, .int .u64 (sq : Int), .int .i64 wh, .int .u64 ki, .int .i64 ks, .slice A nA cA, .slice T tA cT, .int .u64 (ep : Int), .int .u64 (bo : Int), .int .i64 ak, .string ts, .int .u64 (tn : Int), .bool gd]] w fun e w' => e = .returned (.agg #[.int .i64 12, .int .i64 fr, .int .i64 tt, .int .u64 0, .int .i64 0, .int .u64 0, .int .i64 0, .slice none 0 0, .slice none 0 0, .int .u64 0, .int .u64 0, .int .i64 0, .string ts, .int .u64 (tn : Int), .bool gd]) ∧ Below w.heap.size w w' := by
  go_enter Tryd.func29, Tryd.ntmps29
  go_wp2_with fail
  refine bodyPost_ret (v := .agg #[.int .i64 12, .int .i64 fr, .int .i64 tt, .int .u64 0, .int .i64 0, .int .u64 0, .int .i64 0, .slice none 0 0, .slice none 0 0, .int .u64 0, .int .u64 0, .int .i64 0, .string ts, .int .u64 (tn : Int), .bool gd]) (by simp [results, Tryd.results29, go_sem]) rfl ⟨rfl, ?_⟩
  exact (((Below.refl _ _).alloc (Nat.le_refl _) _).alloc (by simp) _).alloc (by simp; omega) _
end Go.Proofs.YtjeepmdklbfgeaaDoor
