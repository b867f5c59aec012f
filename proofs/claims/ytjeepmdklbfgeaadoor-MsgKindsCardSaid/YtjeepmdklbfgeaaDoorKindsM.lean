/-
  The least message of each kind.
-/
import Derived.Test.YtjeepmdklbfgeaaDoorVar
import Derived.Deep.MidRow
import Derived.Test.YtjeepmdklbfgeaaDoorRsameMA
import Derived.Test.YtjeepmdklbfgeaaDoorRsameMB
import Derived.Test.YtjeepmdklbfgeaaDoorRsameMC
import Derived.Test.YtjeepmdklbfgeaaDoorRsameMD
import Derived.Test.YtjeepmdklbfgeaaDoorRsameME
import Derived.Test.YtjeepmdklbfgeaaDoorRead
import Derived.Test.YtjeepmdklbfgeaaDoorReadMath
namespace Go.Proofs.YtjeepmdklbfgeaaDoor
open Go.Sort Go.RowKit Go.Proofs.YtjeepmdklbfgeaaDoor.Pure

theorem row_range {w : World} {b : Nat} {cs : List Value} (h : Row w b cs) : w.rangeAt b 0 cs := fun j v hv => by
  rw [Nat.zero_add]
  exact h.at_ j v hv
theorem load_row {w : World} {b : Nat} {cs : List Value} (h : Row w b cs) (hl : cs.length = 15) : (Instr.loadAt 28 (.pointer (some ⟨b, 0, none⟩))).run Tryd.prog w = .ok (.agg cs.toArray) w :=
  run_loadAt_mid w b 0 28 cs _ (row_range h) Tryd.underlying28 rfl (by rw [hl]; kernel_rfl)
theorem row_regrown {w : World} {b : Nat} {cs : List Value} (h : Row w b cs) (hc : 0 < cs.length) (d : Nat) (os : Array Obj) : Row (grow (redrawn w d) os) b cs := h.on (below_regrown w d os) hc
theorem load_regrown {w : World} {b : Nat} {x0 x1 x2 x3 x4 x5 x6 x7 x8 x9 x10 x11 x12 x13 x14 : Value} (h : Row w b [x0, x1, x2, x3, x4, x5, x6, x7, x8, x9, x10, x11, x12, x13, x14]) (d : Nat) (os : Array Obj) :
    (Instr.loadAt 28 (.pointer (some ⟨b, 0, none⟩))).run Tryd.prog (grow (redrawn w d) os) = .ok (.agg #[x0, x1, x2, x3, x4, x5, x6, x7, x8, x9, x10, x11, x12, x13, x14]) (grow (redrawn w d) os) :=
  load_row (row_regrown h (by simp) d os) rfl
end Go.Proofs.YtjeepmdklbfgeaaDoor

namespace Go.Proofs.YtjeepmdklbfgeaaDoor
open Go.Sort Go.RowKit Go.Proofs.YtjeepmdklbfgeaaDoor.Pure Go.Proofs.YtjeepmdklbfgeaaDoor.W Go.Proofs.YtjeepmdklbfgeaaDoor.W.Pure

theorem rsame_msg (a b : Mg) (u v : Value) (w : World) (h : MsgV w u a) (h' : MsgV w v b) : Calls Tryd.prog 14 #[u, v] w fun e w' => e = .returned (.bool (decide (a = b))) ∧ Below w.heap.size w w' := by
  by_cases h0 : a.kd = b.kd
  rotate_left
  · rw [show decide (a = b) = false from decide_eq_false (fun e => h0 (by rw [e]))]
    exact rsame_msg_0 a b u v w h h'  h0
  by_cases h1 : a.fr = b.fr
  rotate_left
  · rw [show decide (a = b) = false from decide_eq_false (fun e => h1 (by rw [e]))]
    exact rsame_msg_1 a b u v w h h' h0 h1
  by_cases h2 : a.to = b.to
  rotate_left
  · rw [show decide (a = b) = false from decide_eq_false (fun e => h2 (by rw [e]))]
    exact rsame_msg_2 a b u v w h h' h0 h1 h2
  by_cases h3 : a.sq = b.sq
  rotate_left
  · rw [show decide (a = b) = false from decide_eq_false (fun e => h3 (by rw [e]))]
    exact rsame_msg_3 a b u v w h h' h0 h1 h2 h3
  by_cases h4 : a.wh = b.wh
  rotate_left
  · rw [show decide (a = b) = false from decide_eq_false (fun e => h4 (by rw [e]))]
    exact rsame_msg_4 a b u v w h h' h0 h1 h2 h3 h4
  by_cases h5 : a.k = b.k
  rotate_left
  · rw [show decide (a = b) = false from decide_eq_false (fun e => h5 (by rw [e]))]
    exact rsame_msg_5 a b u v w h h' h0 h1 h2 h3 h4 h5
  by_cases h6 : a.ns = b.ns
  rotate_left
  · rw [show decide (a = b) = false from decide_eq_false (fun e => h6 (by rw [e]))]
    exact rsame_msg_6 a b u v w h h' h0 h1 h2 h3 h4 h5 h6
  by_cases h7 : a.tb = b.tb
  rotate_left
  · rw [show decide (a = b) = false from decide_eq_false (fun e => h7 (by rw [e]))]
    exact rsame_msg_7 a b u v w h h' h0 h1 h2 h3 h4 h5 h6 h7
  by_cases h8 : a.ep = b.ep
  rotate_left
  · rw [show decide (a = b) = false from decide_eq_false (fun e => h8 (by rw [e]))]
    exact rsame_msg_8 a b u v w h h' h0 h1 h2 h3 h4 h5 h6 h7 h8
  by_cases h9 : a.bo = b.bo
  rotate_left
  · rw [show decide (a = b) = false from decide_eq_false (fun e => h9 (by rw [e]))]
    exact rsame_msg_9 a b u v w h h' h0 h1 h2 h3 h4 h5 h6 h7 h8 h9
  by_cases h10 : a.ak = b.ak
  rotate_left
  · rw [show decide (a = b) = false from decide_eq_false (fun e => h10 (by rw [e]))]
    exact rsame_msg_10 a b u v w h h' h0 h1 h2 h3 h4 h5 h6 h7 h8 h9 h10
  by_cases h11 : a.ts = b.ts
  rotate_left
  · rw [show decide (a = b) = false from decide_eq_false (fun e => h11 (by rw [e]))]
    exact rsame_msg_11 a b u v w h h' h0 h1 h2 h3 h4 h5 h6 h7 h8 h9 h10 h11
  by_cases h12 : a.tn = b.tn
  rotate_left
  · rw [show decide (a = b) = false from decide_eq_false (fun e => h12 (by rw [e]))]
    exact rsame_msg_12 a b u v w h h' h0 h1 h2 h3 h4 h5 h6 h7 h8 h9 h10 h11 h12
  by_cases h13 : a.gd = b.gd
  rotate_left
  · rw [show decide (a = b) = false from decide_eq_false (fun e => h13 (by rw [e]))]
    exact rsame_msg_13 a b u v w h h' h0 h1 h2 h3 h4 h5 h6 h7 h8 h9 h10 h11 h12 h13
  rw [show decide (a = b) = true from decide_eq_true (by cases a; cases b; simp only at *; subst h0 h1 h2 h3 h4 h5 h6 h7 h8 h9 h10 h11 h12 h13; rfl)]
  exact rsame_msg_14 a b u v w h h' h0 h1 h2 h3 h4 h5 h6 h7 h8 h9 h10 h11 h12 h13
end Go.Proofs.YtjeepmdklbfgeaaDoor

namespace Go.Proofs.YtjeepmdklbfgeaaDoor
open Go.Sort Go.RowKit Go.Proofs.YtjeepmdklbfgeaaDoor.Pure Go.Proofs.YtjeepmdklbfgeaaDoor.W Go.Proofs.YtjeepmdklbfgeaaDoor.W.Pure

theorem read_any (s : ByteArray) (w : World) (hs : s.size ≤ 140737488351232) (ht : Tab w) : Calls Tryd.prog 18 #[.string s] w (ReadV w (readM s)) := by
  unfold readM
  by_cases h1 : s.size < 4
  · rw [if_pos h1]
    exact read_err s ⟨#[]⟩ 3 w (by decide) ht (fun W _ => (open_short s W h1).mono (fun e w' h => ⟨h.1, h.2 ▸ Below.refl _ _⟩))
  rw [if_neg h1]
  by_cases h2 : 4100 < s.size
  · rw [if_pos h2]
    exact read_err s ⟨#[]⟩ 4 w (by decide) ht (fun W _ => (open_large s W hs h2).mono (fun e w' h => ⟨h.1, h.2 ▸ Below.refl _ _⟩))
  rw [if_neg h2]
  by_cases h3 : Opens s
  · rw [if_neg (fun h => h h3)]
    exact read_got s (inner s) w (by unfold inner; rw [ByteArray.size_extract]; omega) ht (fun W h => open_yes s W (by omega) (by omega) h h3)
  · rw [if_pos h3]
    exact read_err s ⟨#[]⟩ 10 w (by decide) ht (fun W h => open_no s W (by omega) (by omega) h h3)
end Go.Proofs.YtjeepmdklbfgeaaDoor

namespace Go.Proofs.YtjeepmdklbfgeaaDoor.lawKinds
open Go.Sort Go.ChangeShapes Go.WideShapes Go.ChangeAt Go.RowKit Go.Proofs.YtjeepmdklbfgeaaDoor.Pure Go.Proofs.YtjeepmdklbfgeaaDoor.W Go.Proofs.YtjeepmdklbfgeaaDoor.W.Pure

/-- The least message of a kind. -/
def minM (K a b : Int) : Mg := { zm with kd := K, fr := a, «to» := b, tb := if K = 5 ∨ K = 6 then [z0] else [], ts := if 11 ≤ K then ⟨#[97]⟩ else ⟨#[]⟩ }
theorem wf_min (K a b : Int) : Wf (minM K a b) := by
  obtain ⟨h1, h2, h3, h4, h5, h6, _⟩ := wf_zm
  refine ⟨h1, h2, h3, h4, h5, h6, fun y h => ?_⟩
  unfold minM at h
  simp only [] at h
  split at h
  · rw [List.mem_singleton.1 h]; exact h5
  · cases h
theorem min_may {K a b : Int} (hk : 1 ≤ K ∧ K ≤ 12) (ha : 0 ≤ a ∧ a < 64) (hb : 0 ≤ b ∧ b < 64) (h : a ≠ b) : mayM (minM K a b) = true := by
  have hh : K = 1 ∨ K = 2 ∨ K = 3 ∨ K = 4 ∨ K = 5 ∨ K = 6 ∨ K = 7 ∨ K = 8 ∨ K = 9 ∨ K = 10 ∨ K = 11 ∨ K = 12 := by omega
  have e1 : isN a = true := by unfold isN; simp [ha.1, ha.2]
  have e2 : isN b = true := by unfold isN; simp [hb.1, hb.2]
  have e3 : decide (a = b) = false := by simpa using h
  unfold mayM headB
  rcases hh with rfl | rfl | rfl | rfl | rfl | rfl | rfl | rfl | rfl | rfl | rfl | rfl <;> (show (!(pof _).isEmpty && (isN a && (isN b && !decide (a = b))) && _) = true; rw [e1, e2, e3]; rfl)
theorem min_same {K a b : Int} (h : a = b) : mayM (minM K a b) = false := by
  unfold mayM headB
  show (!(pof _).isEmpty && (isN a && (isN b && !decide (a = b))) && _) = false
  rw [decide_eq_true h]
  simp
/-- The first octet is the kind, and more than four follow. -/
theorem min_first {K a b : Int} (hk : 1 ≤ K ∧ K ≤ 12) : ∃ l : List UInt8, sealB (tx (enc (minM K a b))) = ⟨(UInt8.ofNat K.toNat :: l).toArray⟩ ∧ 4 ≤ l.length := by
  have hn : num K.toNat = [UInt8.ofNat K.toNat] := by unfold num numF; rw [if_pos (by omega)]
  obtain ⟨c, hc⟩ : ∃ c, sealB (tx (enc (minM K a b))) = tx (enc (minM K a b)) ++ fourB c := ⟨_, rfl⟩
  have e : enc (minM K a b) = UInt8.ofNat K.toNat :: (num a.toNat ++ num b.toNat ++ ((pof K).flatMap fun i => layP i (minM K a b))) := by
    unfold enc layH
    show num K.toNat ++ (num a.toNat ++ num b.toNat) ++ _ = _
    rw [hn]
    simp
    rfl
  refine ⟨num a.toNat ++ num b.toNat ++ ((pof K).flatMap fun i => layP i (minM K a b)) ++ (fourB c).data.toList, ?_, ?_⟩
  · rw [hc, e]
    apply ByteArray.ext
    apply Array.toList_inj.1
    rw [ByteArray.data_append, Array.toList_append]
    simp [tx]
  · have h4 : (fourB c).data.toList.length = 4 := by rw [Array.length_toList]; exact fourB_size c
    simp [h4]
    omega
end Go.Proofs.YtjeepmdklbfgeaaDoor.lawKinds
