/-
  The document's Read, whatever the octets are.
-/
import Derived.Test.YtjeepmdklbfgeaaDoorRread
import Derived.Test.YtjeepmdklbfgeaaDoorRwriteM
namespace Go.Proofs.YtjeepmdklbfgeaaDoor
open Go.Sort Go.RowKit Go.Proofs.YtjeepmdklbfgeaaDoor.Pure Go.Proofs.YtjeepmdklbfgeaaDoor.W Go.Proofs.YtjeepmdklbfgeaaDoor.W.Pure

set_option maxRecDepth 100000 in
set_option maxHeartbeats 4000000 in
theorem rread_err (s z : ByteArray) (k : Nat) (w : World) (hk : k ≠ 0) (hO : ∀ W : World, Calls Tryd.prog 44 #[.string s] W fun e w' => e = .returned (.tuple #[.string z, .int .i64 (k : Int)]) ∧ Below W.heap.size W w') :
    Calls Tryd.prog 20 #[.string s] w (ReadV w (zm, k)) := by
  have HO := Lib.hid hO
  have e2 : ((k : Int) != 0) = true := by simp; omega
  have e3 : ¬ ((k : Int) = 0) := by omega
  have HB0 : Hid (Below w.heap.size w (w.alloc (.cells #[.int .i64 0, .int .i64 0, .int .i64 0, .int .u64 0, .int .i64 0, .int .u64 0, .int .i64 0, .slice none 0 0, .slice none 0 0, .int .u64 0, .int .u64 0, .int .i64 0, .string ⟨#[]⟩, .int .u64 0, .bool false] 28))) := Lib.hid ((Below.refl _ _).alloc (Nat.le_refl _) _)
  have HR0 : Hid (Var (w.alloc (.cells #[.int .i64 0, .int .i64 0, .int .i64 0, .int .u64 0, .int .i64 0, .int .u64 0, .int .i64 0, .slice none 0 0, .slice none 0 0, .int .u64 0, .int .u64 0, .int .i64 0, .string ⟨#[]⟩, .int .u64 0, .bool false] 28)) w.heap.size (.agg zcs.toArray)) := Lib.hid (Var.new w zm none none 0 0 0 0)
  clear hO hk
  go_enter Tryd.func20, Tryd.ntmps20
  go_upto_region 1 with (fail)
  generalize w.alloc (.cells #[.int .i64 0, .int .i64 0, .int .i64 0, .int .u64 0, .int .i64 0, .int .u64 0, .int .i64 0, .slice none 0 0, .slice none 0 0, .int .u64 0, .int .u64 0, .int .i64 0, .string ⟨#[]⟩, .int .u64 0, .bool false] 28) = w1 at *
  go_upto_region 2 with (go_at_call 44; refine (HO.out _).mono ?_; rintro e w2 ⟨rfl, hb2⟩; have HBz := Lib.hid (HB0.out.trans (hb2.mono HB0.out.size)); have HRz := Lib.hid (HR0.out.on hb2); clear hb2)
  obtain ⟨r, er⟩ : ∃ r, r = w.heap.size := ⟨_, rfl⟩
  have hr0 : w.heap.size ≤ r := Nat.le_of_eq er.symm
  rw [← er] at HRz
  simp only [← er]
  clear HR0 HB0 HO er
  go_wp2_with (refine wpList_store_var rfl _ _ rfl r _ (.agg zcs.toArray) rfl rfl HRz.out zm_v ?_; intro wf hVf hJf; have HVf := Lib.hid hVf; have HJf := Lib.hid hJf; clear hVf hJf)
  obtain ⟨r0, r1, r2, r3, r4, r5, r6, r7, r8, r9, r10, r11, r12, r13, r14⟩ := var_cells HVf.out
  refine bodyPost_ret (v := .tuple #[.agg #[.int .i64 0, .int .i64 0, .int .i64 0, .int .u64 0, .int .i64 0, .int .u64 0, .int .i64 0, .slice none 0 0, .slice none 0 0, .int .u64 0, .int .u64 0, .int .i64 0, .string ⟨#[]⟩, .int .u64 0, .bool false], .int .i64 (k : Int)]) (by simp [results, Tryd.results20, go_sem, r0, r1, r2, r3, r4, r5, r6, r7, r8, r9, r10, r11, r12, r13, r14]) rfl ⟨_, rfl, msgv_zero _, ?_⟩
  exact HJf.out.below HBz.out hr0
theorem rread_any (s : ByteArray) (w : World) (hs : s.size ≤ 140737488351232) : Calls Tryd.prog 20 #[.string s] w (ReadV w (readM s)) := by
  by_cases h1 : s.size < 4
  · rw [show readM s = (zm, 3) by unfold readM; rw [if_pos h1]]
    exact rread_err s ⟨#[]⟩ 3 w (by decide) (fun W => (ropen_short s W h1).mono (fun e w' h => ⟨h.1, h.2 ▸ Below.refl _ _⟩))
  by_cases h2 : 4100 < s.size
  · rw [show readM s = (zm, 4) by unfold readM; rw [if_neg h1, if_pos h2]]
    exact rread_err s ⟨#[]⟩ 4 w (by decide) (fun W => (ropen_large s W hs h2).mono (fun e w' h => ⟨h.1, h.2 ▸ Below.refl _ _⟩))
  by_cases h3 : Opens s
  · exact rread_got s w (by omega) (by omega) h3 (fun m u W h => rmay_msg m u W h) (fun m u W h hw hm => rwrite_any m u W h hw hm)
  · rw [show readM s = (zm, 10) by unfold readM; rw [if_neg h1, if_neg h2, if_pos h3]]
    exact rread_err s ⟨#[]⟩ 10 w (by decide) (fun W => ropen_no s W (by omega) (by omega) h3)
end Go.Proofs.YtjeepmdklbfgeaaDoor
