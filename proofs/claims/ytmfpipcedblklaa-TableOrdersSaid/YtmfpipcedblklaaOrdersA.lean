/-
  TableOrders, where the table may not be, or nobody is told of.
-/
import Derived.Test.YtmfpipcedblklaaLaw
import Derived.Test.YtmfpipcedblklaaOrd
namespace Go.Proofs.Ytmfpipcedblklaa.lawOrders
open Go.Sort Go.ChangeShapes Go.WideShapes Go.ChangeAt Go.RowKit Go.Joins Go.Proofs.Ytmfpipcedblklaa.Pure

set_option maxRecDepth 100000 in
set_option maxHeartbeats 4000000 in
theorem wayBad (A B C D : Option Addr) (kt nt nl nw no ca cb cc cd : Nat) (t : List Kn) (w : World) (HF : Hid (∀ W : World, Calls Try.prog 9 #[.slice A kt ca] W fun e w' => e = .returned (.slice A nt ca) ∧ Below W.heap.size W w')) (HC : Hid (∀ W : World, Lst W A t → Calls Try.prog 16 #[.slice A nt ca] W fun e w' => e = .returned (.int .i64 1) ∧ Below W.heap.size W w')) (hT : Lst w A t) :
    Calls Try.prog 5 #[.agg #[.slice A kt ca, .slice B nl cb, .slice C nw cc, .slice D no cd]] w fun e w' => e = .returned (.bool true) ∧ Below w.heap.size w w' := by
  have LT_0 := Lib.hid (hT)
  clear hT
  have c0 : (w.alloc (.cells #[.slice A kt ca, .slice B nl cb, .slice C nw cc, .slice D no cd] 55)).cell? ⟨w.heap.size, 0, none⟩ = some (.slice A kt ca) := by rw [World.cell?_alloc_mark]; rfl
  have c1 : (w.alloc (.cells #[.slice A kt ca, .slice B nl cb, .slice C nw cc, .slice D no cd] 55)).cell? ⟨w.heap.size, 1, none⟩ = some (.slice B nl cb) := by rw [World.cell?_alloc_mark]; rfl
  have c2 : (w.alloc (.cells #[.slice A kt ca, .slice B nl cb, .slice C nw cc, .slice D no cd] 55)).cell? ⟨w.heap.size, 2, none⟩ = some (.slice C nw cc) := by rw [World.cell?_alloc_mark]; rfl
  have c3 : (w.alloc (.cells #[.slice A kt ca, .slice B nl cb, .slice C nw cc, .slice D no cd] 55)).cell? ⟨w.heap.size, 3, none⟩ = some (.slice D no cd) := by rw [World.cell?_alloc_mark]; rfl
  have hal : Below w.heap.size w (w.alloc (.cells #[.slice A kt ca, .slice B nl cb, .slice C nw cc, .slice D no cd] 55)) := (Below.refl _ _).alloc (Nat.le_refl _) _
  have HB_1 : Hid (Below w.heap.size w (w.alloc (.cells #[.slice A kt ca, .slice B nl cb, .slice C nw cc, .slice D no cd] 55))) := Lib.hid hal
  have LT_1 := Lib.hid (LT_0.out.on hal)
  clear LT_0 hal
  go_enter Try.func5, Try.ntmps5
  go_upto_region 1 with (fail)
  generalize w.alloc (.cells #[.slice A kt ca, .slice B nl cb, .slice C nw cc, .slice D no cd] 55) = w2 at *
  have C0 := fun d os => cell_regrown c0 d os
  have C1 := fun d os => cell_regrown c1 d os
  have C2 := fun d os => cell_regrown c2 d os
  have C3 := fun d os => cell_regrown c3 d os
  clear c0 c1 c2 c3
  refine q_enter (by kernel_rfl) (by kernel_rfl) ?_
  iterate 13 (refine q_step ?_; intro K hK; go_simp; first | (refine hK _ ?_; clear hK K) | (refine ⟨_, fun p => Calls.regrown_of (by with_reducible exact HF.out _), hK _ ?_⟩; clear hK K))
  refine q_nil ?_
  intro wz hbz
  have HB_2 : Hid (Below w.heap.size w wz) := Lib.hid (HB_1.out.trans (hbz.mono HB_1.out.size))
  have LT_2 := Lib.hid (LT_1.out.on hbz)
  clear HB_1 LT_1 hbz
  clear C0 C1 C2 C3
  go_wp2_with fail
  refine (HC.out _ LT_2.out).mono ?_
  rintro e w3 ⟨rfl, hb⟩
  have HB_3 : Hid (Below w.heap.size w w3) := Lib.hid (HB_2.out.trans (hb.mono HB_2.out.size))
  have LT_3 := Lib.hid (LT_2.out.on hb)
  clear HB_2 LT_2 hb
  go_wp2_with fail
  refine (awake_any _).mono ?_
  rintro e wE ⟨rfl, hbE⟩
  have HE : Hid (Below w.heap.size w wE) := Lib.hid (HB_3.out.trans (hbE.mono HB_3.out.size))
  clear hbE
  go_wp2_with fail
  go_ret
  exact ⟨rfl, HE.out⟩

set_option maxRecDepth 100000 in
set_option maxHeartbeats 4000000 in
theorem wayNone (A B C D : Option Addr) (kt nt nl no ca cb cc cd : Nat) (t : List Kn) (w : World) (HF : Hid (∀ W : World, Calls Try.prog 9 #[.slice A kt ca] W fun e w' => e = .returned (.slice A nt ca) ∧ Below W.heap.size W w')) (HC : Hid (∀ W : World, Lst W A t → Calls Try.prog 16 #[.slice A nt ca] W fun e w' => e = .returned (.int .i64 0) ∧ Below W.heap.size W w')) (hT : Lst w A t) (hnt : 1 ≤ nt) :
    Calls Try.prog 5 #[.agg #[.slice A kt ca, .slice B nl cb, .slice C 0 cc, .slice D no cd]] w fun e w' => e = .returned (.bool true) ∧ Below w.heap.size w w' := by
  have LT_0 := Lib.hid (hT)
  clear hT
  have nt0 : ((nt : Int) == 0) = false := by simp only [beq_eq_false_iff_ne]; omega
  have c0 : (w.alloc (.cells #[.slice A kt ca, .slice B nl cb, .slice C 0 cc, .slice D no cd] 55)).cell? ⟨w.heap.size, 0, none⟩ = some (.slice A kt ca) := by rw [World.cell?_alloc_mark]; rfl
  have c1 : (w.alloc (.cells #[.slice A kt ca, .slice B nl cb, .slice C 0 cc, .slice D no cd] 55)).cell? ⟨w.heap.size, 1, none⟩ = some (.slice B nl cb) := by rw [World.cell?_alloc_mark]; rfl
  have c2 : (w.alloc (.cells #[.slice A kt ca, .slice B nl cb, .slice C 0 cc, .slice D no cd] 55)).cell? ⟨w.heap.size, 2, none⟩ = some (.slice C 0 cc) := by rw [World.cell?_alloc_mark]; rfl
  have c3 : (w.alloc (.cells #[.slice A kt ca, .slice B nl cb, .slice C 0 cc, .slice D no cd] 55)).cell? ⟨w.heap.size, 3, none⟩ = some (.slice D no cd) := by rw [World.cell?_alloc_mark]; rfl
  have hal : Below w.heap.size w (w.alloc (.cells #[.slice A kt ca, .slice B nl cb, .slice C 0 cc, .slice D no cd] 55)) := (Below.refl _ _).alloc (Nat.le_refl _) _
  have HB_1 : Hid (Below w.heap.size w (w.alloc (.cells #[.slice A kt ca, .slice B nl cb, .slice C 0 cc, .slice D no cd] 55))) := Lib.hid hal
  have LT_1 := Lib.hid (LT_0.out.on hal)
  clear LT_0 hal
  go_enter Try.func5, Try.ntmps5
  go_upto_region 1 with (fail)
  generalize w.alloc (.cells #[.slice A kt ca, .slice B nl cb, .slice C 0 cc, .slice D no cd] 55) = w2 at *
  have C0 := fun d os => cell_regrown c0 d os
  have C1 := fun d os => cell_regrown c1 d os
  have C2 := fun d os => cell_regrown c2 d os
  have C3 := fun d os => cell_regrown c3 d os
  clear c0 c1 c2 c3
  refine q_enter (by kernel_rfl) (by kernel_rfl) ?_
  iterate 13 (refine q_step ?_; intro K hK; go_simp; first | (refine hK _ ?_; clear hK K) | (refine ⟨_, fun p => Calls.regrown_of (by with_reducible exact HF.out _), hK _ ?_⟩; clear hK K))
  refine q_nil ?_
  intro wz hbz
  have HB_2 : Hid (Below w.heap.size w wz) := Lib.hid (HB_1.out.trans (hbz.mono HB_1.out.size))
  have LT_2 := Lib.hid (LT_1.out.on hbz)
  clear HB_1 LT_1 hbz
  clear C0 C1 C2 C3
  go_wp2_with fail
  refine (HC.out _ LT_2.out).mono ?_
  rintro e w3 ⟨rfl, hb⟩
  have HB_3 : Hid (Below w.heap.size w w3) := Lib.hid (HB_2.out.trans (hb.mono HB_2.out.size))
  have LT_3 := Lib.hid (LT_2.out.on hb)
  clear HB_2 LT_2 hb
  go_wp2_with fail
  refine (awake_any _).mono ?_
  rintro e wE ⟨rfl, hbE⟩
  have HE : Hid (Below w.heap.size w wE) := Lib.hid (HB_3.out.trans (hbE.mono HB_3.out.size))
  clear hbE
  go_wp2_with fail
  go_ret
  exact ⟨rfl, HE.out⟩

end Go.Proofs.Ytmfpipcedblklaa.lawOrders
