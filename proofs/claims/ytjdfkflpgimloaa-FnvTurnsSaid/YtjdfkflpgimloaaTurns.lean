/-
  FnvTurns: a number turned in its lowest eight bits by an octet comes, by the octet turned by the same, to the same: the law returns true for every input.
-/
import Derived.Test.YtjdfkflpgimloaaLaw
import Derived.Test.YtjdfkflpgimloaaQuiet
import Derived.Test.YtjdfkflpgimloaaPlanC
namespace Go.Proofs.Ytjdfkflpgimloaa.lawTurns
open Go.Sort Go.ChangeShapes Go.WideShapes Go.ChangeAt Go.RowKit Go.Joins Go.Proofs.Ytjdfkflpgimloaa.Pure

theorem xor_u8 (a b : UInt8) : bits .xor .u8 (a.toNat : Int) (b.toNat : Int) = ((a ^^^ b).toNat : Int) := by
  have h1 := a.toNat_lt
  have h2 := b.toNat_lt
  rw [u8_xor_nat _ _ (by omega) (by omega), UInt8.toNat_xor]
theorem one_text (X : Int) (o : UInt8) (hX : X = (o.toNat : Int)) (g : Nat) (W : World) (hc : W.cell? ⟨g, 0, none⟩ = some (.int .u8 X)) :
    (convert 34 9 (.slice (some ⟨g, 0, none⟩) 1 1)).run Try.prog W = .ok (.string ⟨#[o]⟩) W := by
  subst hX
  exact run_convert_bytes_back W 34 9 5 ⟨g, 0, none⟩ 1 [o] Try.underlying34 Try.underlying5 Try.underlying9 fun j hj => by
    match j, hj with
    | 0, _ => simpa [Addr.add] using hc

set_option maxRecDepth 100000 in
set_option maxHeartbeats 4000000 in
theorem way (h h1 h2 : BitVec 64) (a b x : UInt8) (s0 s y z : ByteArray) (w : World) (hy : y.size = 1) (hz : z.size = 1)
    (V1 : ∀ (g : Nat) (W : World), W.cell? ⟨g, 0, none⟩ = some (.int .u8 (x.toNat : Int)) → (convert 34 9 (.slice (some ⟨g, 0, none⟩) 1 1)).run Try.prog W = .ok (.string y) W)
    (V2 : ∀ (g : Nat) (W : World), W.cell? ⟨g, 0, none⟩ = some (.int .u8 (a.toNat : Int)) → (convert 34 9 (.slice (some ⟨g, 0, none⟩) 1 1)).run Try.prog W = .ok (.string z) W)
    (HF : Hid (∀ W, Calls Try.prog 9 #[.string s0] W fun e w' => e = .returned (.string s) ∧ W = w'))
    (hx : bits .xor .u8 (a.toNat : Int) (b.toNat : Int) = (x.toNat : Int)) (hh : bits .xor .u64 (h.toNat : Int) (IntKind.u64.wrap (b.toNat : Int)) = (h1.toNat : Int)) (hs : s.size ≤ 300)
    (C1 : Hid (∀ W, Calls Try.prog 12 #[.int .u64 (h1.toNat : Int), .string (y ++ s)] W fun e w' => e = .returned (.int .u64 (h2.toNat : Int)) ∧ W = w'))
    (C2 : Hid (∀ W, Calls Try.prog 12 #[.int .u64 (h.toNat : Int), .string (z ++ s)] W fun e w' => e = .returned (.int .u64 (h2.toNat : Int)) ∧ W = w')) :
    Calls Try.prog 7 #[.agg #[.int .u64 (h.toNat : Int), .int .u8 (a.toNat : Int), .int .u8 (b.toNat : Int), .string s0]] w fun e w' => e = .returned (.bool true) ∧ Below w.heap.size w w' := by
  have V1 := Lib.hid V1
  have V2 := Lib.hid V2
  have hsm : ¬ 9223372036854775807 < 1 + s.size := by omega
  go_enter Try.func7, Try.ntmps7
  go_upto_region 1 with (fail)
  have HB0 : Hid (Below w.heap.size w (w.alloc (.cells #[.int .u64 (h.toNat : Int), .int .u8 (a.toNat : Int), .int .u8 (b.toNat : Int), .string s0] 38))) := Lib.hid ((Below.refl _ _).alloc (Nat.le_refl _) _)
  have c0 : (w.alloc (.cells #[.int .u64 (h.toNat : Int), .int .u8 (a.toNat : Int), .int .u8 (b.toNat : Int), .string s0] 38)).cell? ⟨w.heap.size, 0, none⟩ = some (.int .u64 (h.toNat : Int)) := by rw [World.cell?_alloc_new]; rfl
  have c1 : (w.alloc (.cells #[.int .u64 (h.toNat : Int), .int .u8 (a.toNat : Int), .int .u8 (b.toNat : Int), .string s0] 38)).cell? ⟨w.heap.size, 1, none⟩ = some (.int .u8 (a.toNat : Int)) := by rw [World.cell?_alloc_new]; rfl
  have c2 : (w.alloc (.cells #[.int .u64 (h.toNat : Int), .int .u8 (a.toNat : Int), .int .u8 (b.toNat : Int), .string s0] 38)).cell? ⟨w.heap.size, 2, none⟩ = some (.int .u8 (b.toNat : Int)) := by rw [World.cell?_alloc_new]; rfl
  have c3 : (w.alloc (.cells #[.int .u64 (h.toNat : Int), .int .u8 (a.toNat : Int), .int .u8 (b.toNat : Int), .string s0] 38)).cell? ⟨w.heap.size, 3, none⟩ = some (.string s0) := by rw [World.cell?_alloc_new]; rfl
  have hlt : w.heap.size < (w.alloc (.cells #[.int .u64 (h.toNat : Int), .int .u8 (a.toNat : Int), .int .u8 (b.toNat : Int), .string s0] 38)).heap.size := by simp
  generalize w.alloc (.cells #[.int .u64 (h.toNat : Int), .int .u8 (a.toNat : Int), .int .u8 (b.toNat : Int), .string s0] 38) = w0 at *
  go_cut [3, 4, 5, 6] from 3 to 15 (fun u3 u4 u5 u6 wx => u3 = .int .u64 (h.toNat : Int) ∧ u4 = .int .u8 (a.toNat : Int) ∧ u5 = .int .u8 (b.toNat : Int) ∧ u6 = .string s ∧ Hid (Below w.heap.size w wx))
  case first =>
    have c0 : ∀ p : Regrown, (grow (redrawn w0 p.d) p.os).cell? ⟨w.heap.size, 0, none⟩ = some (.int .u64 (h.toNat : Int)) := fun p => cell_regrown c0 p.d p.os
    have c1 : ∀ p : Regrown, (grow (redrawn w0 p.d) p.os).cell? ⟨w.heap.size, 1, none⟩ = some (.int .u8 (a.toNat : Int)) := fun p => cell_regrown c1 p.d p.os
    have c2 : ∀ p : Regrown, (grow (redrawn w0 p.d) p.os).cell? ⟨w.heap.size, 2, none⟩ = some (.int .u8 (b.toNat : Int)) := fun p => cell_regrown c2 p.d p.os
    have c3 : ∀ p : Regrown, (grow (redrawn w0 p.d) p.os).cell? ⟨w.heap.size, 3, none⟩ = some (.string s0) := fun p => cell_regrown c3 p.d p.os
    refine q_enter (by kernel_rfl) (by kernel_rfl) ?_
    iterate 13 (refine q_step ?_; intro K hK; go_simp; first | (refine hK _ ?_; clear hK K) | (refine ⟨_, fun p => Calls.regrown_of (by with_reducible exact (HF.out (grow (redrawn w0 p.d) p.os)).mono (fun _ _ ⟨he, hw⟩ => ⟨he, hw ▸ Below.refl _ _⟩)), hK _ ?_⟩; clear hK K))
    refine q_nil ?_
    intro wz hbz
    go_wp2_with fail
    go_meet
    case rel => exact ⟨rfl, rfl, rfl, rfl, Lib.hid (HB0.out.trans (hbz.mono (by omega)))⟩
  case rest =>
    obtain ⟨rfl, rfl, rfl, rfl, HB⟩ := hcut
    go_upto_region 2 with (fail)
    refine p3_enter (.take 0 (.take 1 (.take 2 (.take 3 (.take 4 (.take 5 (.take 6 (.take 9 (.take 12 (.take 13 (.take 16 (.two 7 (.two 8 (.take 10 (.two 11 (.one 14 (.one 15 (.take 17 (.one 18 (.take 19 (.take 20 (.one 21 (.take 22 (.take 23 .done))))))))) 14 (.two 11 (.one 15 (.take 17 (.one 18 (.take 19 (.take 20 (.one 21 (.take 22 (.take 23 .done)))))))) 15 (.take 17 (.one 11 (.one 18 (.take 19 (.take 20 (.one 21 (.take 22 (.take 23 .done))))))))))) 14 (.two 8 (.take 10 (.two 11 (.one 15 (.take 17 (.one 18 (.take 19 (.take 20 (.one 21 (.take 22 (.take 23 .done)))))))) 15 (.take 17 (.one 11 (.one 18 (.take 19 (.take 20 (.one 21 (.take 22 (.take 23 .done)))))))))) 15 (.take 17 (.one 8 (.take 10 (.one 11 (.one 18 (.take 19 (.take 20 (.one 21 (.take 22 (.take 23 .done)))))))))))) 14 (.two 7 (.two 8 (.take 10 (.two 11 (.one 15 (.take 17 (.one 18 (.take 19 (.take 20 (.one 21 (.take 22 (.take 23 .done)))))))) 15 (.take 17 (.one 11 (.one 18 (.take 19 (.take 20 (.one 21 (.take 22 (.take 23 .done)))))))))) 15 (.take 17 (.one 8 (.take 10 (.one 11 (.one 18 (.take 19 (.take 20 (.one 21 (.take 22 (.take 23 .done))))))))))) 15 (.take 17 (.one 7 (.one 8 (.take 10 (.one 11 (.one 18 (.take 19 (.take 20 (.one 21 (.take 22 (.take 23 .done)))))))))))))))))))))))) (fun _ => True) (by kernel_rfl) (by kernel_rfl) (by kernel_rfl) (fun _ _ d _ _ h => by cases d <;> exact h) trivial ?_
    simp only [pick3, opAt, List.drop_succ_cons, List.drop_zero]
    have hB_0 := Lib.hid HB.out.drew
    generalize wc.drew = wd at *
    iterate 11 (first | (refine' p3_yes ?_ (by rfl) ?_ ?_; rotate_left; (intro w' hS; (try dsimp only at hS); go_simp; try (with_reducible rfl)); simp only [Act.put, List.setIfInBounds_toArray, List.set_cons_zero, List.set_cons_succ]) | (refine p3_no (by rfl) ?_; simp only [Act.put, List.setIfInBounds_toArray, List.set_cons_zero, List.set_cons_succ]))
    refine p3_two ?_ ?_
    · intro KK hK
      go_simp
      have hbx : Below wd.heap.size wd (wd.alloc (.cells #[.int .u8 (x.toNat : Int)] 5)) := (Below.refl _ _).alloc (Nat.le_refl _) _
      have hB_1 := Lib.hid (hB_0.out.trans (hbx.mono hB_0.out.size))
      have cx_1 : Hid ((wd.alloc (.cells #[.int .u8 (x.toNat : Int)] 5)).cell? ⟨wd.heap.size, 0, none⟩ = some (.int .u8 (x.toNat : Int))) := Lib.hid (by rw [World.cell?_alloc_new]; rfl)
      clear hB_0 hbx
      generalize wd.alloc (.cells #[.int .u8 (x.toNat : Int)] 5) = wd1 at *
      generalize wd.heap.size = gx at *
      have qx := V1.out gx wd1 cx_1.out
      refine hK.out _ _ trivial ?_
      clear hK
      refine p3_two ?_ ?_
      · intro KK hK
        go_simp
        refine hK.out _ _ trivial ?_
        clear hK
        iterate 1 (first | (refine' p3_yes ?_ (by rfl) ?_ ?_; rotate_left; (intro w' hS; (try dsimp only at hS); go_simp; try (with_reducible rfl)); simp only [Act.put, List.setIfInBounds_toArray, List.set_cons_zero, List.set_cons_succ]) | (refine p3_no (by rfl) ?_; simp only [Act.put, List.setIfInBounds_toArray, List.set_cons_zero, List.set_cons_succ]))
        refine p3_two ?_ ?_
        · intro KK hK
          go_simp
          refine (C1.out _).mono ?_
          rintro e w' ⟨rfl, rfl⟩
          refine hK.out _ _ trivial ?_
          clear hK
          refine p3_one ?_
          intro KK hK
          go_simp
          have hbx : Below wd1.heap.size wd1 (wd1.alloc (.cells #[.int .u8 (a.toNat : Int)] 5)) := (Below.refl _ _).alloc (Nat.le_refl _) _
          have hB_2 := Lib.hid (hB_1.out.trans (hbx.mono hB_1.out.size))
          have cx_2 := Lib.hid ((hbx.cell (p := ⟨gx, 0, none⟩) (World.block_lt_of_cell? _ _ cx_1.out)).trans cx_1.out)
          clear cx_1 qx
          have ca_2 : Hid ((wd1.alloc (.cells #[.int .u8 (a.toNat : Int)] 5)).cell? ⟨wd1.heap.size, 0, none⟩ = some (.int .u8 (a.toNat : Int))) := Lib.hid (by rw [World.cell?_alloc_new]; rfl)
          clear hB_1 hbx
          generalize wd1.alloc (.cells #[.int .u8 (a.toNat : Int)] 5) = wd2 at *
          generalize wd1.heap.size = ga at *
          have qx := V1.out gx wd2 cx_2.out
          have qa := V2.out ga wd2 ca_2.out
          refine hK.out _ _ trivial ?_
          clear hK
          refine p3_one ?_
          intro KK hK
          go_simp
          refine hK.out _ _ trivial ?_
          clear hK
          iterate 1 (first | (refine' p3_yes ?_ (by rfl) ?_ ?_; rotate_left; (intro w' hS; (try dsimp only at hS); go_simp; try (with_reducible rfl)); simp only [Act.put, List.setIfInBounds_toArray, List.set_cons_zero, List.set_cons_succ]) | (refine p3_no (by rfl) ?_; simp only [Act.put, List.setIfInBounds_toArray, List.set_cons_zero, List.set_cons_succ]))
          refine p3_one ?_
          intro KK hK
          go_simp
          refine (C2.out _).mono ?_
          rintro e w' ⟨rfl, rfl⟩
          refine hK.out _ _ trivial ?_
          clear hK
          iterate 2 (first | (refine' p3_yes ?_ (by rfl) ?_ ?_; rotate_left; (intro w' hS; (try dsimp only at hS); go_simp; try (with_reducible rfl)); simp only [Act.put, List.setIfInBounds_toArray, List.set_cons_zero, List.set_cons_succ]) | (refine p3_no (by rfl) ?_; simp only [Act.put, List.setIfInBounds_toArray, List.set_cons_zero, List.set_cons_succ]))
          refine p3_one ?_
          intro KK hK
          go_simp
          refine (awake_any _).mono ?_
          rintro e w4 ⟨rfl, hb4⟩
          refine hK.out _ _ trivial ?_
          clear hK
          iterate 2 (first | (refine' p3_yes ?_ (by rfl) ?_ ?_; rotate_left; (intro w' hS; (try dsimp only at hS); go_simp; try (with_reducible rfl)); simp only [Act.put, List.setIfInBounds_toArray, List.set_cons_zero, List.set_cons_succ]) | (refine p3_no (by rfl) ?_; simp only [Act.put, List.setIfInBounds_toArray, List.set_cons_zero, List.set_cons_succ]))
          refine p3_done ?_
          go_wp2_with fail
          go_ret
          exact ⟨rfl, hB_2.out.trans (hb4.mono hB_2.out.size)⟩
        · intro KK hK
          go_simp
          have hbx : Below wd1.heap.size wd1 (wd1.alloc (.cells #[.int .u8 (a.toNat : Int)] 5)) := (Below.refl _ _).alloc (Nat.le_refl _) _
          have hB_2 := Lib.hid (hB_1.out.trans (hbx.mono hB_1.out.size))
          have cx_2 := Lib.hid ((hbx.cell (p := ⟨gx, 0, none⟩) (World.block_lt_of_cell? _ _ cx_1.out)).trans cx_1.out)
          clear cx_1 qx
          have ca_2 : Hid ((wd1.alloc (.cells #[.int .u8 (a.toNat : Int)] 5)).cell? ⟨wd1.heap.size, 0, none⟩ = some (.int .u8 (a.toNat : Int))) := Lib.hid (by rw [World.cell?_alloc_new]; rfl)
          clear hB_1 hbx
          generalize wd1.alloc (.cells #[.int .u8 (a.toNat : Int)] 5) = wd2 at *
          generalize wd1.heap.size = ga at *
          have qx := V1.out gx wd2 cx_2.out
          have qa := V2.out ga wd2 ca_2.out
          refine hK.out _ _ trivial ?_
          clear hK
          refine p3_two ?_ ?_
          · intro KK hK
            go_simp
            refine (C1.out _).mono ?_
            rintro e w' ⟨rfl, rfl⟩
            refine hK.out _ _ trivial ?_
            clear hK
            refine p3_one ?_
            intro KK hK
            go_simp
            refine hK.out _ _ trivial ?_
            clear hK
            iterate 1 (first | (refine' p3_yes ?_ (by rfl) ?_ ?_; rotate_left; (intro w' hS; (try dsimp only at hS); go_simp; try (with_reducible rfl)); simp only [Act.put, List.setIfInBounds_toArray, List.set_cons_zero, List.set_cons_succ]) | (refine p3_no (by rfl) ?_; simp only [Act.put, List.setIfInBounds_toArray, List.set_cons_zero, List.set_cons_succ]))
            refine p3_one ?_
            intro KK hK
            go_simp
            refine (C2.out _).mono ?_
            rintro e w' ⟨rfl, rfl⟩
            refine hK.out _ _ trivial ?_
            clear hK
            iterate 2 (first | (refine' p3_yes ?_ (by rfl) ?_ ?_; rotate_left; (intro w' hS; (try dsimp only at hS); go_simp; try (with_reducible rfl)); simp only [Act.put, List.setIfInBounds_toArray, List.set_cons_zero, List.set_cons_succ]) | (refine p3_no (by rfl) ?_; simp only [Act.put, List.setIfInBounds_toArray, List.set_cons_zero, List.set_cons_succ]))
            refine p3_one ?_
            intro KK hK
            go_simp
            refine (awake_any _).mono ?_
            rintro e w4 ⟨rfl, hb4⟩
            refine hK.out _ _ trivial ?_
            clear hK
            iterate 2 (first | (refine' p3_yes ?_ (by rfl) ?_ ?_; rotate_left; (intro w' hS; (try dsimp only at hS); go_simp; try (with_reducible rfl)); simp only [Act.put, List.setIfInBounds_toArray, List.set_cons_zero, List.set_cons_succ]) | (refine p3_no (by rfl) ?_; simp only [Act.put, List.setIfInBounds_toArray, List.set_cons_zero, List.set_cons_succ]))
            refine p3_done ?_
            go_wp2_with fail
            go_ret
            exact ⟨rfl, hB_2.out.trans (hb4.mono hB_2.out.size)⟩
          · intro KK hK
            go_simp
            refine hK.out _ _ trivial ?_
            clear hK
            iterate 1 (first | (refine' p3_yes ?_ (by rfl) ?_ ?_; rotate_left; (intro w' hS; (try dsimp only at hS); go_simp; try (with_reducible rfl)); simp only [Act.put, List.setIfInBounds_toArray, List.set_cons_zero, List.set_cons_succ]) | (refine p3_no (by rfl) ?_; simp only [Act.put, List.setIfInBounds_toArray, List.set_cons_zero, List.set_cons_succ]))
            refine p3_one ?_
            intro KK hK
            go_simp
            refine (C1.out _).mono ?_
            rintro e w' ⟨rfl, rfl⟩
            refine hK.out _ _ trivial ?_
            clear hK
            refine p3_one ?_
            intro KK hK
            go_simp
            refine (C2.out _).mono ?_
            rintro e w' ⟨rfl, rfl⟩
            refine hK.out _ _ trivial ?_
            clear hK
            iterate 2 (first | (refine' p3_yes ?_ (by rfl) ?_ ?_; rotate_left; (intro w' hS; (try dsimp only at hS); go_simp; try (with_reducible rfl)); simp only [Act.put, List.setIfInBounds_toArray, List.set_cons_zero, List.set_cons_succ]) | (refine p3_no (by rfl) ?_; simp only [Act.put, List.setIfInBounds_toArray, List.set_cons_zero, List.set_cons_succ]))
            refine p3_one ?_
            intro KK hK
            go_simp
            refine (awake_any _).mono ?_
            rintro e w4 ⟨rfl, hb4⟩
            refine hK.out _ _ trivial ?_
            clear hK
            iterate 2 (first | (refine' p3_yes ?_ (by rfl) ?_ ?_; rotate_left; (intro w' hS; (try dsimp only at hS); go_simp; try (with_reducible rfl)); simp only [Act.put, List.setIfInBounds_toArray, List.set_cons_zero, List.set_cons_succ]) | (refine p3_no (by rfl) ?_; simp only [Act.put, List.setIfInBounds_toArray, List.set_cons_zero, List.set_cons_succ]))
            refine p3_done ?_
            go_wp2_with fail
            go_ret
            exact ⟨rfl, hB_2.out.trans (hb4.mono hB_2.out.size)⟩
      · intro KK hK
        go_simp
        have hbx : Below wd1.heap.size wd1 (wd1.alloc (.cells #[.int .u8 (a.toNat : Int)] 5)) := (Below.refl _ _).alloc (Nat.le_refl _) _
        have hB_2 := Lib.hid (hB_1.out.trans (hbx.mono hB_1.out.size))
        have cx_2 := Lib.hid ((hbx.cell (p := ⟨gx, 0, none⟩) (World.block_lt_of_cell? _ _ cx_1.out)).trans cx_1.out)
        clear cx_1 qx
        have ca_2 : Hid ((wd1.alloc (.cells #[.int .u8 (a.toNat : Int)] 5)).cell? ⟨wd1.heap.size, 0, none⟩ = some (.int .u8 (a.toNat : Int))) := Lib.hid (by rw [World.cell?_alloc_new]; rfl)
        clear hB_1 hbx
        generalize wd1.alloc (.cells #[.int .u8 (a.toNat : Int)] 5) = wd2 at *
        generalize wd1.heap.size = ga at *
        have qx := V1.out gx wd2 cx_2.out
        have qa := V2.out ga wd2 ca_2.out
        refine hK.out _ _ trivial ?_
        clear hK
        refine p3_two ?_ ?_
        · intro KK hK
          go_simp
          refine hK.out _ _ trivial ?_
          clear hK
          iterate 1 (first | (refine' p3_yes ?_ (by rfl) ?_ ?_; rotate_left; (intro w' hS; (try dsimp only at hS); go_simp; try (with_reducible rfl)); simp only [Act.put, List.setIfInBounds_toArray, List.set_cons_zero, List.set_cons_succ]) | (refine p3_no (by rfl) ?_; simp only [Act.put, List.setIfInBounds_toArray, List.set_cons_zero, List.set_cons_succ]))
          refine p3_two ?_ ?_
          · intro KK hK
            go_simp
            refine (C1.out _).mono ?_
            rintro e w' ⟨rfl, rfl⟩
            refine hK.out _ _ trivial ?_
            clear hK
            refine p3_one ?_
            intro KK hK
            go_simp
            refine hK.out _ _ trivial ?_
            clear hK
            iterate 1 (first | (refine' p3_yes ?_ (by rfl) ?_ ?_; rotate_left; (intro w' hS; (try dsimp only at hS); go_simp; try (with_reducible rfl)); simp only [Act.put, List.setIfInBounds_toArray, List.set_cons_zero, List.set_cons_succ]) | (refine p3_no (by rfl) ?_; simp only [Act.put, List.setIfInBounds_toArray, List.set_cons_zero, List.set_cons_succ]))
            refine p3_one ?_
            intro KK hK
            go_simp
            refine (C2.out _).mono ?_
            rintro e w' ⟨rfl, rfl⟩
            refine hK.out _ _ trivial ?_
            clear hK
            iterate 2 (first | (refine' p3_yes ?_ (by rfl) ?_ ?_; rotate_left; (intro w' hS; (try dsimp only at hS); go_simp; try (with_reducible rfl)); simp only [Act.put, List.setIfInBounds_toArray, List.set_cons_zero, List.set_cons_succ]) | (refine p3_no (by rfl) ?_; simp only [Act.put, List.setIfInBounds_toArray, List.set_cons_zero, List.set_cons_succ]))
            refine p3_one ?_
            intro KK hK
            go_simp
            refine (awake_any _).mono ?_
            rintro e w4 ⟨rfl, hb4⟩
            refine hK.out _ _ trivial ?_
            clear hK
            iterate 2 (first | (refine' p3_yes ?_ (by rfl) ?_ ?_; rotate_left; (intro w' hS; (try dsimp only at hS); go_simp; try (with_reducible rfl)); simp only [Act.put, List.setIfInBounds_toArray, List.set_cons_zero, List.set_cons_succ]) | (refine p3_no (by rfl) ?_; simp only [Act.put, List.setIfInBounds_toArray, List.set_cons_zero, List.set_cons_succ]))
            refine p3_done ?_
            go_wp2_with fail
            go_ret
            exact ⟨rfl, hB_2.out.trans (hb4.mono hB_2.out.size)⟩
          · intro KK hK
            go_simp
            refine hK.out _ _ trivial ?_
            clear hK
            iterate 1 (first | (refine' p3_yes ?_ (by rfl) ?_ ?_; rotate_left; (intro w' hS; (try dsimp only at hS); go_simp; try (with_reducible rfl)); simp only [Act.put, List.setIfInBounds_toArray, List.set_cons_zero, List.set_cons_succ]) | (refine p3_no (by rfl) ?_; simp only [Act.put, List.setIfInBounds_toArray, List.set_cons_zero, List.set_cons_succ]))
            refine p3_one ?_
            intro KK hK
            go_simp
            refine (C1.out _).mono ?_
            rintro e w' ⟨rfl, rfl⟩
            refine hK.out _ _ trivial ?_
            clear hK
            refine p3_one ?_
            intro KK hK
            go_simp
            refine (C2.out _).mono ?_
            rintro e w' ⟨rfl, rfl⟩
            refine hK.out _ _ trivial ?_
            clear hK
            iterate 2 (first | (refine' p3_yes ?_ (by rfl) ?_ ?_; rotate_left; (intro w' hS; (try dsimp only at hS); go_simp; try (with_reducible rfl)); simp only [Act.put, List.setIfInBounds_toArray, List.set_cons_zero, List.set_cons_succ]) | (refine p3_no (by rfl) ?_; simp only [Act.put, List.setIfInBounds_toArray, List.set_cons_zero, List.set_cons_succ]))
            refine p3_one ?_
            intro KK hK
            go_simp
            refine (awake_any _).mono ?_
            rintro e w4 ⟨rfl, hb4⟩
            refine hK.out _ _ trivial ?_
            clear hK
            iterate 2 (first | (refine' p3_yes ?_ (by rfl) ?_ ?_; rotate_left; (intro w' hS; (try dsimp only at hS); go_simp; try (with_reducible rfl)); simp only [Act.put, List.setIfInBounds_toArray, List.set_cons_zero, List.set_cons_succ]) | (refine p3_no (by rfl) ?_; simp only [Act.put, List.setIfInBounds_toArray, List.set_cons_zero, List.set_cons_succ]))
            refine p3_done ?_
            go_wp2_with fail
            go_ret
            exact ⟨rfl, hB_2.out.trans (hb4.mono hB_2.out.size)⟩
        · intro KK hK
          go_simp
          refine hK.out _ _ trivial ?_
          clear hK
          iterate 1 (first | (refine' p3_yes ?_ (by rfl) ?_ ?_; rotate_left; (intro w' hS; (try dsimp only at hS); go_simp; try (with_reducible rfl)); simp only [Act.put, List.setIfInBounds_toArray, List.set_cons_zero, List.set_cons_succ]) | (refine p3_no (by rfl) ?_; simp only [Act.put, List.setIfInBounds_toArray, List.set_cons_zero, List.set_cons_succ]))
          refine p3_one ?_
          intro KK hK
          go_simp
          refine hK.out _ _ trivial ?_
          clear hK
          iterate 1 (first | (refine' p3_yes ?_ (by rfl) ?_ ?_; rotate_left; (intro w' hS; (try dsimp only at hS); go_simp; try (with_reducible rfl)); simp only [Act.put, List.setIfInBounds_toArray, List.set_cons_zero, List.set_cons_succ]) | (refine p3_no (by rfl) ?_; simp only [Act.put, List.setIfInBounds_toArray, List.set_cons_zero, List.set_cons_succ]))
          refine p3_one ?_
          intro KK hK
          go_simp
          refine (C1.out _).mono ?_
          rintro e w' ⟨rfl, rfl⟩
          refine hK.out _ _ trivial ?_
          clear hK
          refine p3_one ?_
          intro KK hK
          go_simp
          refine (C2.out _).mono ?_
          rintro e w' ⟨rfl, rfl⟩
          refine hK.out _ _ trivial ?_
          clear hK
          iterate 2 (first | (refine' p3_yes ?_ (by rfl) ?_ ?_; rotate_left; (intro w' hS; (try dsimp only at hS); go_simp; try (with_reducible rfl)); simp only [Act.put, List.setIfInBounds_toArray, List.set_cons_zero, List.set_cons_succ]) | (refine p3_no (by rfl) ?_; simp only [Act.put, List.setIfInBounds_toArray, List.set_cons_zero, List.set_cons_succ]))
          refine p3_one ?_
          intro KK hK
          go_simp
          refine (awake_any _).mono ?_
          rintro e w4 ⟨rfl, hb4⟩
          refine hK.out _ _ trivial ?_
          clear hK
          iterate 2 (first | (refine' p3_yes ?_ (by rfl) ?_ ?_; rotate_left; (intro w' hS; (try dsimp only at hS); go_simp; try (with_reducible rfl)); simp only [Act.put, List.setIfInBounds_toArray, List.set_cons_zero, List.set_cons_succ]) | (refine p3_no (by rfl) ?_; simp only [Act.put, List.setIfInBounds_toArray, List.set_cons_zero, List.set_cons_succ]))
          refine p3_done ?_
          go_wp2_with fail
          go_ret
          exact ⟨rfl, hB_2.out.trans (hb4.mono hB_2.out.size)⟩
    · intro KK hK
      go_simp
      have hbx : Below wd.heap.size wd (wd.alloc (.cells #[.int .u8 (a.toNat : Int)] 5)) := (Below.refl _ _).alloc (Nat.le_refl _) _
      have hB_1 := Lib.hid (hB_0.out.trans (hbx.mono hB_0.out.size))
      have ca_1 : Hid ((wd.alloc (.cells #[.int .u8 (a.toNat : Int)] 5)).cell? ⟨wd.heap.size, 0, none⟩ = some (.int .u8 (a.toNat : Int))) := Lib.hid (by rw [World.cell?_alloc_new]; rfl)
      clear hB_0 hbx
      generalize wd.alloc (.cells #[.int .u8 (a.toNat : Int)] 5) = wd1 at *
      generalize wd.heap.size = ga at *
      have qa := V2.out ga wd1 ca_1.out
      refine hK.out _ _ trivial ?_
      clear hK
      refine p3_two ?_ ?_
      · intro KK hK
        go_simp
        have hbx : Below wd1.heap.size wd1 (wd1.alloc (.cells #[.int .u8 (x.toNat : Int)] 5)) := (Below.refl _ _).alloc (Nat.le_refl _) _
        have hB_2 := Lib.hid (hB_1.out.trans (hbx.mono hB_1.out.size))
        have ca_2 := Lib.hid ((hbx.cell (p := ⟨ga, 0, none⟩) (World.block_lt_of_cell? _ _ ca_1.out)).trans ca_1.out)
        clear ca_1 qa
        have cx_2 : Hid ((wd1.alloc (.cells #[.int .u8 (x.toNat : Int)] 5)).cell? ⟨wd1.heap.size, 0, none⟩ = some (.int .u8 (x.toNat : Int))) := Lib.hid (by rw [World.cell?_alloc_new]; rfl)
        clear hB_1 hbx
        generalize wd1.alloc (.cells #[.int .u8 (x.toNat : Int)] 5) = wd2 at *
        generalize wd1.heap.size = gx at *
        have qa := V2.out ga wd2 ca_2.out
        have qx := V1.out gx wd2 cx_2.out
        refine hK.out _ _ trivial ?_
        clear hK
        refine p3_two ?_ ?_
        · intro KK hK
          go_simp
          refine hK.out _ _ trivial ?_
          clear hK
          iterate 1 (first | (refine' p3_yes ?_ (by rfl) ?_ ?_; rotate_left; (intro w' hS; (try dsimp only at hS); go_simp; try (with_reducible rfl)); simp only [Act.put, List.setIfInBounds_toArray, List.set_cons_zero, List.set_cons_succ]) | (refine p3_no (by rfl) ?_; simp only [Act.put, List.setIfInBounds_toArray, List.set_cons_zero, List.set_cons_succ]))
          refine p3_two ?_ ?_
          · intro KK hK
            go_simp
            refine (C1.out _).mono ?_
            rintro e w' ⟨rfl, rfl⟩
            refine hK.out _ _ trivial ?_
            clear hK
            refine p3_one ?_
            intro KK hK
            go_simp
            refine hK.out _ _ trivial ?_
            clear hK
            iterate 1 (first | (refine' p3_yes ?_ (by rfl) ?_ ?_; rotate_left; (intro w' hS; (try dsimp only at hS); go_simp; try (with_reducible rfl)); simp only [Act.put, List.setIfInBounds_toArray, List.set_cons_zero, List.set_cons_succ]) | (refine p3_no (by rfl) ?_; simp only [Act.put, List.setIfInBounds_toArray, List.set_cons_zero, List.set_cons_succ]))
            refine p3_one ?_
            intro KK hK
            go_simp
            refine (C2.out _).mono ?_
            rintro e w' ⟨rfl, rfl⟩
            refine hK.out _ _ trivial ?_
            clear hK
            iterate 2 (first | (refine' p3_yes ?_ (by rfl) ?_ ?_; rotate_left; (intro w' hS; (try dsimp only at hS); go_simp; try (with_reducible rfl)); simp only [Act.put, List.setIfInBounds_toArray, List.set_cons_zero, List.set_cons_succ]) | (refine p3_no (by rfl) ?_; simp only [Act.put, List.setIfInBounds_toArray, List.set_cons_zero, List.set_cons_succ]))
            refine p3_one ?_
            intro KK hK
            go_simp
            refine (awake_any _).mono ?_
            rintro e w4 ⟨rfl, hb4⟩
            refine hK.out _ _ trivial ?_
            clear hK
            iterate 2 (first | (refine' p3_yes ?_ (by rfl) ?_ ?_; rotate_left; (intro w' hS; (try dsimp only at hS); go_simp; try (with_reducible rfl)); simp only [Act.put, List.setIfInBounds_toArray, List.set_cons_zero, List.set_cons_succ]) | (refine p3_no (by rfl) ?_; simp only [Act.put, List.setIfInBounds_toArray, List.set_cons_zero, List.set_cons_succ]))
            refine p3_done ?_
            go_wp2_with fail
            go_ret
            exact ⟨rfl, hB_2.out.trans (hb4.mono hB_2.out.size)⟩
          · intro KK hK
            go_simp
            refine hK.out _ _ trivial ?_
            clear hK
            iterate 1 (first | (refine' p3_yes ?_ (by rfl) ?_ ?_; rotate_left; (intro w' hS; (try dsimp only at hS); go_simp; try (with_reducible rfl)); simp only [Act.put, List.setIfInBounds_toArray, List.set_cons_zero, List.set_cons_succ]) | (refine p3_no (by rfl) ?_; simp only [Act.put, List.setIfInBounds_toArray, List.set_cons_zero, List.set_cons_succ]))
            refine p3_one ?_
            intro KK hK
            go_simp
            refine (C1.out _).mono ?_
            rintro e w' ⟨rfl, rfl⟩
            refine hK.out _ _ trivial ?_
            clear hK
            refine p3_one ?_
            intro KK hK
            go_simp
            refine (C2.out _).mono ?_
            rintro e w' ⟨rfl, rfl⟩
            refine hK.out _ _ trivial ?_
            clear hK
            iterate 2 (first | (refine' p3_yes ?_ (by rfl) ?_ ?_; rotate_left; (intro w' hS; (try dsimp only at hS); go_simp; try (with_reducible rfl)); simp only [Act.put, List.setIfInBounds_toArray, List.set_cons_zero, List.set_cons_succ]) | (refine p3_no (by rfl) ?_; simp only [Act.put, List.setIfInBounds_toArray, List.set_cons_zero, List.set_cons_succ]))
            refine p3_one ?_
            intro KK hK
            go_simp
            refine (awake_any _).mono ?_
            rintro e w4 ⟨rfl, hb4⟩
            refine hK.out _ _ trivial ?_
            clear hK
            iterate 2 (first | (refine' p3_yes ?_ (by rfl) ?_ ?_; rotate_left; (intro w' hS; (try dsimp only at hS); go_simp; try (with_reducible rfl)); simp only [Act.put, List.setIfInBounds_toArray, List.set_cons_zero, List.set_cons_succ]) | (refine p3_no (by rfl) ?_; simp only [Act.put, List.setIfInBounds_toArray, List.set_cons_zero, List.set_cons_succ]))
            refine p3_done ?_
            go_wp2_with fail
            go_ret
            exact ⟨rfl, hB_2.out.trans (hb4.mono hB_2.out.size)⟩
        · intro KK hK
          go_simp
          refine hK.out _ _ trivial ?_
          clear hK
          iterate 1 (first | (refine' p3_yes ?_ (by rfl) ?_ ?_; rotate_left; (intro w' hS; (try dsimp only at hS); go_simp; try (with_reducible rfl)); simp only [Act.put, List.setIfInBounds_toArray, List.set_cons_zero, List.set_cons_succ]) | (refine p3_no (by rfl) ?_; simp only [Act.put, List.setIfInBounds_toArray, List.set_cons_zero, List.set_cons_succ]))
          refine p3_one ?_
          intro KK hK
          go_simp
          refine hK.out _ _ trivial ?_
          clear hK
          iterate 1 (first | (refine' p3_yes ?_ (by rfl) ?_ ?_; rotate_left; (intro w' hS; (try dsimp only at hS); go_simp; try (with_reducible rfl)); simp only [Act.put, List.setIfInBounds_toArray, List.set_cons_zero, List.set_cons_succ]) | (refine p3_no (by rfl) ?_; simp only [Act.put, List.setIfInBounds_toArray, List.set_cons_zero, List.set_cons_succ]))
          refine p3_one ?_
          intro KK hK
          go_simp
          refine (C1.out _).mono ?_
          rintro e w' ⟨rfl, rfl⟩
          refine hK.out _ _ trivial ?_
          clear hK
          refine p3_one ?_
          intro KK hK
          go_simp
          refine (C2.out _).mono ?_
          rintro e w' ⟨rfl, rfl⟩
          refine hK.out _ _ trivial ?_
          clear hK
          iterate 2 (first | (refine' p3_yes ?_ (by rfl) ?_ ?_; rotate_left; (intro w' hS; (try dsimp only at hS); go_simp; try (with_reducible rfl)); simp only [Act.put, List.setIfInBounds_toArray, List.set_cons_zero, List.set_cons_succ]) | (refine p3_no (by rfl) ?_; simp only [Act.put, List.setIfInBounds_toArray, List.set_cons_zero, List.set_cons_succ]))
          refine p3_one ?_
          intro KK hK
          go_simp
          refine (awake_any _).mono ?_
          rintro e w4 ⟨rfl, hb4⟩
          refine hK.out _ _ trivial ?_
          clear hK
          iterate 2 (first | (refine' p3_yes ?_ (by rfl) ?_ ?_; rotate_left; (intro w' hS; (try dsimp only at hS); go_simp; try (with_reducible rfl)); simp only [Act.put, List.setIfInBounds_toArray, List.set_cons_zero, List.set_cons_succ]) | (refine p3_no (by rfl) ?_; simp only [Act.put, List.setIfInBounds_toArray, List.set_cons_zero, List.set_cons_succ]))
          refine p3_done ?_
          go_wp2_with fail
          go_ret
          exact ⟨rfl, hB_2.out.trans (hb4.mono hB_2.out.size)⟩
      · intro KK hK
        go_simp
        refine hK.out _ _ trivial ?_
        clear hK
        iterate 1 (first | (refine' p3_yes ?_ (by rfl) ?_ ?_; rotate_left; (intro w' hS; (try dsimp only at hS); go_simp; try (with_reducible rfl)); simp only [Act.put, List.setIfInBounds_toArray, List.set_cons_zero, List.set_cons_succ]) | (refine p3_no (by rfl) ?_; simp only [Act.put, List.setIfInBounds_toArray, List.set_cons_zero, List.set_cons_succ]))
        refine p3_one ?_
        intro KK hK
        go_simp
        have hbx : Below wd1.heap.size wd1 (wd1.alloc (.cells #[.int .u8 (x.toNat : Int)] 5)) := (Below.refl _ _).alloc (Nat.le_refl _) _
        have hB_2 := Lib.hid (hB_1.out.trans (hbx.mono hB_1.out.size))
        have ca_2 := Lib.hid ((hbx.cell (p := ⟨ga, 0, none⟩) (World.block_lt_of_cell? _ _ ca_1.out)).trans ca_1.out)
        clear ca_1 qa
        have cx_2 : Hid ((wd1.alloc (.cells #[.int .u8 (x.toNat : Int)] 5)).cell? ⟨wd1.heap.size, 0, none⟩ = some (.int .u8 (x.toNat : Int))) := Lib.hid (by rw [World.cell?_alloc_new]; rfl)
        clear hB_1 hbx
        generalize wd1.alloc (.cells #[.int .u8 (x.toNat : Int)] 5) = wd2 at *
        generalize wd1.heap.size = gx at *
        have qa := V2.out ga wd2 ca_2.out
        have qx := V1.out gx wd2 cx_2.out
        refine hK.out _ _ trivial ?_
        clear hK
        refine p3_one ?_
        intro KK hK
        go_simp
        refine hK.out _ _ trivial ?_
        clear hK
        iterate 1 (first | (refine' p3_yes ?_ (by rfl) ?_ ?_; rotate_left; (intro w' hS; (try dsimp only at hS); go_simp; try (with_reducible rfl)); simp only [Act.put, List.setIfInBounds_toArray, List.set_cons_zero, List.set_cons_succ]) | (refine p3_no (by rfl) ?_; simp only [Act.put, List.setIfInBounds_toArray, List.set_cons_zero, List.set_cons_succ]))
        refine p3_one ?_
        intro KK hK
        go_simp
        refine (C1.out _).mono ?_
        rintro e w' ⟨rfl, rfl⟩
        refine hK.out _ _ trivial ?_
        clear hK
        refine p3_one ?_
        intro KK hK
        go_simp
        refine (C2.out _).mono ?_
        rintro e w' ⟨rfl, rfl⟩
        refine hK.out _ _ trivial ?_
        clear hK
        iterate 2 (first | (refine' p3_yes ?_ (by rfl) ?_ ?_; rotate_left; (intro w' hS; (try dsimp only at hS); go_simp; try (with_reducible rfl)); simp only [Act.put, List.setIfInBounds_toArray, List.set_cons_zero, List.set_cons_succ]) | (refine p3_no (by rfl) ?_; simp only [Act.put, List.setIfInBounds_toArray, List.set_cons_zero, List.set_cons_succ]))
        refine p3_one ?_
        intro KK hK
        go_simp
        refine (awake_any _).mono ?_
        rintro e w4 ⟨rfl, hb4⟩
        refine hK.out _ _ trivial ?_
        clear hK
        iterate 2 (first | (refine' p3_yes ?_ (by rfl) ?_ ?_; rotate_left; (intro w' hS; (try dsimp only at hS); go_simp; try (with_reducible rfl)); simp only [Act.put, List.setIfInBounds_toArray, List.set_cons_zero, List.set_cons_succ]) | (refine p3_no (by rfl) ?_; simp only [Act.put, List.setIfInBounds_toArray, List.set_cons_zero, List.set_cons_succ]))
        refine p3_done ?_
        go_wp2_with fail
        go_ret
        exact ⟨rfl, hB_2.out.trans (hb4.mono hB_2.out.size)⟩

theorem walk (h : BitVec 64) (a b : UInt8) (s0 : ByteArray) (w : World) (hs0 : s0.size ≤ maxLen) :
    Calls Try.prog 7 #[.agg #[.int .u64 (h.toNat : Int), .int .u8 (a.toNat : Int), .int .u8 (b.toNat : Int), .string s0]] w fun e w' => e = .returned (.bool true) ∧ Below w.heap.size w w' := by
  have ss := few_size s0
  have HF := Lib.hid (fun W => few_any s0 W hs0)
  generalize fewB s0 = s at *
  refine way h (h ^^^ BitVec.ofNat 64 b.toNat) (on h (a :: s.data.toList)) a b (a ^^^ b) s0 s ⟨#[a ^^^ b]⟩ ⟨#[a]⟩ w rfl rfl (fun g => one_text _ _ rfl g) (fun g => one_text _ _ rfl g) HF (xor_u8 a b) (xor_wrap h b) ss (Lib.hid fun W => ?_) (Lib.hid fun W => ?_)
  · have := on_any (h ^^^ BitVec.ofNat 64 b.toNat) (⟨#[a ^^^ b]⟩ ++ s) W (by have e : (⟨#[a ^^^ b]⟩ : ByteArray).size = 1 := rfl; unfold maxLen; simp only [ByteArray.size_append, e]; omega)
    rw [cat_flat] at this
    have e : on (h ^^^ BitVec.ofNat 64 b.toNat) ((⟨#[a ^^^ b]⟩ : ByteArray).data.toList ++ s.data.toList) = on h (a :: s.data.toList) := by
      rw [on_cons, ← oct_turn h a b]; rfl
    rwa [e] at this
  · have := on_any h (⟨#[a]⟩ ++ s) W (by have e : (⟨#[a]⟩ : ByteArray).size = 1 := rfl; unfold maxLen; simp only [ByteArray.size_append, e]; omega)
    rw [cat_flat] at this
    exact this

theorem parOk : ∀ t ∈ (#[38] : Array TypeId).toList, Try.prog.readableRec t = true ∧ t < Try.prog.types.size := by
  have hall : ([38].all fun t => Try.prog.readableRec t && decide (t < Try.prog.types.size)) = true := by kernel_rfl
  intro t ht
  simpa using List.all_eq_true.1 hall t ht

set_option maxRecDepth 100000 in
/-- What the walk gives, for every argument. -/
theorem contract (H : Type) (enc : TypeId × Value → H) (W : World) (base : Nat) (args : Array Value) (ds gs : List (DataW H)) (before : List MemPlace)
    (hval : ∀ (j : Nat) t v, Try.f7.params[j]? = some t → args[j]? = some v → Value.okWide Try.prog W .any base t v)
    (hW : DataW.Whole enc Try.prog Try.f7.params.toList Rows.fnvTurnsSpec.vars false W args.toList ds gs before) :
    Calls Try.prog 7 args W fun e W' => ∃ v, e = .returned v ∧ Rows.fnvTurnsSpec.post enc Try.prog Try.f7 false true false false W args v W' := by
  have hW' := hW
  obtain ⟨p, q, hA0, hV, rfl, hfz, hnd⟩ := hW
  have hA : DataW.TrodAll enc Try.prog W 0 (fun _ => true) true Try.f7.params.toList args.toList ds p := hA0
  rw [Try.params7] at hA hval
  obtain ⟨v0, vs0, d0, ds0, p0, q0, hargs, rfl, rfl, h0, r0⟩ := trodAll_cons hA
  obtain ⟨rfl, rfl, rfl⟩ := trodAll_nil r0
  obtain rfl : args = #[v0] := by cases args; simp_all
  obtain ⟨rfl, rfl⟩ := trodVars_none hV
  obtain ⟨x, a, b, s, rfl, hs⟩ := open_turn (hval 0 38 v0 rfl rfl) h0
  clear hA0
  refine (walk x a b s W hs).mono fun e W' ⟨he, hb⟩ => ?_
  subst he
  exact ⟨_, rfl, law_post rfl (by rw [Try.params7]; exact parOk) rfl hW' rfl rfl rfl hb⟩

set_option maxRecDepth 100000 in
theorem lifted (os : Os) (started : os.Started) (H : Type) (enc : TypeId × Value → H) :
    ReturnsInHanded {} Try.checked os 7 .any (Rows.fnvTurnsSpec.pre6 enc Try.prog Try.f7 Rows.fnvTurnsRow.domain false) (Rows.fnvTurnsSpec.post enc Try.prog Try.f7 false true false false) := by
  refine returnsInHanded_of_change (C := Try.checked) own started (by kernel_rfl) Try.func7
    (ChangeSpec.witness6 (enc := enc) (C := Try.checked) false ⟨#[], #[.agg #[.int .u64 0, .int .u8 0, .int .u8 0, .string ⟨#[]⟩]], []⟩ 8 (by kernel_rfl) (by kernel_rfl) (by kernel_rfl) (by kernel_rfl)) ?_
  intro W base args ds gs before hval hW _ _
  exact contract H enc W base args ds gs before hval hW

/-- THE STATEMENT. -/
theorem said : Rows.FnvTurnsSaid :=
  OpenClaim.holds_of_wide 7 Try.f7 rfl rfl rfl rfl rfl rfl rfl ⟨rfl, rfl, rfl, rfl, rfl⟩ rfl rfl rfl rfl rfl (by kernel_rfl) Try.func7 (by kernel_rfl)
    (of_decide_eq_true (by kernel_rfl)) (by unfold Func.isWrapper; first | (rw [if_pos (by decide +kernel)]; kernel_rfl) | (rw [if_neg (by decide +kernel)]; exact ⟨rfl, rfl⟩))
    (fun os started H enc _ => lifted os started H enc)
end Go.Proofs.Ytjdfkflpgimloaa.lawTurns
