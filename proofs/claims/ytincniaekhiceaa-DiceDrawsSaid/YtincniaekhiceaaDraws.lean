/-
  DiceDraws: what any dice draw, shuffle, and pick, or why they do not, are the document's: the law returns true for every input.
-/
import Derived.Test.YtincniaekhiceaaBoth
import Derived.StillTactics
namespace Go.Proofs.Ytincniaekhiceaa.lawDraws
open Go.ChangeShapes Go.WideShapes Go.ChangeAt Go.RowKit Go.Proofs.Ytincniaekhiceaa.Pure

/-- The law's variables: the dice, and the dice then, of the program and of the document. -/
structure St (w W : World) (s : ByteArray) (a : Int) (bx b_y : Nat) (x y : Int) : Prop where
  d : Box W w.heap.size s a
  x : Box W bx s x
  y : Box W b_y s y
  b : Below w.heap.size w W
  lx : w.heap.size < bx
  ly : bx < b_y

section
variable {w W W' : World} {s : ByteArray} {a x y : Int} {bx b_y : Nat}
theorem St.on (h : St w W s a bx b_y x y) (hb : Below W.heap.size W W') : St w W' s a bx b_y x y := ⟨h.d.on hb, h.x.on hb, h.y.on hb, h.b.trans (hb.mono h.b.size), h.lx, h.ly⟩
theorem St.putx (h : St w W s a bx b_y x y) (x' : Int) : St w ((W.setCell ⟨bx, 0, none⟩ (.string s)).setCell ⟨bx, 1, none⟩ (.int .i64 x')) s a bx b_y x' y := by
  have h1 := h.lx
  have h2 := h.ly
  exact ⟨(h.d.far (by simp; omega) _).far (by simp; omega) _, h.x.put s x', (h.y.far (by simp; omega) _).far (by simp; omega) _, (h.b.setCell (by simp; omega) _).setCell (by simp; omega) _, h1, h2⟩
theorem St.puty (h : St w W s a bx b_y x y) (y' : Int) : St w ((W.setCell ⟨b_y, 0, none⟩ (.string s)).setCell ⟨b_y, 1, none⟩ (.int .i64 y')) s a bx b_y x y' := by
  have h1 := h.lx
  have h2 := h.ly
  exact ⟨(h.d.far (by simp; omega) _).far (by simp; omega) _, (h.x.far (by simp; omega) _).far (by simp; omega) _, h.y.put s y', (h.b.setCell (by simp; omega) _).setCell (by simp; omega) _, h1, h2⟩
theorem St.drew (h : St w W s a bx b_y x y) : St w W.drew s a bx b_y x y := ⟨h.d, h.x, h.y, h.b.drew, h.lx, h.ly⟩
end

set_option maxRecDepth 100000 in
set_option maxHeartbeats 4000000 in
theorem walk (s0 : ByteArray) (a : Int) (A : Option Addr) (c : Nat) (xs0 : List Int) (k : Int) (w : World) (hs0 : s0.size ≤ maxLen) (hxc : xs0.length ≤ c) (hcm : c ≤ maxLen) (hx0 : Has w 0 w.heap.size A xs0) (hk : k ≤ 9223372036854775807) :
    Calls Try.prog 3 #[.agg #[.string s0, .int .i64 a], .slice A xs0.length c, .int .i64 k] w fun e w' => e = .returned (.bool true) ∧ Below w.heap.size w w' := by
  have HF := Lib.hid (fun W => few_any s0 a W hs0)
  have HCut := Lib.hid (cut_any A c _ _ xs0 w hxc hcm hx0)
  have HX0 : Hid (Has w 0 w.heap.size A (cutL xs0)) := Lib.hid (hx0.take 257)
  have hxl := cutL_len xs0
  have hft := fewB_size s0
  generalize fewB s0 = s at *
  generalize hX : cutL xs0 = xs at *
  clear hx0 hX hxc
  obtain ⟨n, x, er, hp, hq⟩ := below_both s a k (by omega)
  obtain ⟨er0, b, hb0, hck, hmy⟩ := check_both s a
  obtain ⟨ys, x2, er2, hyl, hsp, hsq⟩ := shuffle_both s a A c xs (by omega)
  obtain ⟨zs, x3, er3, hzl, hpp, hpq⟩ := pick_both s a k A c xs (by omega) hk
  have HP := Lib.hid hp; have HQ := Lib.hid hq; have HCk := Lib.hid hck; have HMy := Lib.hid hmy; have HSP := Lib.hid hsp; have HSQ := Lib.hid hsq; have HPP := Lib.hid hpp; have HPQ := Lib.hid hpq
  clear hp hq hck hmy hsp hsq hpp hpq
  have hqs : (s.toList == s.toList) = true := by simp
  go_enter Try.func3, Try.ntmps3
  go_wp2_with fail
  refine (HF.out _).mono ?_
  rintro e w1 ⟨rfl, hb1⟩
  go_wp2_with fail
  refine (HCut.out _).mono ?_
  rintro e w' ⟨rfl, rfl⟩
  have HD := Lib.hid (((Box.new w s0 a 23).on hb1).put s a)
  obtain ⟨x0, x1, xf0, xf1⟩ := (Box.new w s0 a 23).on hb1
  have hz1 : w.heap.size < w1.heap.size := by have := hb1.size; simp at this; omega
  have HB1 : Hid (Below w.heap.size w ((w1.setCell ⟨w.heap.size, 0, none⟩ (.string s)).setCell ⟨w.heap.size, 1, none⟩ (.int .i64 a))) :=
    Lib.hid (((((Below.refl _ _).alloc (Nat.le_refl _) _).trans (hb1.mono (by simp))).setCell (by simp) _).setCell (by simp) _)
  clear hb1
  go_wp2_with fail
  refine (HP.out _).mono ?_
  rintro e w2 ⟨rfl, hb2⟩
  clear x0 x1 xf0 xf1
  have HD2 := Lib.hid (HD.out.on hb2)
  have hz2 : w.heap.size < w2.heap.size := HD2.out.lt
  have HB2 := Lib.hid (HB1.out.trans (hb2.mono (by simp [World.setCell]; omega)))
  clear hb2
  obtain ⟨x0, x1, xf0, xf1⟩ := HD2.out
  go_wp2_with fail
  refine (HQ.out _).mono ?_
  rintro e w3 ⟨rfl, hb3⟩
  clear x0 x1 xf0 xf1
  have hz3 : w2.heap.size < w3.heap.size := by have := hb3.size; simp at this; omega
  have hz3' : w.heap.size < w3.heap.size := by omega
  have HST : Hid (St w (w3.alloc (.cells #[.string s, .int .i64 x] 23)) s a w2.heap.size w3.heap.size x x) := Lib.hid
    ⟨((HD2.out.alloc _).on hb3).alloc _, ((Box.new w2 s x 23).on hb3).alloc _, Box.new w3 s x _, (((HB2.out.alloc (by omega) _).trans (hb3.mono (by simp; omega))).alloc (by omega) _), hz2, hz3⟩
  clear hb3
  go_upto_region 4 with (fail)
  generalize w3.alloc (.cells #[.string s, .int .i64 x] 23) = w4 at *
  obtain ⟨⟨x0, x1, xf0, xf1⟩, ⟨y0, y1, yf0, yf1⟩, ⟨z0, z1, zf0, zf1⟩, _, _, _⟩ := HST.out
  go_region_held3 (fun w' => w'.cell? ⟨w.heap.size, 0, none⟩ = some (.string s) ∧ w'.cell? ⟨w.heap.size, 1, none⟩ = some (.int .i64 a) ∧ w'.cell? ⟨w2.heap.size, 0, none⟩ = some (.string s) ∧ w'.cell? ⟨w2.heap.size, 1, none⟩ = some (.int .i64 x) ∧
      w'.cell? ⟨w3.heap.size, 0, none⟩ = some (.string s) ∧ w'.cell? ⟨w3.heap.size, 1, none⟩ = some (.int .i64 x)) (go_keep)
    (first | (go_at_call 13; refine (HCk.out _).mono ?_; rintro e w5 ⟨rfl, hb5⟩; have HT5 := HST.out.drew.on hb5; obtain ⟨⟨u0, u1, _, _⟩, ⟨u2, u3, _, _⟩, ⟨u4, u5, _, _⟩, _, _, _⟩ := HT5) | (go_at_call 14; refine (HMy.out _).mono ?_; rintro e w6 ⟨rfl, hb6⟩; have HT6 := (HST.out.drew.on hb5).on hb6; obtain ⟨⟨v0, v1, _, _⟩, ⟨v2, v3, _, _⟩, ⟨v4, v5, _, _⟩, _, _, _⟩ := HT6))
  have HS6 := Lib.hid ((HST.out.drew.on hb5).on hb6)
  have l2 : w2.heap.size < w6.heap.size := HS6.out.x.lt
  have l3 : w3.heap.size < w6.heap.size := HS6.out.y.lt
  have hw6 : w.heap.size ≤ w6.heap.size := HS6.out.b.size
  rename_i hHeld
  clear hHeld hb5 hb6 u0 u1 u2 u3 u4 u5 v0 v1 v2 v3 v4 v5 HST
  clear x0 x1 xf0 xf1 y0 y1 yf0 yf1 z0 z1 zf0 zf1
  obtain ⟨⟨x0, x1, xf0, xf1⟩, ⟨y0, y1, yf0, yf1⟩, ⟨z0, z1, zf0, zf1⟩, _, _, _⟩ := HS6.out
  go_wp2_with fail
  refine (HSP.out _ 0 w.heap.size (HX0.out.on HS6.out.b (Nat.le_refl _)) hw6).mono ?_
  rintro e w7 ⟨A7, c7, rfl, hc7, hh7, hb7⟩
  have hz7 : w6.heap.size ≤ w7.heap.size := hb7.size
  have HS7a := Lib.hid (HS6.out.on hb7)
  have HS7 := Lib.hid (HS7a.out.putx x2)
  have HH7 := Lib.hid ((hh7.set (p := ⟨w2.heap.size, 0, none⟩) (.inl l2) (.string s)).set (p := ⟨w2.heap.size, 1, none⟩) (.inl l2) (.int .i64 x2))
  clear hb7 hh7
  clear x0 x1 xf0 xf1 y0 y1 yf0 yf1 z0 z1 zf0 zf1
  obtain ⟨⟨x0, x1, xf0, xf1⟩, ⟨y0, y1, yf0, yf1⟩, ⟨z0, z1, zf0, zf1⟩, _, _, _⟩ := HS7a.out
  go_wp2_with fail
  refine (HSQ.out _ 0 w.heap.size (HX0.out.on HS7.out.b (Nat.le_refl _)) HS7.out.b.size).mono ?_
  rintro e w8 ⟨A8, c8, rfl, hc8, hh8, hb8⟩
  have hz8 : w7.heap.size ≤ w8.heap.size := by have := hb8.size; simpa [World.setCell] using this
  have HS8a := Lib.hid (HS7.out.on hb8)
  have HS8 := Lib.hid (HS8a.out.puty x2)
  have HH7' := Lib.hid (((HH7.out.on hb8 (by simp [World.setCell])).set (p := ⟨w3.heap.size, 0, none⟩) (.inl l3) (.string s)).set (p := ⟨w3.heap.size, 1, none⟩) (.inl l3) (.int .i64 x2))
  have HH8 := Lib.hid ((hh8.set (p := ⟨w3.heap.size, 0, none⟩) (.inl (by simp [World.setCell]; omega)) (.string s)).set (p := ⟨w3.heap.size, 1, none⟩) (.inl (by simp [World.setCell]; omega)) (.int .i64 x2))
  clear hb8 hh8 HH7
  clear x0 x1 xf0 xf1 y0 y1 yf0 yf1 z0 z1 zf0 zf1
  obtain ⟨⟨x0, x1, xf0, xf1⟩, ⟨y0, y1, yf0, yf1⟩, ⟨z0, z1, zf0, zf1⟩, _, _, _⟩ := HS8a.out
  go_wp2_with fail
  refine (same_yes A7 A8 c7 c8 _ _ _ _ ys _ (by omega) HH7'.out HH8.out).mono ?_
  rintro e w9 ⟨rfl, hb9⟩
  have HS9 := Lib.hid (HS8.out.on hb9)
  have l9 : w2.heap.size < w9.heap.size := HS9.out.x.lt
  have m9 : w3.heap.size < w9.heap.size := HS9.out.y.lt
  clear hb9 HH7' HH8 HS8 HS8a HS7 HS7a HS6
  clear x0 x1 xf0 xf1 y0 y1 yf0 yf1 z0 z1 zf0 zf1
  obtain ⟨⟨x0, x1, xf0, xf1⟩, ⟨y0, y1, yf0, yf1⟩, ⟨z0, z1, zf0, zf1⟩, _, _, _⟩ := HS9.out
  go_wp2_with fail
  refine (HPP.out _ 0 w.heap.size (HX0.out.on HS9.out.b (Nat.le_refl _)) HS9.out.b.size).mono ?_
  rintro e w10 ⟨A10, c10, rfl, hc10, hh10, hb10⟩
  have hz10 : w9.heap.size ≤ w10.heap.size := hb10.size
  have HS10a := Lib.hid (HS9.out.on hb10)
  have HS10 := Lib.hid (HS10a.out.putx x3)
  have HH10 := Lib.hid ((hh10.set (p := ⟨w2.heap.size, 0, none⟩) (.inl l9) (.string s)).set (p := ⟨w2.heap.size, 1, none⟩) (.inl l9) (.int .i64 x3))
  clear hb10 hh10
  clear x0 x1 xf0 xf1 y0 y1 yf0 yf1 z0 z1 zf0 zf1
  obtain ⟨⟨x0, x1, xf0, xf1⟩, ⟨y0, y1, yf0, yf1⟩, ⟨z0, z1, zf0, zf1⟩, _, _, _⟩ := HS10a.out
  go_wp2_with fail
  refine (HPQ.out _ 0 w.heap.size (HX0.out.on HS10.out.b (Nat.le_refl _)) HS10.out.b.size).mono ?_
  rintro e w11 ⟨A11, c11, rfl, hc11, hh11, hb11⟩
  have hz11 : w10.heap.size ≤ w11.heap.size := by have := hb11.size; simpa [World.setCell] using this
  have HS11a := Lib.hid (HS10.out.on hb11)
  have HS11 := Lib.hid (HS11a.out.puty x3)
  have HH10' := Lib.hid (((HH10.out.on hb11 (by simp [World.setCell])).set (p := ⟨w3.heap.size, 0, none⟩) (.inl m9) (.string s)).set (p := ⟨w3.heap.size, 1, none⟩) (.inl m9) (.int .i64 x3))
  have HH11 := Lib.hid ((hh11.set (p := ⟨w3.heap.size, 0, none⟩) (.inl (by simp [World.setCell]; omega)) (.string s)).set (p := ⟨w3.heap.size, 1, none⟩) (.inl (by simp [World.setCell]; omega)) (.int .i64 x3))
  clear hb11 hh11 HH10
  clear x0 x1 xf0 xf1 y0 y1 yf0 yf1 z0 z1 zf0 zf1
  obtain ⟨⟨x0, x1, xf0, xf1⟩, ⟨y0, y1, yf0, yf1⟩, ⟨z0, z1, zf0, zf1⟩, _, _, _⟩ := HS11a.out
  go_wp2_with fail
  refine (same_yes A10 A11 c10 c11 _ _ _ _ zs _ (by omega) HH10'.out HH11.out).mono ?_
  rintro e w12 ⟨rfl, hb12⟩
  have HS12 := Lib.hid (HS11.out.on hb12)
  clear hb12 HH10' HH11 HS11 HS11a HS10 HS10a HS9
  clear x0 x1 xf0 xf1 y0 y1 yf0 yf1 z0 z1 zf0 zf1
  obtain ⟨⟨x0, x1, xf0, xf1⟩, ⟨y0, y1, yf0, yf1⟩, ⟨z0, z1, zf0, zf1⟩, _, _, _⟩ := HS12.out
  go_wp2_with fail
  refine (awake_any _).mono ?_
  rintro e w13 ⟨rfl, hb13⟩
  go_wp2_with fail
  go_ret
  exact ⟨rfl, HS12.out.b.trans (hb13.mono HS12.out.b.size)⟩

theorem run_walk (s : ByteArray) (a : Int) (A : Option Addr) (c : Nat) (xs : List Int) (k : Int) (w : World) (hs : s.size ≤ maxLen) (hxc : xs.length ≤ c) (hcm : c ≤ maxLen) (hx : Has w 0 w.heap.size A xs) (hk : -9223372036854775808 ≤ k ∧ k ≤ 9223372036854775807) :
    Calls Try.prog 3 #[.agg #[.string s, .int .i64 a], .slice A xs.length c, .int .i64 k] w fun e w' => e = .returned (.bool true) ∧ Below w.heap.size w w' :=
  walk s a A c xs k w hs hxc hcm hx hk.2
/-! ### the statement -/
theorem parOk : ∀ t ∈ (#[23, 24, 3] : Array TypeId).toList, Try.prog.readableRec t = true ∧ t < Try.prog.types.size := by
  have hall : ([23, 24, 3].all fun t => Try.prog.readableRec t && decide (t < Try.prog.types.size)) = true := by kernel_rfl
  intro t ht
  simpa using List.all_eq_true.1 hall t ht

/-- What the walk gives, for every argument. -/
theorem contract (H : Type) (enc : TypeId × Value → H) (W : World) (base : Nat) (args : Array Value) (ds gs : List (DataW H)) (before : List MemPlace)
    (hval : ∀ (j : Nat) t v, Try.f3.params[j]? = some t → args[j]? = some v → Value.okWide Try.prog W .any base t v)
    (hW : DataW.Whole enc Try.prog Try.f3.params.toList Rows.diceDrawsSpec.vars false W args.toList ds gs before) :
    Calls Try.prog 3 args W fun e W' => ∃ v, e = .returned v ∧ Rows.diceDrawsSpec.post enc Try.prog Try.f3 false true false false W args v W' := by
  have hW' := hW
  obtain ⟨p, q, hA0, hV, rfl, hfz, hnd⟩ := hW
  have hA : DataW.TrodAll enc Try.prog W 0 (fun _ => true) true Try.f3.params.toList args.toList ds p := hA0
  rw [Try.params3] at hA hval
  obtain ⟨v0, vs0, d0, ds0, p0, q0, hargs, rfl, rfl, h0, r0⟩ := trodAll_cons hA
  obtain ⟨v1, vs1, d1, ds1, p1, q1, rfl, rfl, rfl, h1, r1⟩ := trodAll_cons r0
  obtain ⟨v2, vs2, d2, ds2, p2, q2, rfl, rfl, rfl, h2, r2⟩ := trodAll_cons r1
  obtain ⟨rfl, rfl, rfl⟩ := trodAll_nil r2
  obtain rfl : args = #[v0, v1, v2] := by cases args; simp_all
  obtain ⟨rfl, rfl⟩ := trodVars_none hV
  obtain ⟨s, a, rfl, hs, ha0, ha1⟩ := open_dice (hval 0 23 v0 rfl rfl) h0
  obtain ⟨A, c, xs, rfl, hxc, hcm, hx⟩ := open_nums (hval 1 24 v1 rfl rfl) h1
  obtain ⟨k, rfl, rfl, rfl, wk⟩ := open_int Try.underlying3 (hval 2 3 v2 rfl rfl) h2
  clear hA0
  refine (run_walk s a A c xs k W hs hxc hcm hx (by simpa [Lit.wf, IntKind.min, IntKind.max, IntKind.signed, IntKind.bits] using wk)).mono fun e W' ⟨he, hb⟩ => ?_
  subst he
  exact ⟨_, rfl, law_post rfl (by rw [Try.params3]; exact parOk) rfl hW' rfl rfl rfl hb⟩

set_option maxRecDepth 100000 in
theorem lifted (os : Os) (started : os.Started) (H : Type) (enc : TypeId × Value → H) :
    ReturnsInHanded {} Try.checked os 3 .any (Rows.diceDrawsSpec.pre6 enc Try.prog Try.f3 Rows.diceDrawsRow.domain false) (Rows.diceDrawsSpec.post enc Try.prog Try.f3 false true false false) := by
  refine returnsInHanded_of_change (C := Try.checked) own started (by kernel_rfl) Try.func3
    (ChangeSpec.witness6 (enc := enc) (C := Try.checked) false ⟨#[], #[.agg #[.string ⟨#[]⟩, .int .i64 0], .slice none 0 0, .int .i64 0], []⟩ 8 (by kernel_rfl) (by kernel_rfl) (by kernel_rfl) (by kernel_rfl)) ?_
  intro W base args ds gs before hval hW _ _
  exact contract H enc W base args ds gs before hval hW

/-- THE STATEMENT. -/
theorem said : Rows.DiceDrawsSaid :=
  OpenClaim.holds_of_wide 3 Try.f3 rfl rfl rfl rfl rfl rfl rfl ⟨rfl, rfl, rfl, rfl, rfl⟩ rfl rfl rfl rfl rfl (by kernel_rfl) Try.func3 (by kernel_rfl)
    (of_decide_eq_true (by kernel_rfl)) (by unfold Func.isWrapper; first | (rw [if_pos (by decide +kernel)]; kernel_rfl) | (rw [if_neg (by decide +kernel)]; exact ⟨rfl, rfl⟩))
    (fun os started H enc _ => lifted os started H enc)
end Go.Proofs.Ytincniaekhiceaa.lawDraws
