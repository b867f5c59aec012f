/-
  The walks of the library's Clone at doubts, and of copied.
-/
import Derived.Test.YtknpbbplolncpaaPut
namespace Go.Proofs.Ytknpbbplolncpaa
open Go.Sort Go.RowKit Go.Proofs.Ytknpbbplolncpaa.Pure

/-- No more doubts than a thousand, each by no more than a thousand. -/
def Sm (l : List Db) : Prop := l.length ≤ 1000 ∧ ∀ x ∈ l, x.b.length ≤ 1000
theorem Sm.take {l : List Db} (h : Sm l) (k : Nat) : Sm (l.take k) := ⟨by rw [List.length_take]; have := h.1; omega, fun x hx => h.2 x (List.mem_of_mem_take hx)⟩
theorem Sm.ct {l l' : List Db} (h : Sm l) (e : l'.map Db.ct = l.map Db.ct) : Sm l' := by
  have hl : l'.length = l.length := by simpa using congrArg List.length e
  refine ⟨by rw [hl]; exact h.1, fun x hx => ?_⟩
  have : x.ct ∈ l.map Db.ct := by rw [← e]; exact List.mem_map_of_mem hx
  obtain ⟨y, hy, e2⟩ := List.mem_map.1 this
  have := h.2 y hy
  have e3 : y.b = x.b := congrArg Dt.b e2
  rwa [e3] at this
theorem OwnD.ds0 {w : World} {B : Nat} {v : Value} {xs : List Db} (h : OwnD w B v xs) : ∃ (A : Option Addr) (c : Nat), v = .slice A xs.length c ∧ xs.length ≤ c ∧ c ≤ maxLen ∧ (A = none → c = 0) ∧ Ds w w.heap.size A xs := by
  obtain ⟨A, c, rfl, h1, h2, h3⟩ := h.ds
  refine ⟨A, c, rfl, h1, h2, fun e => ?_, h3⟩
  subst e
  rcases h.1.2 with ⟨he, _⟩ | ⟨g, cap, cur, he, _⟩
  · injection he
  · cases he
theorem ct_len {l l' : List Db} (e : l'.map Db.ct = l.map Db.ct) : l'.length = l.length := by simpa using congrArg List.length e
theorem ct_set {l l' : List Db} (e : l'.map Db.ct = l.map Db.ct) (i : Nat) (y : Db) (h : i < l.length) (hy : y.ct = (db l' i).ct) : (l'.set i y).map Db.ct = l.map Db.ct := by
  have hl := ct_len e
  rw [List.map_set, hy, ← e]
  apply List.ext_getElem (by simp)
  intro j h1 h2
  rw [List.getElem_set]
  split
  · rename_i hij
    subst hij
    rw [List.getElem_map, db_lt l' (by omega)]
  · rfl

set_option maxRecDepth 100000 in
set_option maxHeartbeats 1000000 in
theorem cloneD_any (A : Option Addr) (c hi : Nat) (xs : List Db) (w : World) (hn : xs.length ≤ 1000) (hc : Ds w hi A xs) (hh : hi ≤ w.heap.size) :
    Calls Try.prog 47 #[.slice A xs.length c] w (PutsD w xs) := by
  have q : ∀ (w : World) (a : Option Addr) (n c n' c' : Nat), (binOp .eql 22 (.slice a n c) (.slice none n' c')).run Try.prog w = .ok (.bool a.isNone) w := fun w a n c n' c' => Lib.run_eql_slice_nil w _ _ a n c n' c' Try.underlying22
  rcases A with _ | ad
  · obtain rfl := hc.none_nil
    clear hc
    go_enter Try.func47, Try.ntmps47
    go_wp2
    go_ret
    exact ⟨_, rfl, OwnD.nil _ _, Below.refl _ _⟩
  · have hds := hc.on ((Below.refl w.heap.size w).alloc (Nat.le_refl _) (.cells #[] 55)) hh
    have HA := Lib.hid (fun ty => appD_own (w.alloc (.cells #[] 55)) ty w.heap.size (.slice (some ⟨w.heap.size, 0, none⟩) 0 0) [] ⟨World.ownsRow_made w #[] 0 (Nat.le_refl _) (Nat.zero_le _) rfl, fun x hx => by cases hx⟩ hi (some ad) c xs hds (fun y hy => (hds.rd y hy).off _ fun k hk hk2 => by obtain rfl : w.heap.size = k := Option.some.inj hk; omega) (by simp; omega) (by simp))
    clear hc hds
    go_enter Try.func47, Try.ntmps47
    obtain ⟨v', w', h1, h2, h3, _⟩ := HA.out 22
    have HO := Lib.hid h2
    have HB : Hid (Below w.heap.size w w') := Lib.hid (((Below.refl _ w).alloc (Nat.le_refl _) _).grown h3 (by simp) (by intro k hk; simp [Value.ownBlock] at hk; omega))
    clear h2 h3 HA
    go_wp2_with (at_builtin; refine wpList_app rfl 22 _ _ rfl _ _ rfl rfl h1 ?_)
    go_ret
    exact ⟨v', rfl, by simpa using HO.out, HB.out⟩

/-- A copy: the same doubts, in memory of its own. -/
def Copies (w : World) (l : List Db) (e : Ending) (w' : World) : Prop := ∃ v ys, e = .returned v ∧ OwnD w' w.heap.size v ys ∧ ys.map Db.ct = l.map Db.ct ∧ Below w.heap.size w w'

set_option maxRecDepth 100000 in
set_option maxHeartbeats 4000000 in
theorem copied_any (A : Option Addr) (c hi : Nat) (l : List Db) (w : World) (hs : Sm l) (h : Ds w hi A l) (hh : hi ≤ w.heap.size) :
    Calls Try.prog 31 #[.slice A l.length c] w (Copies w l) := by
  have HC := Lib.hid (cloneD_any A c hi l w hs.1 h hh)
  have HS := Lib.hid hs
  have hl0 := hs.1
  clear h hh hs
  go_enter Try.func31, Try.ntmps31
  go_upto_region 2 with (go_at_call 47; refine HC.out.mono ?_; rintro e w1 ⟨v, rfl, ho, hb⟩)
  have HO1 := Lib.hid ho
  have HB1 := Lib.hid hb
  clear HC ho hb
  obtain ⟨A1, c1, rfl, hc1, hm1, _⟩ := HO1.out.ds
  have HM := Lib.hid (And.intro hc1 hm1)
  clear hc1 hm1
  go_wp2_with fail
  go_loopw [9] (fun i wr => ∃ (k : Nat) (ys : List Db), i = .int .i64 k ∧ k ≤ l.length ∧ Hid (OwnD wr w.heap.size (.slice A1 l.length c1) ys) ∧ Hid (ys.map Db.ct = l.map Db.ct) ∧ Hid (Below w.heap.size w wr)) (fun i _ => l.length - (intOf i).toNat)
  case atStart => exact ⟨0, l, rfl, Nat.zero_le _, HO1, Lib.hid rfl, HB1⟩
  case round =>
    clear HO1 HB1
    obtain ⟨wq, ewq⟩ : ∃ wq, wq = wr := ⟨_, rfl⟩
    subst ewq
    obtain ⟨k, ys, rfl, hk, HO, HE, HB⟩ := hrel
    have hyl := ct_len HE.out
    by_cases hlt : k < l.length
    · have k0 : (0 : Int) ≤ (k : Int) := by omega
      have k1 : (k : Int) < (l.length : Int) := by omega
      have hky : k < ys.length := by omega
      have hO := HO.out
      obtain ⟨g, c', e, hg, hgl, _, _, hf⟩ := hO.opened (by omega)
      injection e with e1 e2 e3
      clear e2
      subst e1 e3
      rw [← hyl] at hO
      obtain ⟨_, _, _, o3⟩ := hO.cell k hky
      have f3 := hf (k * 4 + 3)
      have hrd := hO.2 _ (db_mem ys hky)
      have HCN := Lib.hid (cloneN_any (db ys k).A (db ys k).c 0 wq.heap.size (db ys k).b wq ((HS.out.ct HE.out).2 _ (db_mem ys hky)) hrd.1.has (Nat.le_refl _))
      have HSB := Lib.hid (fun (W : World) (h : OwnD W w.heap.size (.slice (some ⟨g, 0, none⟩) ys.length c1) ys) A' c' hy => h.setBy hky A' c' (db ys k).b hy)
      have HCS := Lib.hid (fun y hy => ct_set HE.out k y hlt hy)
      have HOq := Lib.hid hO
      have HX : Hid (∀ A' c', (⟨(db ys k).w, (db ys k).i, (db ys k).t, A', c', (db ys k).b⟩ : Db).ct = (db ys k).ct) := Lib.hid (fun _ _ => rfl)
      have HG := Lib.hid hgl
      have HGB := Lib.hid hg
      generalize db ys k = x at *
      have HYL := Lib.hid hyl
      clear hO hrd HE hf hgl hg hky hyl
      go_wp2_with fail
      refine HCN.out.mono ?_
      rintro e w2 ⟨u, rfl, hou, hbu⟩
      obtain ⟨A2, c2, rfl, hc2, hm2, hns⟩ := hou.ns
      have o3' := (hbu.cell (p := ⟨g, k * 4 + 3, none⟩) HG.out).trans o3
      have hO2 := HOq.out.on hbu
      have f3' : w2.frozen? ⟨g, k * 4 + 3, none⟩ = false := World.ownsRow.frozenAt (w := w2) hO2.1 _
      have HO2 := Lib.hid (HSB.out w2 hO2 A2 c2 ⟨hns.imp (fun j _ hj e => by have := Option.some.inj e; have := HG.out; omega), hc2, hm2⟩)
      have HE2 := Lib.hid (HCS.out _ (HX.out A2 c2))
      have HB2 : Hid (Below w.heap.size w (w2.setCell ⟨g, k * 4 + 3, none⟩ (.slice A2 x.b.length c2))) := Lib.hid ((HB.out.trans (hbu.mono HB.out.size)).setCell (p := ⟨g, k * 4 + 3, none⟩) HGB.out _)
      rw [HYL.out] at HO2
      clear HYL hou hbu hns hc2 hm2 hO2 o3 f3 HSB HCS HX HCN HOq HO HB HG HGB
      go_upto_region 6 with (fail)
      generalize w2.setCell ⟨g, k * 4 + 3, none⟩ (.slice A2 x.b.length c2) = w3 at *
      clear o3' f3'
      go_wp2_with fail
      go_roundw
      case rel => exact ⟨k + 1, _, by go_num, by omega, HO2, HE2, HB2⟩
      case measure => simp [intOf]; omega
    · go_wp2_with fail
      go_ret
      exact ⟨_, ys, rfl, HO.out, HE.out, HB.out⟩
end Go.Proofs.Ytknpbbplolncpaa
