/-
  The walks of the document's Two and Near.
-/
import Derived.Test.YtmbapcdchaamfaaUp
namespace Go.Proofs.Ytmbapcdchaamfaa
open Go.Sort Go.RowKit Go.Proofs.Ytmbapcdchaamfaa.Pure

/-- All beats may be. -/
def Oks (n : Int) (l : List Bt) : Prop := ∀ i, i < l.length → okAt n l i = true

theorem rtk_any {N : Int} (A : Option Addr) (c : Nat) (l : List Bt) (v : Int) (p q : Nat) (w : World) (hn : l.length ≤ 1000) (h : Lst w A l) (hk : Oks N l) (hp : p ≤ q) (hq : q ≤ l.length) :
    Calls Try.prog 16 #[.slice A l.length c, .int .i64 v, .int .i64 p, .int .i64 q] w fun e w' => e = .returned (.tuple #[.int .i64 (if tkB l v p q then tkV l v p q else 0), .bool (tkB l v p q)]) ∧ w = w' :=
  rticks_any A c l v p q w hn h hp hq _ _ (tkB_doc hp fun j hj => hk j (by omega)) fun hb => tkV_doc hp (fun j hj => hk j (by omega)) hb

set_option maxRecDepth 100000 in
set_option maxHeartbeats 1000000 in
theorem two_any {N : Int} (A : Option Addr) (c : Nat) (l : List Bt) (u v : Int) (p q : Nat) (d r : Int) (w : World) (hn : l.length ≤ 1000) (h : Lst w A l) (hk : Oks N l) (hp : p ≤ q) (hq : q ≤ l.length)
    (hd : 0 ≤ d ∧ d ≤ 1099511627776) (hr : 1 ≤ r ∧ r ≤ 1099511627776) :
    Calls Try.prog 29 #[.slice A l.length c, .int .i64 u, .int .i64 v, .int .i64 p, .int .i64 q, .int .i64 d, .int .i64 r] w fun e w' => e = .returned (.bool (two l u v p q d r)) ∧ w = w' := by
  have HU := Lib.hid (rtk_any A c l u p q w hn h hk hp hq)
  have HV := Lib.hid (rtk_any A c l v p q w hn h hk hp hq)
  have GU : tkB l u p q = true → 0 ≤ tkV l u p q ∧ tkV l u p q ≤ q := tkV_le hp fun j hj => hk j (by omega)
  have GV : tkB l v p q = true → 0 ≤ tkV l v p q ∧ tkV l v p q ≤ q := tkV_le hp fun j hj => hk j (by omega)
  have HT : Hid (two l u v p q d r = if tkB l u p q && tkB l v p q then (if tkV l v p q < tkV l u p q then decide (tkV l u p q - tkV l v p q ≤ d + tkV l v p q / r) else decide (tkV l v p q - tkV l u p q ≤ d + tkV l u p q / r)) else true) := Lib.hid rfl
  generalize two l u v p q d r = T at *
  generalize tkB l u p q = bu at *
  generalize tkB l v p q = bv at *
  generalize tkV l u p q = x at *
  generalize tkV l v p q = y at *
  have e4 : (r == 0) = false := by simp; omega
  clear h
  rcases bu with _ | _
  · have hT : T = true := by rw [HT.out]; rfl
    subst hT
    rcases bv with _ | _
    all_goals
      go_enter Try.func29, Try.ntmps29
      go_wp2_with fail
      refine HU.out.mono ?_
      rintro e w1 ⟨rfl, rfl⟩
      go_wp2_with fail
      refine HV.out.mono ?_
      rintro e w1 ⟨rfl, rfl⟩
      go_wp2_with fail
      go_ret
      exact ⟨rfl, rfl⟩
  · rcases bv with _ | _
    · have hT : T = true := by rw [HT.out]; rfl
      subst hT
      go_enter Try.func29, Try.ntmps29
      go_wp2_with fail
      refine HU.out.mono ?_
      rintro e w1 ⟨rfl, rfl⟩
      go_wp2_with fail
      refine HV.out.mono ?_
      rintro e w1 ⟨rfl, rfl⟩
      go_wp2_with fail
      go_ret
      exact ⟨rfl, rfl⟩
    · obtain ⟨x0, x1⟩ := GU rfl
      obtain ⟨y0, y1⟩ := GV rfl
      clear GU GV
      have ex : Int.tdiv x r = x / r := Int.tdiv_eq_ediv_of_nonneg x0
      have ex2 : x / r ≤ x := Int.ediv_le_self _ x0
      have ex3 : 0 ≤ x / r := Int.ediv_nonneg x0 (by omega)
      have ey : Int.tdiv y r = y / r := Int.tdiv_eq_ediv_of_nonneg y0
      have ey2 : y / r ≤ y := Int.ediv_le_self _ y0
      have ey3 : 0 ≤ y / r := Int.ediv_nonneg y0 (by omega)
      generalize x / r = xr at *
      generalize y / r = yr at *
      by_cases hlt : y < x
      · have hT : Hid (T = decide (x - y ≤ d + yr)) := Lib.hid (by rw [HT.out]; simp [hlt])
        have d1 : decide (y < x) = true := by simpa using hlt
        clear HT
        go_enter Try.func29, Try.ntmps29
        go_wp2_with fail
        refine HU.out.mono ?_
        rintro e w1 ⟨rfl, rfl⟩
        go_wp2_with fail
        refine HV.out.mono ?_
        rintro e w1 ⟨rfl, rfl⟩
        go_wp2_with fail
        go_ret
        exact ⟨by rw [hT.out]; rfl, rfl⟩
      · have hT : Hid (T = decide (y - x ≤ d + xr)) := Lib.hid (by rw [HT.out]; simp [hlt])
        have d1 : decide (y < x) = false := by simpa using hlt
        clear HT
        go_enter Try.func29, Try.ntmps29
        go_wp2_with fail
        refine HU.out.mono ?_
        rintro e w1 ⟨rfl, rfl⟩
        go_wp2_with fail
        refine HV.out.mono ?_
        rintro e w1 ⟨rfl, rfl⟩
        go_wp2_with fail
        go_ret
        exact ⟨by rw [hT.out]; rfl, rfl⟩

/-- The document's near, of n nodes: each two, from each place to each place. -/
theorem rnear_iff {N : Int} {n : Nat} {l : List Bt} {d r : Int} (hk : Oks N l) (hd : 0 ≤ d) (hr : 1 ≤ r) :
    nearB n l d r l.length = true ↔ ∀ u v : Nat, u < n → v < u → ∀ p q, p ≤ q → q ≤ l.length → two l u v p q d r = true := by
  rw [nearB_iff]
  constructor
  · intro h u v hu hv p q hp hq
    exact two_of_okFT (h p q hp hq) u v hu (by omega)
  · intro h p q hp hq
    exact okFT_of_two hp (fun j hj => hk j (by omega)) hd hr fun u v hu hv => h u v hu hv p q hp hq

set_option maxRecDepth 100000 in
set_option maxHeartbeats 2000000 in
theorem rnear_any {N : Int} (A : Option Addr) (c n : Nat) (l : List Bt) (d r : Int) (w : World) (hn : l.length ≤ 1000) (hN : n ≤ 64) (h : Lst w A l) (hk : Oks N l)
    (hd : 0 ≤ d ∧ d ≤ 1099511627776) (hr : 1 ≤ r ∧ r ≤ 1099511627776) (L : Bool) (hL : nearB n l d r l.length = L) :
    Calls Try.prog 18 #[.int .i64 n, .slice A l.length c, .int .i64 d, .int .i64 r] w fun e w' => e = .returned (.bool L) ∧ w = w' := by
  have HC := Lib.hid (fun (u v p q : Nat) (hp : p ≤ q) (hq : q ≤ l.length) => two_any A c l u v p q d r w hn h hk hp hq hd hr)
  have HR : Hid (L = true ↔ ∀ u v : Nat, u < n → v < u → ∀ p q, p ≤ q → q ≤ l.length → two l u v p q d r = true) := Lib.hid (by rw [← hL]; exact rnear_iff hk hd.1 hr.1)
  generalize hm : l.length = m at *
  clear h hk hL hm hd hr
  have HF : Hid (∀ u v p q : Nat, u < n → v < u → p ≤ q → q ≤ m → two l u v p q d r = false → L = false) := Lib.hid (by
    intro u v p q hu hv hp hq ht
    rcases L with _ | _
    · rfl
    · rw [HR.out.1 rfl u v hu hv p q hp hq] at ht; cases ht)
  go_enter Try.func18, Try.ntmps18
  go_wp2_with fail
  go_loopw [9] (fun a wr => ∃ u : Nat, a = .int .i64 u ∧ u ≤ n ∧ w = wr ∧ Hid (∀ x v : Nat, x < u → v < x → ∀ p q, p ≤ q → q ≤ m → two l x v p q d r = true)) (fun a _ => n - (intOf a).toNat)
  case atStart => exact ⟨0, rfl, Nat.zero_le _, rfl, Lib.hid (fun x v hx => absurd hx (Nat.not_lt_zero x))⟩
  case round =>
    obtain ⟨u, rfl, hu, rfl, H1⟩ := hrel
    by_cases hun : u < n
    · have d1 : decide ((u : Int) < (n : Int)) = true := by simp; omega
      go_wp2_with fail
      clear d1
      go_loopw [10] (fun b wr => ∃ v : Nat, b = .int .i64 v ∧ v ≤ u ∧ w = wr ∧ Hid (∀ y : Nat, y < v → ∀ p q, p ≤ q → q ≤ m → two l u y p q d r = true)) (fun b _ => u - (intOf b).toNat)
      case atStart => exact ⟨0, rfl, Nat.zero_le _, rfl, Lib.hid (fun y hy => absurd hy (Nat.not_lt_zero y))⟩
      case round =>
        obtain ⟨v, rfl, hv, rfl, H2⟩ := hrel
        by_cases hvu : v < u
        · have d1 : decide ((v : Int) < (u : Int)) = true := by simp; omega
          go_wp2_with fail
          clear d1
          go_loopw [11] (fun b wr => ∃ p : Nat, b = .int .i64 p ∧ p ≤ m + 1 ∧ w = wr ∧ Hid (∀ x, x < p → ∀ q, x ≤ q → q ≤ m → two l u v x q d r = true)) (fun b _ => m + 1 - (intOf b).toNat)
          case atStart => exact ⟨0, rfl, Nat.zero_le _, rfl, Lib.hid (fun y hy => absurd hy (Nat.not_lt_zero y))⟩
          case round =>
            obtain ⟨p, rfl, hp, rfl, H3⟩ := hrel
            by_cases hpm : p ≤ m
            · have d1 : decide ((p : Int) ≤ (m : Int)) = true := by simp; omega
              go_wp2_with fail
              clear d1
              go_loopw [12] (fun b wr => ∃ q : Nat, b = .int .i64 q ∧ p ≤ q ∧ q ≤ m + 1 ∧ w = wr ∧ Hid (∀ x, p ≤ x → x < q → two l u v p x d r = true)) (fun b _ => m + 1 - (intOf b).toNat)
              case atStart => exact ⟨p, rfl, Nat.le_refl _, by omega, rfl, Lib.hid (fun x h1 h2 => by omega)⟩
              case round =>
                obtain ⟨q, rfl, hpq, hq, rfl, H4⟩ := hrel
                by_cases hqm : q ≤ m
                · have d1 : decide ((q : Int) ≤ (m : Int)) = true := by simp; omega
                  have HC1 := Lib.hid (HC.out u v p q hpq hqm)
                  rcases ht : two l u v p q d r with _ | _
                  · have hLf := HF.out u v p q hun hvu hpq hqm ht
                    rw [ht] at HC1
                    clear ht
                    go_wp2_with fail
                    refine HC1.out.mono ?_
                    rintro e w1 ⟨rfl, rfl⟩
                    go_wp2_with fail
                    go_ret
                    exact ⟨by rw [hLf]; rfl, rfl⟩
                  · rw [ht] at HC1
                    have HT := Lib.hid ht
                    clear ht
                    go_wp2_with fail
                    refine HC1.out.mono ?_
                    rintro e w1 ⟨rfl, rfl⟩
                    go_wp2_with fail
                    go_roundw
                    case rel => exact ⟨q + 1, by go_num, by omega, by omega, by trivial, Lib.hid (fun x h1 h2 => by
                      rcases Nat.lt_or_ge x q with h | h
                      · exact H4.out x h1 h
                      · obtain rfl : x = q := by omega
                        exact HT.out)⟩
                    case measure => simp [intOf]; omega
                · have d1 : decide ((q : Int) ≤ (m : Int)) = false := by simp; omega
                  have H4' : Hid (∀ x, p ≤ x → x ≤ m → two l u v p x d r = true) := Lib.hid fun x h1 h2 => H4.out x h1 (by omega)
                  go_wp2_with fail
                  go_roundw
                  case rel => exact ⟨p + 1, by go_num, by omega, by trivial, Lib.hid (fun x h1 q h2 h3 => by
                    rcases Nat.lt_or_ge x p with h | h
                    · exact H3.out x h q h2 h3
                    · obtain rfl : x = p := by omega
                      exact H4'.out q h2 h3)⟩
                  case measure => simp [intOf]; omega
            · have d1 : decide ((p : Int) ≤ (m : Int)) = false := by simp; omega
              have H3' : Hid (∀ x q, x ≤ q → q ≤ m → two l u v x q d r = true) := Lib.hid fun x q h1 h2 => H3.out x (by omega) q h1 h2
              go_wp2_with fail
              go_roundw
              case rel => exact ⟨v + 1, by go_num, by omega, by trivial, Lib.hid (fun y h1 p q h2 h3 => by
                rcases Nat.lt_or_ge y v with h | h
                · exact H2.out y h p q h2 h3
                · obtain rfl : y = v := by omega
                  exact H3'.out p q h2 h3)⟩
              case measure => simp [intOf]; omega
        · have d1 : decide ((v : Int) < (u : Int)) = false := by simp; omega
          have H2' : Hid (∀ y : Nat, y < u → ∀ p q, p ≤ q → q ≤ m → two l u y p q d r = true) := Lib.hid fun y hy => H2.out y (by omega)
          go_wp2_with fail
          go_roundw
          case rel => exact ⟨u + 1, by go_num, by omega, by trivial, Lib.hid (fun x y h1 h2 p q h3 h4 => by
            rcases Nat.lt_or_ge x u with h | h
            · exact H1.out x y h h2 p q h3 h4
            · obtain rfl : x = u := by omega
              exact H2'.out y h2 p q h3 h4)⟩
          case measure => simp [intOf]; omega
    · have d1 : decide ((u : Int) < (n : Int)) = false := by simp; omega
      have hL : L = true := HR.out.2 fun x v h1 h2 p q h3 h4 => H1.out x v (by omega) h2 p q h3 h4
      subst hL
      go_wp2_with fail
      go_ret
      exact ⟨rfl, rfl⟩
end Go.Proofs.Ytmbapcdchaamfaa
