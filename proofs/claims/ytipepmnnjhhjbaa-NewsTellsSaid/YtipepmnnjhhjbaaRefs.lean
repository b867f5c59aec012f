/-
  What the document's calls answer, in terms of lists that memory holds.
-/
import Derived.Test.YtipepmnnjhhjbaaRtake
import Derived.Test.YtipepmnnjhhjbaaMay
import Derived.Test.YtipepmnnjhhjbaaLawBox
namespace Go.Proofs.Ytipepmnnjhhjbaa
open Go.Sort Go.RowKit Go.Proofs.Ytipepmnnjhhjbaa.Pure

section
variable {w : World} {A : Option Addr} {c : Nat} {q : List Td}
theorem l_rtake (h : Ts w A q) (hq : mayQ q = true) (k : Int) (hk : 0 ≤ k) : Calls Try.prog 21 #[.slice A q.length c, .int .i64 k] w (Gr w (tellN q k.toNat) (tellR q k.toNat)) :=
  (rtake_any A c q k w h hq hk).mono fun e w' ⟨v, u, he, h1, h2, hb⟩ => by
    obtain ⟨A', c', rfl, _, hl⟩ := h1.lst
    obtain ⟨A2, c2, rfl, _, hl2⟩ := h2.lst
    exact ⟨A', c', A2, c2, he, hl, hl2, hb⟩
theorem l_radd (h : Ts w A q) (hn : q.length ≤ 1000) (n : Nw) (often : Int) : Calls Try.prog 19 #[.slice A q.length c, .agg #[.int .i64 n.w, .int .u64 n.i, .int .i64 n.s], .int .i64 often] w (Gl w (addQ q (n.td often))) :=
  (radd_any A c q n often w hn h).mono fun e w' ⟨v, he, ho, hb⟩ => by
    obtain ⟨A', c', rfl, _, hl⟩ := ho.lst
    exact ⟨A', c', he, hl, hb⟩
end
end Go.Proofs.Ytipepmnnjhhjbaa
