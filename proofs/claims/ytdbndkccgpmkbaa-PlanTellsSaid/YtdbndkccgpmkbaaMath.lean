/-
  Draws, and shuffles, as mathematics: nothing of the program is imported.
-/
namespace Go.Proofs.Ytdbndkccgpmkbaa.Pure

/-- What is drawn below m at the place a: behind the last octet it is 0. -/
def drawn (L : List UInt8) (a m : Nat) : Nat := (L.getD a 0).toNat % m
/-- The place then. -/
def next (L : List UInt8) (a : Nat) : Nat := if a < L.length then a + 1 else a
end Go.Proofs.Ytdbndkccgpmkbaa.Pure
