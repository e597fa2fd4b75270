/-
  The contract of the function that tells five bits of a number of bytes: it is the sign's number of the plain mathematics. Conditions: the bit lies in the number; at most some hundred million bytes.
-/
import Derived.Test.YtcmgafehidgkmaaRows
import Derived.Test.YtcmgafehidgkmaaBm
import Derived.WalkKit
import Derived.WalkSpells
import Derived.WalkLawsBesides
import Derived.Lib.Hide
namespace Go.Proofs.Ytcmgafehidgkmaa.Nam
open Go.RowKit

theorem ret_u8 {a b : Int} (h : a = b) : Ending.returned (.int .u8 a) = .returned (.int .u8 b) := by rw [h]

/-- The cells from b, off on hold these bytes. -/
def By (w : World) (b off : Nat) (l : List UInt8) : Prop := ∀ i, i < l.length → w.cell? ⟨b, off + i, none⟩ = some (.int .u8 ((l.getD i 0).toNat : Int))

theorem cast_digit (n r : Nat) : (((n / 2 ^ r % 32 : Nat)) : Int) = (n : Int) / 2 ^ r % 32 := by
  simp [Int.natCast_ediv, Int.natCast_emod, Int.natCast_pow]

end Go.Proofs.Ytcmgafehidgkmaa.Nam
