/- The document's decoder (package salternref9): small functions. -/
import Derived.Test.YtbbegbaaefgikaaRef10a
import Derived.BigQuiet
import Derived.Deep.QuietTactic
namespace Go.Proofs.Ytbbegbaaefgikaa
set_option maxRecDepth 100000
open Go.ChangeShapes Go.WideShapes Go.ChangeAt Go.RowKit

def regO (k r : Int) : Opd := ⟨k, r, -1, -1, 1, 0⟩
def numO (v : Int) : Opd := ⟨4, 0, -1, -1, 1, v⟩
def turnO (o : Opd) (k : Int) : Opd := if o.kind = 1 then regO k o.reg else o
def smallO (size r : Int) : Opd := if size = 1 then regO 2 r else regO 1 r
def isRM (c : UInt8) : Bool := c == 69 || c == 71 || c == 103 || c == 101 || c == 88 || c == 89
def hasF (l : List UInt8) : Bool := l.any isRM
def behF (L : Nat) (bs : Nat → Int) (k : Nat) : Int := if k < L then bs k / 8 % 8 else -1
def behM (L : Nat) (bs : Nat → Int) (k : Nat) : Bool := decide (k < L) && (bs k / 64 == 3)
theorem u8_of_toNat {c : UInt8} {n : Nat} (hn : n < 256) (h : (c.toNat : Int) = n) : c = UInt8.ofNat n := by
  apply UInt8.toNat_inj.1
  rw [UInt8.toNat_ofNat']
  omega
theorem isRM_int (c : UInt8) : isRM c = ((c.toNat : Int) == 69 || (c.toNat : Int) == 71 || (c.toNat : Int) == 103 || (c.toNat : Int) == 101 || (c.toNat : Int) == 88 || (c.toNat : Int) == 89) := by
  have h : ∀ n : Nat, n < 256 → (c == UInt8.ofNat n) = ((c.toNat : Int) == (n : Int)) := fun n hn => by
    rw [Bool.eq_iff_iff, beq_iff_eq, beq_iff_eq]
    constructor
    · rintro rfl
      rw [UInt8.toNat_ofNat']
      omega
    · exact u8_of_toNat hn
  unfold isRM
  rw [show (69 : UInt8) = UInt8.ofNat 69 from rfl, show (71 : UInt8) = UInt8.ofNat 71 from rfl, show (103 : UInt8) = UInt8.ofNat 103 from rfl, show (101 : UInt8) = UInt8.ofNat 101 from rfl, show (88 : UInt8) = UInt8.ofNat 88 from rfl, show (89 : UInt8) = UInt8.ofNat 89 from rfl]
  rw [h 69 (by decide), h 71 (by decide), h 103 (by decide), h 101 (by decide), h 88 (by decide), h 89 (by decide)]
  rfl
theorem hasF_snoc (l : List UInt8) (k : Nat) (h : k < l.length) : hasF (l.take (k + 1)) = (hasF (l.take k) || isRM l[k]) := by
  unfold hasF
  rw [List.take_succ_eq_append_getElem h, List.any_append]
  simp
theorem hasF_at (l : List UInt8) (k : Nat) (h : k < l.length) (hr : isRM l[k] = true) : hasF l = true := by
  unfold hasF
  rw [List.any_eq_true]
  exact ⟨l[k], List.getElem_mem h, hr⟩
end Go.Proofs.Ytbbegbaaefgikaa
