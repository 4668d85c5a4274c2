/- Which instruction bytes are: the table, in numbers. -/
import Derived.Test.YtbbegbaaefgikaaPure9
namespace Go.Proofs.Ytbbegbaaefgikaa
set_option maxRecDepth 100000

/-- what stands behind an opcode -/
structure Frm where
  op : Int
  cond : Int
  size : Int
  how : List UInt8
  c : Int
  deriving DecidableEq
def nilF : Frm := ⟨0, 0, 0, [], 0⟩
def isF (c op size : Int) (how : List UInt8) : Frm × Bool × Bool := (⟨op, 0, size, how, c % 8⟩, op != 0, false)
def grpF (l : List Int) (reg : Int) : Int := l.getD reg.toNat 0
def byF (c reg : Int) (l : List Int) (size : Int) (how : List UInt8) : Frm × Bool × Bool := if reg < 0 then (nilF, false, true) else isF c (grpF l reg) size how
def alus : List Int := [1, 2, 3, 4, 5, 6, 7, 8]
def shfs : List Int := [26, 27, 0, 0, 28, 29, 0, 30]
/-- the opcodes of one byte; reg: of the byte behind, -1: there is none -/
def firstF (c reg : Int) (m3 : Bool) : Frm × Bool × Bool :=
  let s := 1 + 3 * (c % 2)
  if c < 64 ∧ c % 8 < 6 then isF c (grpF alus (c / 8)) ([1, 4, 1, 4, 1, 4].getD (c % 8).toNat 0) ([[69, 71], [69, 71], [71, 69], [71, 69], [97, 73], [97, 73]].getD (c % 8).toNat [])
  else if 64 ≤ c ∧ c < 72 then isF c 16 4 [114]
  else if 72 ≤ c ∧ c < 80 then isF c 17 4 [114]
  else if 80 ≤ c ∧ c < 88 then isF c 23 4 [114]
  else if 88 ≤ c ∧ c < 96 then isF c 24 4 [114]
  else if 112 ≤ c ∧ c < 128 then (⟨31, c % 16, 0, [98], c % 8⟩, true, false)
  else if 145 ≤ c ∧ c < 152 then isF c 22 4 [97, 114]
  else if 176 ≤ c ∧ c < 184 then isF c 18 1 [114, 73]
  else if 184 ≤ c ∧ c < 192 then isF c 18 4 [114, 73]
  else if c = 0x68 then isF c 23 4 [73]
  else if c = 0x6a then isF c 23 4 [98]
  else if c = 0x69 then (⟨25, 1, 4, [71, 69, 76], c % 8⟩, true, false)
  else if c = 0x6b then (⟨25, 1, 4, [71, 69, 66], c % 8⟩, true, false)
  else if c = 0x80 then byF c reg alus 1 [69, 73]
  else if c = 0x81 then byF c reg alus 4 [69, 73]
  else if c = 0x83 then byF c reg alus 4 [69, 98]
  else if c = 0x84 ∨ c = 0x85 then isF c 9 s [69, 71]
  else if c = 0x86 ∨ c = 0x87 then isF c 22 s [69, 71]
  else if c = 0x88 ∨ c = 0x89 then isF c 18 s [69, 71]
  else if c = 0x8a ∨ c = 0x8b then isF c 18 s [71, 69]
  else if c = 0x8d then (if reg < 0 then (nilF, false, true) else (⟨21, 0, 4, [71, 69], c % 8⟩, !m3, false))
  else if c = 0x8f then byF c reg [24] 4 [69]
  else if c = 0x90 then isF c 50 0 []
  else if c = 0x98 then isF c 37 0 []
  else if c = 0x99 then isF c 38 0 []
  else if c = 0xa0 ∨ c = 0xa1 then isF c 18 s [97, 109]
  else if c = 0xa2 ∨ c = 0xa3 then isF c 18 s [109, 97]
  else if c = 0xa4 ∨ c = 0xa5 then isF c 46 s []
  else if c = 0xa8 ∨ c = 0xa9 then isF c 9 s [97, 73]
  else if c = 0xaa ∨ c = 0xab then isF c 47 s []
  else if c = 0xac ∨ c = 0xad then isF c 48 s []
  else if c = 0xc1 then byF c reg shfs 4 [69, 98]
  else if c = 0xd1 then byF c reg shfs 4 [69, 49]
  else if c = 0xd3 then byF c reg shfs 4 [69, 99]
  else if c = 0xc2 then isF c 34 0 [119]
  else if c = 0xc3 then isF c 34 0 []
  else if c = 0xc6 ∨ c = 0xc7 then byF c reg [18] s [69, 73]
  else if c = 0xc9 then isF c 49 0 []
  else if c = 0xcc then isF c 40 0 []
  else if c = 0xf4 then isF c 39 0 []
  else if c = 0xe8 then isF c 33 0 [105]
  else if c = 0xe9 then isF c 32 0 [105]
  else if c = 0xeb then isF c 32 0 [98]
  else if c = 0xf5 then isF c 43 0 []
  else if c = 0xf8 then isF c 41 0 []
  else if c = 0xf9 then isF c 42 0 []
  else if c = 0xfc then isF c 44 0 []
  else if c = 0xfd then isF c 45 0 []
  else if c = 0xf6 then (if reg = 0 then isF c 9 1 [69, 73] else byF c reg [0, 0, 10, 11] 1 [69])
  else if c = 0xf7 then (if reg = 0 then isF c 9 4 [69, 73] else byF c reg [0, 0, 10, 11, 12, 13, 14, 15] 4 [69])
  else if c = 0xfe then byF c reg [16, 17] 1 [69]
  else if c = 0xff then byF c reg [16, 17, 33, 0, 32, 0, 23] 4 [69]
  else (nilF, false, false)
end Go.Proofs.Ytbbegbaaefgikaa
