/- Plain facts on digits to the base 2^32: the number of a list of digits, the digits of a number. No Go in sight -/
import Derived.WalkKit
set_option linter.unusedVariables false
set_option linter.unusedSimpArgs false
section
namespace Go.Proofs.Ytoegbgkgenjplaa.Dig
def IsDig (ds : List Nat) : Prop := ∀ d ∈ ds, d < 4294967296
theorem isDig_nil : IsDig [] := by intro d hd; simp at hd
end Go.Proofs.Ytoegbgkgenjplaa.Dig
end
section
namespace Go.Proofs.Ytoegbgkgenjplaa.Dig
/-- the decimal digits of a number behind its leading noughts: none of 0 -/
def decsF : Nat → Nat → List UInt8
  | 0, _ => []
  | f + 1, n => if n = 0 then [] else decsF f (n / 10) ++ [UInt8.ofNat (48 + n % 10)]
def decs (n : Nat) : List UInt8 := decsF n n
/-- a number in decimal digits -/
def text (n : Nat) : List UInt8 := if n = 0 then [48] else decs n
end Go.Proofs.Ytoegbgkgenjplaa.Dig
end
section
namespace Go.Proofs.Ytoegbgkgenjplaa.Lx
open Go.Proofs.Ytoegbgkgenjplaa.Dig
abbrev Bs := List UInt8
def letterB (c : UInt8) : Bool := decide (97 ≤ c.toNat ∧ c.toNat ≤ 122) || decide (65 ≤ c.toNat ∧ c.toNat ≤ 90) || decide (c.toNat = 95)
def digB (c : UInt8) : Bool := decide (48 ≤ c.toNat ∧ c.toNat ≤ 57)
def whiteB (c : UInt8) : Bool := decide (c.toNat = 32 ∨ c.toNat = 9 ∨ c.toNat = 10 ∨ c.toNat = 13)
def signB (c : UInt8) : Bool := decide (c.toNat = 58 ∨ c.toNat = 123 ∨ c.toNat = 125 ∨ c.toNat = 91 ∨ c.toNat = 93 ∨ c.toNat = 40 ∨ c.toNat = 41 ∨ c.toNat = 44 ∨ c.toNat = 59 ∨ c.toNat = 61)
def wordB (c : UInt8) : Bool := letterB c || digB c
/-- how many blank bytes stand in front; true: within a comment -/
def blk : Bool → Bs → Nat
  | _, [] => 0
  | true, c :: t => if c.toNat = 10 then 1 + blk false t else 1 + blk true t
  | false, c :: t => if c.toNat = 37 then 1 + blk true t else if whiteB c = true then 1 + blk false t else 0
/-- how many bytes of a sort stand in front -/
def run (p : UInt8 → Bool) : Bs → Nat
  | [] => 0
  | c :: t => if p c = true then 1 + run p t else 0
/-- the kind and the length of the token in front -/
def word : Bs → Nat × Nat
  | [] => (0, 0)
  | c :: t =>
    if letterB c = true then (1, 1 + run wordB t)
    else if digB c = true then (2, 1 + run digB t)
    else if c.toNat = 45 ∧ 0 < run digB t then (2, 1 + run digB t)
    else if (c.toNat = 58 ∨ c.toNat = 46) ∧ t.head? = some c then (3, 2)
    else if signB c = true then (3, 1)
    else (0, 0)
def fits (v : Int) : Prop := -9223372036854775808 ≤ v ∧ v < 9223372036854775808
instance (v : Int) : Decidable (fits v) := by unfold fits; infer_instance
structure Tok where
  kind : Nat
  txt : Bs
  val : Int
  at_ : Nat
/-- how far the next token stands -/
def next (l : Bs) : Nat := (word l).2 + blk false (l.drop (word l).2)
section
open Go.Proofs.Ytoegbgkgenjplaa.Dig
end
section
open Go.Proofs.Ytoegbgkgenjplaa.Dig
/-- the bytes of a text -/
def L (s : ByteArray) : Bs := s.data.toList
end
end Go.Proofs.Ytoegbgkgenjplaa.Lx
end
