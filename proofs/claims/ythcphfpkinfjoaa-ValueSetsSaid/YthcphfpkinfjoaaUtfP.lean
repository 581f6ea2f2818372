/-
  Plain functions on lists of bytes: what the readers and writers of package utf answer.
  Conditions: none.
-/
import Derived.WalkKit
namespace Go.Proofs.Ythcphfpkinfjoaa

/-- n bytes that go on, behind the bits r. -/
def uCont : Nat → Nat → List UInt8 → Option (Nat × List UInt8)
  | 0, r, l => some (r, l)
  | _ + 1, _, [] => none
  | n + 1, r, c :: t => if c.toNat / 64 = 2 then uCont n (r * 64 + c.toNat % 64) t else none
def uSur (r : Nat) : Bool := decide (55296 ≤ r) && decide (r < 57344)
def uFit (least r : Nat) : Bool := decide (least ≤ r) && decide (r ≤ 1114111) && !uSur r
def uTail (more r least : Nat) (l : List UInt8) : Option (Nat × List UInt8) :=
  match uCont more r l with
  | some (q, t) => if uFit least q then some (q, t) else none
  | none => none
def uPoint (c : UInt8) (l : List UInt8) : Option (Nat × List UInt8) :=
  if c.toNat < 128 then some (c.toNat, l)
  else if c.toNat < 192 then none
  else if c.toNat < 224 then uTail 1 (c.toNat % 32) 128 l
  else if c.toNat < 240 then uTail 2 (c.toNat % 16) 2048 l
  else if c.toNat < 248 then uTail 3 (c.toNat % 8) 65536 l
  else none
def uDigit (c : Nat) : Option Nat :=
  if 48 ≤ c ∧ c ≤ 57 then some (c - 48)
  else if 97 ≤ c ∧ c ≤ 102 then some (c - 87)
  else if 65 ≤ c ∧ c ≤ 70 then some (c - 55)
  else none
def uDigs : Nat → Nat → List UInt8 → Option (Nat × List UInt8)
  | 0, r, l => some (r, l)
  | _ + 1, _, [] => none
  | n + 1, r, c :: t => match uDigit c.toNat with
    | some d => uDigs n (r * 16 + d) t
    | none => none
/-- A whole escape that has to be the second half of a pair. -/
def uLow : List UInt8 → Option (Nat × List UInt8)
  | a :: b :: t => if a.toNat = 92 ∧ b.toNat = 117 then
      match uDigs 4 0 t with
      | some (r, u) => if 56320 ≤ r ∧ r < 57344 then some (r, u) else none
      | none => none
    else none
  | _ => none
/-- What follows a backslash and a u. -/
def uNum (l : List UInt8) : Option (Nat × List UInt8) :=
  match uDigs 4 0 l with
  | some (r, u) => if uSur r then
      if 56320 ≤ r then none
      else match uLow u with
        | some (q, v) => some (65536 + (r - 55296) * 1024 + (q - 56320), v)
        | none => none
    else some (r, u)
  | none => none
/-- What follows a backslash. -/
def uEsc : List UInt8 → Option (Nat × List UInt8)
  | [] => none
  | c :: t => if c.toNat = 34 ∨ c.toNat = 92 ∨ c.toNat = 47 then some (c.toNat, t)
    else if c.toNat = 98 then some (8, t)
    else if c.toNat = 116 then some (9, t)
    else if c.toNat = 110 then some (10, t)
    else if c.toNat = 102 then some (12, t)
    else if c.toNat = 114 then some (13, t)
    else if c.toNat = 117 then uNum t
    else none
def uSym (c : UInt8) (l : List UInt8) : Option (Nat × List UInt8) := if c.toNat = 92 then uEsc l else uPoint c l

end Go.Proofs.Ythcphfpkinfjoaa
