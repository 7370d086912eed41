/-
  The operators of calc: what calc.Do and calc.One answer.
-/
import Derived.Test.YtkbfbcfgjgpfgaaDoorRows
import Derived.WalkKit
import Derived.WalkSpells
import Derived.Lib.Hide
import Derived.WalkLawsBesides
import Derived.Deep.Light
namespace Go.Proofs.YtkbfbcfgjgpfgaaDoor
open Go.RowKit

def truI (p : Prop) [Decidable p] : Int := if p then 1 else 0

def doN (op a b : Int) : Int :=
  if op = 1 then wrap64 (a + b) else if op = 2 then wrap64 (a - b) else if op = 3 then wrap64 (a * b)
  else if op = 4 then (if b = 0 then 0 else wrap64 (a.tdiv b)) else if op = 5 then (if b = 0 then 0 else a.tmod b)
  else if op = 6 then truI (a < b) else if op = 7 then truI (a ≤ b) else if op = 8 then truI (b < a) else if op = 9 then truI (b ≤ a)
  else if op = 10 then truI (a = b) else if op = 11 then truI (¬ a = b)
  else if op = 12 then truI (¬ a = 0 ∧ ¬ b = 0) else if op = 13 then truI (¬ a = 0 ∨ ¬ b = 0) else 0

def doE (op b : Int) : Int :=
  if (op = 4 ∨ op = 5) ∧ b = 0 then 10 else if 1 ≤ op ∧ op ≤ 13 then 0 else 11

def oneN (op a : Int) : Int := if op = 14 then wrap64 (-a) else if op = 15 then truI (a = 0) else 0
def oneE (op : Int) : Int := if op = 14 ∨ op = 15 then 0 else 11

def cmpN (op a b : Int) : Int :=
  if op = 6 then truI (a < b) else if op = 7 then truI (a ≤ b) else if op = 8 then truI (b < a) else if op = 9 then truI (b ≤ a)
  else if op = 10 then truI (a = b) else if op = 11 then truI (¬ a = b) else 0

def cmpE (op : Int) : Int := if 6 ≤ op ∧ op ≤ 11 then 0 else 11

end Go.Proofs.YtkbfbcfgjgpfgaaDoor
