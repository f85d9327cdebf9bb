/- What the reader of lines answers, in plain words: its words, names, literals, ranks and lines' things. -/
import Derived.Test.YthdlmmikgpkfhaaGreatDoorZ1B
import Derived.Lib.SpaceU
import Derived.Lib.AtoiAll
import Derived.Lib.Strings
import Derived.Lib.IndexMore

namespace Go.Proofs.YthdlmmikgpkfhaaGreatDoor
set_option linter.unusedVariables false
set_option linter.unusedSimpArgs false
open Go Go.RowKit

/-- The reader: the words ahead, and whether it has failed. -/
structure Rd where
  ws : List ByteArray
  bad : Bool
/-- The word ahead, or the empty one. -/
def hdW (ws : List ByteArray) : ByteArray := ws.headD ⟨#[]⟩
def trimT (s p : ByteArray) : ByteArray := ⟨(Lib.trimSuffix s.data.toList p.data.toList).toArray⟩
def litW (x : ByteArray) : Lt := ⟨parsedNeg x, parsedName x⟩
/-- Is the word read as a literal? -/
def litOk (x : ByteArray) : Bool := vn (bare x)
def atoiV (s : ByteArray) : Int := match Lib.atoiAll s.data.toList with
  | .ok v => v
  | .range => Lib.atoiSat s.data.toList
  | _ => 0
def atoiOk (s : ByteArray) : Bool := match Lib.atoiAll s.data.toList with
  | .ok _ => true
  | _ => false
def rdWord (r : Rd) : Rd := ⟨r.ws.tail, r.bad⟩
def rdName (r : Rd) (sg : ByteArray) : ByteArray × Rd := (trimT (hdW r.ws) sg, ⟨r.ws.tail, r.bad || !vn (trimT (hdW r.ws) sg)⟩)
def rdLit (r : Rd) (sg : ByteArray) : Lt × Rd := (litW (trimT (hdW r.ws) sg), ⟨r.ws.tail, r.bad || !litOk (trimT (hdW r.ws) sg)⟩)
def rdRank (r : Rd) (sg : ByteArray) : Int × Rd := (atoiV (trimT (hdW r.ws) sg), ⟨r.ws.tail, r.bad || !(atoiOk (trimT (hdW r.ws) sg) && rankB (atoiV (trimT (hdW r.ws) sg)) true)⟩)
def colT : ByteArray := ⟨#[58]⟩
def comT : ByteArray := ⟨#[44]⟩
def nilT : ByteArray := ⟨#[]⟩

/-- A premise: its kind is read already. -/
def rdPrem1 (k : Int) (r : Rd) : Lt × Rd := rdLit ⟨r.ws, r.bad || !(k != 0)⟩ nilT
def rdPrem2 (k : Int) (r : Rd) : Int × Rd := if k = 2 then rdRank (rdPrem1 k r).2 nilT else (0, (rdPrem1 k r).2)
def rdPrem3 (k : Int) (r : Rd) : ByteArray × Rd := if (rdPrem2 k r).2.ws.length = 0 then (nilT, (rdPrem2 k r).2) else rdName (rdWord (rdPrem2 k r).2) nilT
def rdPrem (k : Int) (r : Rd) : Pm × Rd := (⟨(rdPrem1 k r).1, k, (rdPrem2 k r).1, (rdPrem3 k r).1⟩, (rdPrem3 k r).2)

/-- The first n words as the literals of a body. -/
def rdBody (n : Nat) (r : Rd) : List Lt × Rd := ((r.ws.take n).map (fun x => litW (trimT x comT)), ⟨r.ws.drop n, r.bad || (r.ws.take n).any (fun x => !litOk (trimT x comT))⟩)
def rdRule1 (st : Bool) (r : Rd) : Int × Rd := if st then (0, (rdName r colT).2) else rdRank (rdName r colT).2 colT
def rdRule2 (st : Bool) (r : Rd) : List Lt × Rd := rdBody ((rdRule1 st r).2.ws.length - 2) (rdRule1 st r).2
def rdRule (st : Bool) (r : Rd) : Ru × Rd := (⟨(rdName r colT).1, st, (rdRule1 st r).1, (rdRule2 st r).1, (rdLit (rdWord (rdRule2 st r).2) nilT).1⟩, (rdLit (rdWord (rdRule2 st r).2) nilT).2)

def rdProm1 (r : Rd) : Int × Rd := rdRank (rdName r nilT).2 nilT
def rdProm (r : Rd) : Pr × Rd := (⟨(rdName r nilT).1, (rdProm1 r).1, (rdLit (rdWord (rdProm1 r).2) nilT).1⟩, (rdLit (rdWord (rdProm1 r).2) nilT).2)

/-- The kind that a word stands for. -/
def kindT (s : ByteArray) : Int := if ([97, 120, 105, 111, 109] == s.toList) = true then 1 else if ([112, 114, 101, 109, 105, 115, 101] == s.toList) = true then 2 else if ([97, 115, 115, 117, 109, 101] == s.toList) = true then 3 else 0
def wordsOf (s : ByteArray) : List ByteArray := (Lib.fieldsD s.data.toList).map fun x => ⟨x.toArray⟩
def isStrict (s : ByteArray) : Bool := s.toList == [115, 116, 114, 105, 99, 116]
def isRule (s : ByteArray) : Bool := s.toList == [114, 117, 108, 101]
def isPromote (s : ByteArray) : Bool := s.toList == [112, 114, 111, 109, 111, 116, 101]
def sameB (a b : ByteArray) : Bool := a.toList == b.toList

end Go.Proofs.YthdlmmikgpkfhaaGreatDoor
