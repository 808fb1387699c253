/-
  What is done, over plain lists. No program is named here.
-/
import Derived.Test.YtnhhmohicjgpgaaCut
namespace Go.Proofs.Ytnhhmohicjgpgaa

def K.write (cap : Int) (L : List Pf) (A : ByteArray) (z : List Int) : List Pf × Int :=
  match K.find L A with
  | some _ => ([], 3)
  | none => if L.length = 64 ∨ cap < (K.sum L : Int) + z.length then ([], 4) else (K.with L ⟨A, z, false⟩, 0)
def K.sync (L : List Pf) (A : ByteArray) : List Pf × Int :=
  match (K.find L A).bind fun i => L[i]? with
  | none => ([], 2)
  | some f => (K.with (K.without L A) ⟨f.nm, f.da, true⟩, 0)
def K.rename (L : List Pf) (A B : ByteArray) : List Pf × Int :=
  if K.name B = true then match (K.find L A).bind fun i => L[i]? with
    | none => ([], 2)
    | some f => (K.with (K.without (K.without L A) B) ⟨B, f.da, f.su⟩, 0)
  else ([], 1)
def K.drop (L : List Pf) (A : ByteArray) : List Pf × Int :=
  match K.find L A with
  | none => ([], 2)
  | some _ => (K.without L A, 0)
def K.deed (kind : Int) (cap : Int) (L : List Pf) (A B : ByteArray) (z : List Int) : List Pf × Int :=
  if kind = 0 then K.write cap L A z else if kind = 1 then K.sync L A else if kind = 2 then K.rename L A B else K.drop L A
/-- Is that asked which can be done at all? -/
def K.can (kind : Int) (cap : Int) (L : List Pf) (A : ByteArray) : Bool := K.may cap L && K.name A && decide (0 ≤ kind) && decide (kind < 4)
def K.doing (kind : Int) (cap : Int) (L : List Pf) (A B : ByteArray) (z : List Int) : List Pf × Int :=
  if K.can kind cap L A = true then (if (K.deed kind cap L A B z).2 = 0 then ((K.deed kind cap L A B z).1, 0) else (L, (K.deed kind cap L A B z).2)) else (L, 1)

theorem K.find_bind {L : List Pf} {A : ByteArray} {i : Nat} {f : Pf} (h : K.find L A = some i) (hf : L[i]? = some f) : ((K.find L A).bind fun i => L[i]?) = some f := by simp [h, hf]
theorem K.find_bind_none {L : List Pf} {A : ByteArray} (h : K.find L A = none) : ((K.find L A).bind fun i => L[i]?) = none := by simp [h]
end Go.Proofs.Ytnhhmohicjgpgaa
