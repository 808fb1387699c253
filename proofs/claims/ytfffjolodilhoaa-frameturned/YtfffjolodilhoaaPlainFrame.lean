/-
  The plain mathematics of frames: what is wrapped, and what is opened. No program is named here.
-/
import Derived.Test.YtfffjolodilhoaaCrc
import Derived.Test.YtfffjolodilhoaaPlainLaw
namespace Go.Proofs.Ytfffjolodilhoaa

/-- The four bytes of a sum, the lowest one first. -/
def C.four (s : Nat) : List Int := [(s % 256 : Nat), (s / 256 % 256 : Nat), (s / 65536 % 256 : Nat), (s / 16777216 % 256 : Nat)]

theorem C.four_len (s : Nat) : (C.four s).length = 4 := rfl
theorem C.four_byt (s : Nat) : V.Byt (C.four s) := by
  intro c hc
  simp only [C.four, List.mem_cons, List.not_mem_nil, or_false] at hc
  omega

namespace F

/-- A frame but for its sum. -/
def body (kind : Int) (b : List Int) : List Int := [70, kind] ++ V.put b.length ++ b

def frame (kind : Int) (b : List Int) : List Int := body kind b ++ C.four (C.sum (body kind b))

/-- What Wrap answers. -/
def wrap (kind : Int) (b : List Int) : List Int := if b.length ≤ 65536 then frame kind b else []

theorem body_len (kind : Int) (b : List Int) : (body kind b).length = 2 + (V.put b.length).length + b.length := by simp [body]; omega
theorem frame_len (kind : Int) (b : List Int) : (frame kind b).length = 6 + (V.put b.length).length + b.length := by
  simp only [frame, List.length_append, body_len, C.four_len]; omega
theorem wrap_in {kind : Int} {b : List Int} (h : b.length ≤ 65536) : wrap kind b = frame kind b := if_pos h
theorem wrap_out {kind : Int} {b : List Int} (h : ¬ b.length ≤ 65536) : wrap kind b = [] := if_neg h

theorem body_byt {kind : Int} {b : List Int} (hk : 0 ≤ kind ∧ kind ≤ 255) (hb : V.Byt b) (hl : b.length ≤ 65536) : V.Byt (body kind b) := by
  refine V.Byt.app (V.Byt.app ?_ (V.put_byt _ (by omega) (by unfold V.Top; omega))) hb
  intro c hc
  simp at hc
  omega

theorem frame_byt {kind : Int} {b : List Int} (hk : 0 ≤ kind ∧ kind ≤ 255) (hb : V.Byt b) (hl : b.length ≤ 65536) : V.Byt (frame kind b) :=
  (body_byt hk hb hl).app (C.four_byt _)

/-- What Open answers behind the first two bytes, which are right: n within, from place p on. -/
def rest (l : List Int) (n p : Nat) : List Int × Int :=
  if C.four (C.sum (l.take (p + n))) = l.drop (p + n) then ((l.drop p).take n, 0) else ([], 6)

/-- What Open answers: what is within, and the error. -/
def opened (l : List Int) (kind : Int) : List Int × Int :=
  match l with
  | c0 :: c1 :: r =>
    if c0 = 70 ∧ c1 = kind then
      match V.getH 5 r with
      | none => ([], 5)
      | some (n, k) => if n ≤ 65536 ∧ (l.length : Int) = 2 + k + n + 4 then rest l n.toNat (2 + k) else ([], 5)
    else ([], 5)
  | _ => ([], 5)

theorem opened_short {l : List Int} {kind : Int} (h : l.length < 2) : opened l kind = ([], 5) := by
  match l with
  | [] => rfl
  | [_] => rfl
  | _ :: _ :: _ => simp at h; omega
theorem opened_head {c0 c1 : Int} {r : List Int} {kind : Int} (h : ¬ (c0 = 70 ∧ c1 = kind)) : opened (c0 :: c1 :: r) kind = ([], 5) := by
  simp only [opened]; rw [if_neg h]
theorem opened_none {r : List Int} {kind : Int} (h : V.getH 5 r = none) : opened (70 :: kind :: r) kind = ([], 5) := by
  simp only [opened, and_self, if_true, h]
theorem opened_size {r : List Int} {kind n : Int} {k : Nat} (h : V.getH 5 r = some (n, k)) (hn : ¬ (n ≤ 65536 ∧ ((70 :: kind :: r).length : Int) = 2 + k + n + 4)) : opened (70 :: kind :: r) kind = ([], 5) := by
  simp only [opened, and_self, if_true, h]; rw [if_neg hn]
theorem opened_rest {r : List Int} {kind : Int} {n k : Nat} (h : V.getH 5 r = some ((n : Int), k)) (hn : n ≤ 65536) (hl : (70 :: kind :: r).length = 2 + k + n + 4) : opened (70 :: kind :: r) kind = rest (70 :: kind :: r) n (2 + k) := by
  simp only [opened, and_self, if_true, h]; rw [if_pos ⟨by omega, by omega⟩]; simp

end F
end Go.Proofs.Ytfffjolodilhoaa
