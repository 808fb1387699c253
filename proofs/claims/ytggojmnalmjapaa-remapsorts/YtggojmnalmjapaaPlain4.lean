/-
  The plain mathematics of layer 4: who lives, how many, whose are no more, those of both; the bytes of a list, and the list of bytes. No program is named here.
-/
import Derived.Test.YtggojmnalmjapaaPlainLaw
namespace Go.Proofs.Ytggojmnalmjapaa.L

def count (l : List Bool) : Nat := l.count true
def less (a b : List Bool) : Bool := decide (a.length = b.length ∧ ∀ i, i < a.length → a.getD i false = true → b.getD i false = true)
def both (a b : List Bool) : List Bool := if a.length = b.length then List.zipWith (· && ·) a b else []
def new (n : Int) : List Bool := if 0 ≤ n ∧ n ≤ 64 then List.replicate n.toNat true else []
def lives (l : List Bool) (i : Int) : Bool := decide (0 ≤ i ∧ i < l.length) && l.getD i.toNat false
def kill (l : List Bool) (i : Int) : List Bool := if lives l i = true then l.set i.toNat false else l

/-- The number whose binary digits, the lowest one first, are l. -/
def val : List Bool → Int
  | [] => 0
  | b :: r => (if b = true then 1 else 0) + 2 * val r
def width (n : Nat) : Nat := (n + 7) / 8
def byteAt (l : List Bool) (j : Nat) : Int := val ((l.drop (8 * j)).take 8)
def bytes (l : List Bool) : List Int := (List.range (width l.length)).map (byteAt l)
def pack (l : List Bool) : List Int := if l.length ≤ 64 then (l.length : Int) :: bytes l else []

def bit (c : Int) (k : Nat) : Bool := decide (c / 2 ^ k % 2 = 1)
def unl (b : List Int) (n : Nat) : List Bool := (List.range n).map fun i => bit (b.getD (1 + i / 8) 0) (i % 8)
def unpack (b : List Int) : List Bool × Int :=
  match V.get b 0 with
  | (n, _, e) => if e ≠ 0 ∨ 64 < n then ([], 5) else if pack (unl b n.toNat) = b then (unl b n.toNat, 0) else ([], 5)

theorem val_bd : ∀ (l : List Bool), 0 ≤ val l ∧ val l < 2 ^ l.length
  | [] => by simp [val]
  | b :: r => by
    have ih := val_bd r
    have e : (2 : Int) ^ (b :: r).length = 2 ^ r.length * 2 := by simp [Int.pow_succ]
    rw [e]
    unfold val
    split <;> omega

theorem val_snoc : ∀ (l : List Bool) (b : Bool), val (l ++ [b]) = val l + (if b = true then 2 ^ l.length else 0)
  | [], b => by cases b <;> simp [val]
  | c :: r, b => by
    have ih := val_snoc r b
    simp only [List.cons_append, val, ih, List.length_cons]
    have e : (2 : Int) ^ (r.length + 1) = 2 ^ r.length * 2 := Int.pow_succ ..
    rw [e]
    cases b <;> simp <;> omega

theorem bit_val : ∀ (l : List Bool) (k : Nat), bit (val l) k = l.getD k false
  | [], k => by simp [bit, val, List.getD]
  | b :: r, 0 => by
    cases b <;> simp [bit, val] <;> omega
  | b :: r, k + 1 => by
    have ih := bit_val r k
    simp only [List.getD_cons_succ, ← ih, bit, val]
    have e : (2 : Int) ^ (k + 1) = 2 * 2 ^ k := by rw [Int.pow_succ, Int.mul_comm]
    have h2 : ((if b = true then (1 : Int) else 0) + 2 * val r) / 2 = val r := by split <;> omega
    have h3 : ((if b = true then (1 : Int) else 0) + 2 * val r) / 2 ^ (k + 1) = val r / 2 ^ k := by rw [e, ← Int.ediv_ediv_of_nonneg (by omega), h2]
    simp only [h3]

theorem byte_bd (l : List Bool) (j : Nat) : 0 ≤ byteAt l j ∧ byteAt l j ≤ 255 := by
  have h := val_bd ((l.drop (8 * j)).take 8)
  have hl : ((l.drop (8 * j)).take 8).length ≤ 8 := by simp; omega
  have : (2 : Int) ^ ((l.drop (8 * j)).take 8).length ≤ 2 ^ 8 := by
    have := Nat.pow_le_pow_right (n := 2) (by omega) hl
    exact_mod_cast this
  unfold byteAt
  omega

theorem bytes_len (l : List Bool) : (bytes l).length = width l.length := by simp [bytes]

theorem bytes_byt (l : List Bool) : V.Byt (bytes l) := fun c hc => by
  obtain ⟨j, _, rfl⟩ := List.mem_map.1 hc
  exact byte_bd l j

theorem pack_byt (l : List Bool) : V.Byt (pack l) := by
  unfold pack
  split
  · intro c hc
    rcases List.mem_cons.1 hc with rfl | h
    · omega
    · exact bytes_byt l c h
  · intro c hc; simp at hc

theorem pack_len (l : List Bool) : (pack l).length ≤ 9 := by
  unfold pack
  split
  · simp [bytes_len, width]; omega
  · simp

theorem put_small {n : Int} (h : n < 128) : V.put n = [n] := by
  unfold V.put V.putF
  rw [if_neg (by omega)]
theorem putA_small {n : Int} (h0 : 0 ≤ n) (h : n ≤ 64) : V.putA n = [n] := by
  rw [V.putA_in ⟨h0, by omega⟩, put_small (by omega)]

/-- What is read of few: the first byte. -/
theorem get_few {b : List Int} {n p e : Int} (hb : V.Byt b) (h : V.get b 0 = (n, p, e)) (he : e = 0) (hn : n ≤ 64) : 0 ≤ n ∧ p = 1 ∧ ∃ r, b = n :: r := by
  subst he
  cases b with
  | nil => simp [V.get, V.getH] at h
  | cons c r =>
    have h0 : V.get (c :: r) 0 = match V.getH 5 (c :: r) with | none => (0, 0, 5) | some (n, k) => (n, 0 + (k : Int), 0) := by
      unfold V.get
      rw [if_neg (by simp; omega)]
      rfl
    rw [h0] at h
    cases hg : V.getH 5 (c :: r) with
    | none => rw [hg] at h; simp at h
    | some q =>
      obtain ⟨m, k⟩ := q
      rw [hg] at h
      simp only [Prod.mk.injEq] at h
      obtain ⟨rfl, rfl, _⟩ := h
      obtain ⟨g1, g2, g3, g4, g5⟩ := V.put_getH hb hg
      rw [put_small (by omega)] at g1
      match k, g1, g5 with
      | 0, g1, _ => simp at g1
      | 1, g1, _ => simp at g1; exact ⟨g2, by simp, r, by rw [g1]⟩
      | k + 2, g1, g5 =>
        have h9 := congrArg List.length g1
        simp only [List.length_take, List.length_cons, List.length_nil] at h9 g5
        omega

theorem getH_one {c : Int} {r : List Int} (h : c ≤ 64) : V.get (c :: r) 0 = (c, 1, 0) := by
  have h0 : V.get (c :: r) 0 = match V.getH 5 (c :: r) with | none => (0, 0, 5) | some (n, k) => (n, 0 + (k : Int), 0) := by
    unfold V.get
    rw [if_neg (by simp; omega)]
    rfl
  rw [h0, show V.getH 5 (c :: r) = some (c, 1) by unfold V.getH; rw [if_pos (by omega)]]
  rfl

theorem unl_len (b : List Int) (n : Nat) : (unl b n).length = n := by simp [unl]

/-- What is packed is unpacked as it. -/
theorem unl_pack (l : List Bool) (h : l.length ≤ 64) : unl (pack l) l.length = l := by
  apply List.ext_getElem
  · simp [unl]
  · intro i h1 h2
    have hw : i / 8 < width l.length := by unfold width; omega
    have e : (pack l).getD (1 + i / 8) 0 = byteAt l (i / 8) := by
      unfold pack bytes
      rw [if_pos h, Nat.add_comm, List.getD_cons_succ]
      simp [List.getD, hw]
    have h3 : (unl (pack l) l.length)[i] = bit ((pack l).getD (1 + i / 8) 0) (i % 8) := by simp [unl]
    rw [h3, e, byteAt, bit_val]
    have h8 : i % 8 < 8 := Nat.mod_lt _ (by omega)
    have hi : 8 * (i / 8) + i % 8 = i := Nat.div_add_mod i 8
    simp [List.getD, h8, hi, h2]

theorem unpack_pack (l : List Bool) (h : l.length ≤ 64) : unpack (pack l) = (l, 0) := by
  have hg : V.get (pack l) 0 = ((l.length : Int), 1, 0) := by
    unfold pack
    rw [if_pos h]
    exact getH_one (by omega)
  unfold unpack
  rw [hg]
  simp only
  rw [if_neg (by omega), Int.toNat_natCast, unl_pack l h, if_pos rfl]

theorem unpack_ok {b : List Int} {l : List Bool} (h : unpack b = (l, 0)) : pack l = b := by
  unfold unpack at h
  cases hg : V.get b 0 with
  | mk n q =>
    obtain ⟨p, e⟩ := q
    rw [hg] at h
    simp only at h
    split at h
    · simp at h
    · split at h
      · simp only [Prod.mk.injEq, and_true] at h
        rw [← h]; assumption
      · simp at h

theorem unpack_no {b : List Int} {l : List Bool} {e : Int} (h : unpack b = (l, e)) (he : e ≠ 0) : l = [] ∧ e = 5 := by
  unfold unpack at h
  cases hg : V.get b 0 with
  | mk n q =>
    obtain ⟨p, e'⟩ := q
    rw [hg] at h
    simp only at h
    split at h
    · simp only [Prod.mk.injEq] at h; exact ⟨h.1.symm, h.2.symm⟩
    · split at h
      · simp only [Prod.mk.injEq] at h; omega
      · simp only [Prod.mk.injEq] at h; exact ⟨h.1.symm, h.2.symm⟩
end Go.Proofs.Ytggojmnalmjapaa.L
