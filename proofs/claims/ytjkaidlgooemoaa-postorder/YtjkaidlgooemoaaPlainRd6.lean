/-
  The plain mathematics of layer 6, third part: reading posting by posting, as the document's own reader does; that no postings' bytes begin other ones'. No program is named here.
-/
import Derived.Test.YtjkaidlgooemoaaPlainPack6
namespace Go.Proofs.Ytjkaidlgooemoaa.Q

/-- Where the first posting of a block stands, behind what is told of the block. -/
def hop (i : Nat) (l : List Int) (p : Nat) : Option Nat :=
  if i % 4 = 0 then
    match V.getH 5 (l.drop p) with
    | none => none
    | some (_, k1) =>
      match V.getH 5 (l.drop (p + k1)) with
      | none => none
      | some (_, k2) => some (p + k1 + k2)
  else some p

def rdN : Nat → Nat → Int → List Int → Nat → Option (List Pt × Nat)
  | 0, _, _, _, p => some ([], p)
  | c + 1, i, m, l, p =>
    if 64 ≤ i then none else
    match hop i l p with
    | none => none
    | some p1 =>
      match V.getH 5 (l.drop p1) with
      | none => none
      | some (s, k) =>
        match V.readP l (p1 + k) with
        | none => none
        | some (r, p2) =>
          match rdN c (i + 1) (m + 1 + s) l p2 with
          | none => none
          | some (L, e) => some (⟨m + 1 + s, r⟩ :: L, e)

def rd (l : List Int) : Option (List Pt × Nat) :=
  match V.getH 5 l with
  | none => none
  | some (n, k) => rdN n.toNat 0 (-1) l k

/-- The bytes, posting by posting. -/
def items : Nat → Int → List Pt → List Int
  | _, _, [] => []
  | i, m, p :: r => (if i % 4 = 0 then head m ((p :: r).take 4) else []) ++ (V.putA (p.d - m - 1) ++ (V.riseA p.a ++ items (i + 1) p.d r))

theorem items_blks : ∀ (f i : Nat) (m : Int) (L : List Pt), i % 4 = 0 → L.length ≤ 4 * f → items i m L = blks f m L
  | 0, i, m, L, _, h => by
    have : L = [] := List.eq_nil_of_length_eq_zero (by omega)
    subst this
    rfl
  | f + 1, i, m, [], _, _ => rfl
  | f + 1, i, m, [a], hi, _ => by simp [items, blks, hi, body, lastD, blks_nil]
  | f + 1, i, m, [a, b], hi, _ => by
    have h1 : ¬ (i + 1) % 4 = 0 := by omega
    simp [items, blks, hi, h1, body, lastD, blks_nil]
  | f + 1, i, m, [a, b, c], hi, _ => by
    have h1 : ¬ (i + 1) % 4 = 0 := by omega
    have h2 : ¬ (i + 1 + 1) % 4 = 0 := by omega
    simp [items, blks, hi, h1, h2, body, lastD, blks_nil]
  | f + 1, i, m, a :: b :: c :: d :: r, hi, h => by
    have h1 : ¬ (i + 1) % 4 = 0 := by omega
    have h2 : ¬ (i + 1 + 1) % 4 = 0 := by omega
    have h3 : ¬ (i + 1 + 1 + 1) % 4 = 0 := by omega
    have ih := items_blks f (i + 1 + 1 + 1 + 1) d.d r (by omega) (by simp only [List.length_cons] at h; omega)
    simp [items, blks, hi, h1, h2, h3, body, lastD, ih]

theorem hop_enc {i : Nat} {m : Int} {g : List Pt} {l t : List Int} {p : Nat} (hm : -1 ≤ m) (hm2 : m ≤ 63) (hg0 : g ≠ []) (h : mayB (m + 1) g = true) (hl : g.length ≤ 4) (hd : l.drop p = (if i % 4 = 0 then head m g else []) ++ t) :
    hop i l p = some (p + (if i % 4 = 0 then head m g else []).length) ∧ l.drop (p + (if i % 4 = 0 then head m g else []).length) = t := by
  refine ⟨?_, by rw [← List.drop_drop, hd, List.drop_left]⟩
  unfold hop
  by_cases h4 : i % 4 = 0
  · rw [if_pos h4] at hd ⊢
    rw [if_pos h4]
    obtain ⟨a1, a2, a3⟩ := lastD_bd h hm hm2
    have a4 := a3 hg0
    have hbl := body_len (g := g) (m := m) (fun q hq => (may_all h q hq).2)
    have e1 : V.putA (lastD m g) = V.put (lastD m g) := V.putA_in ⟨a4, by omega⟩
    have e2 : V.putA ((body m g).length : Int) = V.put ((body m g).length : Int) := V.putA_in ⟨by omega, by omega⟩
    have hh : head m g = V.put (lastD m g) ++ V.put ((body m g).length : Int) := by rw [head, e1, e2]
    rw [hh, List.append_assoc] at hd
    have g1 := V.getH_put (lastD m g) (V.put ((body m g).length : Int) ++ t) a4 (by unfold V.Top; omega)
    rw [← hd] at g1
    have hd2 : l.drop (p + (V.put (lastD m g)).length) = V.put ((body m g).length : Int) ++ t := by rw [← List.drop_drop, hd, List.drop_left]
    have g2 := V.getH_put ((body m g).length : Int) t (by omega) (by unfold V.Top; omega)
    rw [← hd2] at g2
    rw [g1]
    simp only []
    rw [g2]
    simp only [hh, List.length_append, Option.some.injEq]
    omega
  · rw [if_neg h4] at hd ⊢
    rw [if_neg h4]
    simp

theorem rdN_enc : ∀ (L : List Pt) (i : Nat) (m : Int) (l t : List Int) (p : Nat), i + L.length ≤ 64 → -1 ≤ m → m ≤ 63 → mayB (m + 1) L = true → l.drop p = items i m L ++ t → rdN L.length i m l p = some (L, p + (items i m L).length)
  | [], i, m, l, t, p, _, _, _, _, _ => by simp [rdN, items]
  | x :: r, i, m, l, t, p, hi, hm, hm2, h, hd => by
    obtain ⟨h1, h2, h3⟩ := may_head h
    obtain ⟨e1, e2, e3⟩ := put_step hm h
    simp only [List.length_cons] at hi
    rw [items, List.append_assoc, List.append_assoc, List.append_assoc, e1] at hd
    obtain ⟨hop1, hd1⟩ := hop_enc hm hm2 (by simp) (may_take h 4).1 (List.length_take_le _ _) hd
    have hg := V.getH_put (x.d - m - 1) (V.riseA x.a ++ (items (i + 1) x.d r ++ t)) e2 e3
    rw [← hd1] at hg
    have hd2 := congrArg (List.drop (V.put (x.d - m - 1)).length) hd1
    rw [List.drop_left, List.drop_drop] at hd2
    have hrd := V.readP_enc (places_V h2) (by rw [rise_enc h2] at hd2; exact hd2)
    rw [← rise_enc h2] at hrd
    have hd3 := congrArg (List.drop (V.riseA x.a).length) hd2
    rw [List.drop_left, List.drop_drop] at hd3
    have ih := rdN_enc r (i + 1) x.d l t _ (by omega) (by omega) (by omega) h3 hd3
    rw [List.length_cons, rdN, if_neg (by omega), hop1]
    simp only []
    rw [hg]
    simp only []
    rw [hrd]
    simp only []
    rw [show m + 1 + (x.d - m - 1) = x.d by omega, ih]
    simp only [items, e1, List.length_append, Option.some.injEq, Prod.mk.injEq]
    exact ⟨trivial, by omega⟩

theorem rd_bytes {L : List Pt} (h : may L = true) (t : List Int) : rd (bytes L ++ t) = some (L, (bytes L).length) := by
  have hl := may_le h
  have e1 : V.putA (L.length : Int) = V.put (L.length : Int) := V.putA_in ⟨by omega, by omega⟩
  have e2 : bytes L = V.put (L.length : Int) ++ items 0 (-1) L := by rw [bytes, e1, items_blks 17 0 (-1) L rfl (by omega)]
  have g1 := V.getH_put (L.length : Int) (items 0 (-1) L ++ t) (by omega) (by unfold V.Top; omega)
  have hd : (bytes L ++ t).drop (V.put (L.length : Int)).length = items 0 (-1) L ++ t := by rw [e2, List.append_assoc, List.drop_left]
  have h2 := rdN_enc L 0 (-1) (bytes L ++ t) t _ (by omega) (by omega) (by omega) (by rw [show (-1 : Int) + 1 = 0 from rfl]; exact h) hd
  unfold rd
  rw [← List.append_assoc, ← e2] at g1
  rw [g1]
  simp only []
  rw [Int.toNat_natCast, h2, e2, List.length_append]

theorem bytes_begin {L M : List Pt} {t : List Int} (hL : may L = true) (hM : may M = true) (h : bytes L = bytes M ++ t) : t = [] := by
  have h1 := rd_bytes hL []
  have h2 := rd_bytes hM t
  rw [List.append_nil, h, h2] at h1
  simp at h1
  exact h1.2

theorem unp_cut {L : List Pt} {k : Nat} (h : may L = true) (hk : k < (bytes L).length) : unp ((bytes L).take k) = none := by
  cases hu : unp ((bytes L).take k) with
  | none => rfl
  | some M =>
    obtain ⟨h1, h2⟩ := bytes_unp ((bytes_byt L).take k) hu
    have h3 := bytes_begin h h1 (t := (bytes L).drop k) (by rw [h2, List.take_append_drop])
    have := congrArg List.length h3
    simp at this
    omega

theorem unp_more {L : List Pt} {c : Int} (h : may L = true) (hc : 0 ≤ c ∧ c ≤ 255) : unp (bytes L ++ [c]) = none := by
  cases hu : unp (bytes L ++ [c]) with
  | none => rfl
  | some M =>
    obtain ⟨h1, h2⟩ := bytes_unp ((bytes_byt L).app (fun x hx => by simp at hx; subst hx; exact hc)) hu
    have h3 := bytes_begin h1 h (t := [c]) h2
    simp at h3

/-- What the document's own Unpack asks: what is read may be, and has just these bytes. -/
theorem unp_rd {l : List Int} (hb : V.Byt l) : unp l = match rd l with | none => none | some (L, _) => if may L = true ∧ bytes L = l then some L else none := by
  cases hu : unp l with
  | some M =>
    obtain ⟨h1, h2⟩ := bytes_unp hb hu
    have h3 := rd_bytes h1 []
    rw [List.append_nil, h2] at h3
    rw [h3]
    simp [h1, h2]
  | none =>
    cases hr : rd l with
    | none => rfl
    | some x =>
      obtain ⟨L, e⟩ := x
      simp only []
      rw [if_neg]
      rintro ⟨h1, h2⟩
      have := unp_bytes h1
      rw [h2, hu] at this
      simp at this

/-! ### What is sought -/

def seekP (l : List Int) (d : Int) : Pt := match (unpA l)[first (unpA l) d]? with | some p => p | none => ⟨0, []⟩
def seekN (l : List Int) (d : Int) : Int := if first (unpA l) d < (unpA l).length then ((first (unpA l) d / 4 : Nat) : Int) else 0
def seekE (l : List Int) (d : Int) : Int := if unpE l = 0 then (if first (unpA l) d < (unpA l).length then 0 else 2) else 5
end Go.Proofs.Ytjkaidlgooemoaa.Q
