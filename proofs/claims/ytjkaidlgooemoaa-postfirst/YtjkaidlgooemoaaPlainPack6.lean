/-
  The plain mathematics of layer 6, second part: the bytes of postings, the postings of bytes. No program is named here.
-/
import Derived.Test.YtjkaidlgooemoaaPlain6
namespace Go.Proofs.Ytjkaidlgooemoaa.Q

/-! ### The bytes of postings -/

def body : Int → List Pt → List Int
  | _, [] => []
  | m, p :: r => V.putA (p.d - m - 1) ++ (V.riseA p.a ++ body p.d r)

/-- The last document, or m. -/
def lastD : Int → List Pt → Int
  | m, [] => m
  | _, p :: r => lastD p.d r

def head (m : Int) (g : List Pt) : List Int := V.putA (lastD m g) ++ V.putA ((body m g).length : Int)

def blks : Nat → Int → List Pt → List Int
  | 0, _, _ => []
  | _ + 1, _, [] => []
  | f + 1, m, p :: r => head m ((p :: r).take 4) ++ (body m ((p :: r).take 4) ++ blks f (lastD m ((p :: r).take 4)) ((p :: r).drop 4))

def bytes (L : List Pt) : List Int := V.putA (L.length : Int) ++ blks 17 (-1) L
def packA (L : List Pt) : List Int := if may L then bytes L else []
def packE (L : List Pt) : Int := if may L then 0 else 1

theorem blks_nil (f : Nat) (m : Int) : blks f m [] = [] := by cases f <;> rfl
theorem blks_step {f : Nat} {m : Int} {L : List Pt} (h : L ≠ []) : blks (f + 1) m L = head m (L.take 4) ++ (body m (L.take 4) ++ blks f (lastD m (L.take 4)) (L.drop 4)) := by
  cases L with
  | nil => exact absurd rfl h
  | cons p r => rfl

theorem riseA_short {l : List Int} (h : places l = true) : (V.riseA l).length ≤ 605 := by
  have h1 := places_le h
  have := V.riseA_len (l := l)
  omega
theorem body_len : ∀ {g : List Pt} {m : Int}, (∀ p ∈ g, places p.a = true) → (body m g).length ≤ 610 * g.length
  | [], _, _ => by simp [body]
  | p :: r, m, h => by
    have ih := body_len (g := r) (m := p.d) (fun q hq => h q (List.mem_cons_of_mem _ hq))
    have h1 := V.putA_len (p.d - m - 1)
    have h2 := riseA_short (h p (List.mem_cons_self ..))
    simp only [body, List.length_append, List.length_cons]
    omega
theorem body_byt : ∀ (g : List Pt) (m : Int), V.Byt (body m g)
  | [], _ => by intro c hc; simp [body] at hc
  | p :: r, m => (V.putA_byt _).app ((V.riseA_byt _).app (body_byt r p.d))
theorem head_byt (m : Int) (g : List Pt) : V.Byt (head m g) := (V.putA_byt _).app (V.putA_byt _)
theorem blks_byt : ∀ (f : Nat) (m : Int) (L : List Pt), V.Byt (blks f m L)
  | 0, _, _ => by intro c hc; simp [blks] at hc
  | f + 1, m, [] => by intro c hc; simp [blks] at hc
  | f + 1, m, p :: r => (head_byt _ _).app ((body_byt _ _).app (blks_byt f _ _))
theorem bytes_byt (L : List Pt) : V.Byt (bytes L) := (V.putA_byt _).app (blks_byt _ _ _)

theorem head_len (m : Int) (g : List Pt) : (head m g).length ≤ 10 := by
  have h1 := V.putA_len (lastD m g)
  have h2 := V.putA_len ((body m g).length : Int)
  simp only [head, List.length_append]
  omega
theorem blks_len : ∀ (f : Nat) (m : Int) (L : List Pt), (∀ p ∈ L, places p.a = true) → (blks f m L).length ≤ f * 2450
  | 0, _, _, _ => by simp [blks]
  | f + 1, m, [], _ => by simp [blks]
  | f + 1, m, p :: r, h => by
    have ih := blks_len f (lastD m ((p :: r).take 4)) ((p :: r).drop 4) (fun q hq => h q (List.mem_of_mem_drop hq))
    have h1 := head_len m ((p :: r).take 4)
    have h2 := body_len (g := (p :: r).take 4) (m := m) (fun q hq => h q (List.mem_of_mem_take hq))
    have h3 : ((p :: r).take 4).length ≤ 4 := List.length_take_le _ _
    rw [blks_step (by simp)]
    simp only [List.length_append]
    omega
theorem bytes_len {L : List Pt} (h : may L = true) : (bytes L).length ≤ 50000 := by
  have h1 := blks_len 17 (-1) L (fun p hp => (may_all h p hp).2)
  have h2 := V.putA_len (L.length : Int)
  simp only [bytes, List.length_append]
  omega

/-! ### The postings of bytes, block by block -/

def postN : Nat → Int → List Int → Nat → Option (List Pt × Nat)
  | 0, _, _, p => some ([], p)
  | c + 1, m, q, p =>
    match V.getH 5 (q.drop p) with
    | none => none
    | some (s, k) =>
      match V.readP q (p + k) with
      | none => none
      | some (r, p') =>
        match postN c (m + (s + 1)) q p' with
        | none => none
        | some (L, e) => some (⟨m + (s + 1), r⟩ :: L, e)

def blkP (n : Nat) (m : Int) (l : List Int) (p : Nat) : Option (List Pt × Nat) :=
  match V.getH 5 (l.drop p) with
  | none => none
  | some (last, k1) =>
    match V.getH 5 (l.drop (p + k1)) with
    | none => none
    | some (size, k2) =>
      if (l.length : Int) - ((p + k1 + k2 : Nat) : Int) < size then none else
      match postN n m ((l.drop (p + k1 + k2)).take size.toNat) 0 with
      | none => none
      | some (g, e) => if e = size.toNat ∧ lastD m g = last then some (g, p + k1 + k2 + size.toNat) else none

def blksP : Nat → Nat → Int → List Int → Nat → Option (List Pt × Nat)
  | 0, _, _, _, p => some ([], p)
  | _ + 1, 0, _, _, p => some ([], p)
  | f + 1, n + 1, m, l, p =>
    match blkP (min 4 (n + 1)) m l p with
    | none => none
    | some (g, p') =>
      match blksP f (n + 1 - 4) (lastD m g) l p' with
      | none => none
      | some (r, e) => some (g ++ r, e)

def unp (l : List Int) : Option (List Pt) :=
  match V.getH 5 l with
  | none => none
  | some (n, k) =>
    if 64 < n then none else
    match blksP 17 n.toNat (-1) l k with
    | none => none
    | some (L, e) => if e = l.length ∧ may L = true then some L else none

/-- What Unpack answers. -/
def unpA (l : List Int) : List Pt := match unp l with | none => [] | some L => L
def unpE (l : List Int) : Int := match unp l with | none => 5 | some _ => 0

theorem put_step {m : Int} {p : Pt} {r : List Pt} (hm : -1 ≤ m) (h : mayB (m + 1) (p :: r) = true) : V.putA (p.d - m - 1) = V.put (p.d - m - 1) ∧ 0 ≤ p.d - m - 1 ∧ p.d - m - 1 ≤ V.Top := by
  have h1 := (may_head h).1
  have : 0 ≤ p.d - m - 1 ∧ p.d - m - 1 ≤ 34359738367 := by omega
  exact ⟨V.putA_in this, this.1, this.2⟩
theorem rise_enc {a : List Int} (h : places a = true) : V.riseA a = V.enc (V.nums a) := by
  unfold V.riseA
  rw [if_pos (places_V h)]

theorem postN_enc : ∀ (g : List Pt) (m : Int) (q t : List Int) (p : Nat), -1 ≤ m → mayB (m + 1) g = true → q.drop p = body m g ++ t → postN g.length m q p = some (g, p + (body m g).length)
  | [], m, q, t, p, _, _, _ => by simp [postN, body]
  | x :: r, m, q, t, p, hm, h, hd => by
    obtain ⟨h1, h2, h3⟩ := may_head h
    obtain ⟨e1, e2, e3⟩ := put_step hm h
    rw [body, List.append_assoc, List.append_assoc, e1] at hd
    have hg := V.getH_put (x.d - m - 1) (V.riseA x.a ++ (body x.d r ++ t)) e2 e3
    rw [← hd] at hg
    have hd2 : q.drop (p + (V.put (x.d - m - 1)).length) = V.riseA x.a ++ (body x.d r ++ t) := by rw [← List.drop_drop, hd, List.drop_left]
    have hrd := V.readP_enc (places_V h2) (by rw [rise_enc h2] at hd2; exact hd2)
    rw [← rise_enc h2] at hrd
    have hd3 : q.drop (p + (V.put (x.d - m - 1)).length + (V.riseA x.a).length) = body x.d r ++ t := by rw [← List.drop_drop, hd2, List.drop_left]
    have ih := postN_enc r x.d q t _ (by omega) h3 hd3
    rw [List.length_cons, postN, hg]
    simp only []
    rw [hrd]
    simp only []
    rw [show m + (x.d - m - 1 + 1) = x.d by omega, ih]
    simp only [body, e1, List.length_append, Option.some.injEq, Prod.mk.injEq]
    exact ⟨trivial, by omega⟩

theorem lastD_bd : ∀ {g : List Pt} {m : Int}, mayB (m + 1) g = true → -1 ≤ m → m ≤ 63 → m ≤ lastD m g ∧ lastD m g ≤ 63 ∧ (g ≠ [] → 0 ≤ lastD m g)
  | [], m, _, h1, h2 => ⟨Int.le_refl _, h2, fun h => absurd rfl h⟩
  | p :: r, m, h, h1, h2 => by
    obtain ⟨a1, a2, a3⟩ := may_head h
    obtain ⟨b1, b2, b3⟩ := lastD_bd (g := r) (m := p.d) a3 (by omega) (by omega)
    simp only [lastD]
    exact ⟨by omega, b2, fun _ => by omega⟩

theorem may_app : ∀ {g r : List Pt} {m : Int}, mayB (m + 1) (g ++ r) = true ↔ mayB (m + 1) g = true ∧ mayB (lastD m g + 1) r = true
  | [], r, m => by simp [mayB, lastD]
  | p :: g, r, m => by
    simp only [List.cons_append, mayB, lastD, Bool.and_eq_true, may_app (g := g) (r := r) (m := p.d), and_assoc]

theorem may_take {L : List Pt} {m : Int} (h : mayB (m + 1) L = true) (k : Nat) : mayB (m + 1) (L.take k) = true ∧ mayB (lastD m (L.take k) + 1) (L.drop k) = true := by
  rw [← List.take_append_drop k L, may_app] at h
  exact h

theorem blkP_enc {g : List Pt} {m : Int} {l t : List Int} {p : Nat} (hm : -1 ≤ m) (hm2 : m ≤ 63) (hg0 : g ≠ []) (hg4 : g.length ≤ 4) (h : mayB (m + 1) g = true) (hp : p ≤ l.length) (hd : l.drop p = head m g ++ (body m g ++ t)) :
    blkP g.length m l p = some (g, p + ((head m g).length + (body m g).length)) := by
  obtain ⟨a1, a2, a3⟩ := lastD_bd h hm hm2
  have a4 := a3 hg0
  have hbl := body_len (g := g) (m := m) (fun q hq => (may_all h q hq).2)
  have e1 : V.putA (lastD m g) = V.put (lastD m g) := V.putA_in ⟨a4, by omega⟩
  have e2 : V.putA ((body m g).length : Int) = V.put ((body m g).length : Int) := V.putA_in ⟨by omega, by omega⟩
  have hh : head m g = V.put (lastD m g) ++ V.put ((body m g).length : Int) := by rw [head, e1, e2]
  rw [hh, List.append_assoc] at hd
  have g1 := V.getH_put (lastD m g) (V.put ((body m g).length : Int) ++ (body m g ++ t)) a4 (by unfold V.Top; omega)
  rw [← hd] at g1
  have hd2 : l.drop (p + (V.put (lastD m g)).length) = V.put ((body m g).length : Int) ++ (body m g ++ t) := by rw [← List.drop_drop, hd, List.drop_left]
  have g2 := V.getH_put ((body m g).length : Int) (body m g ++ t) (by omega) (by unfold V.Top; omega)
  rw [← hd2] at g2
  have hd3 : l.drop (p + (V.put (lastD m g)).length + (V.put ((body m g).length : Int)).length) = body m g ++ t := by rw [← List.drop_drop, hd2, List.drop_left]
  have hl := congrArg List.length hd3
  simp only [List.length_drop, List.length_append] at hl
  have hl0 := congrArg List.length hd
  simp only [List.length_drop, List.length_append] at hl0
  have hq := postN_enc g m (body m g) [] 0 hm h (by simp)
  unfold blkP
  rw [g1]
  simp only []
  rw [g2]
  simp only []
  rw [if_neg (by omega), hd3, Int.toNat_natCast, List.take_left, hq]
  simp only [Nat.zero_add, if_true, and_self]
  rw [hh, List.length_append]
  simp only [Option.some.injEq, Prod.mk.injEq, true_and]
  omega

theorem blksP_enc : ∀ (f : Nat) (L : List Pt) (m : Int) (l t : List Int) (p : Nat), L.length ≤ 4 * f → -1 ≤ m → m ≤ 63 → mayB (m + 1) L = true → p ≤ l.length → l.drop p = blks f m L ++ t → blksP f L.length m l p = some (L, p + (blks f m L).length)
  | 0, L, m, l, t, p, hf, _, _, _, _, _ => by
    have : L = [] := List.eq_nil_of_length_eq_zero (by omega)
    subst this
    simp [blksP, blks]
  | f + 1, [], m, l, t, p, _, _, _, _, _, _ => by simp [blksP, blks]
  | f + 1, x :: r, m, l, t, p, hf, hm, hm2, h, hp, hd => by
    obtain ⟨h1, h2⟩ := may_take h 4
    have hne : (x :: r).take 4 ≠ [] := by simp
    obtain ⟨a1, a2, a3⟩ := lastD_bd h1 hm hm2
    rw [blks_step (by simp)] at hd
    rw [List.append_assoc, List.append_assoc] at hd
    have hl0 := congrArg List.length hd
    simp only [List.length_drop, List.length_append] at hl0
    have hb := blkP_enc hm hm2 hne (List.length_take_le _ _) h1 hp hd
    have hlen : ((x :: r).take 4).length = min 4 (r.length + 1) := by rw [List.length_take, List.length_cons]
    have hd2 : l.drop (p + ((head m ((x :: r).take 4)).length + (body m ((x :: r).take 4)).length)) = blks f (lastD m ((x :: r).take 4)) ((x :: r).drop 4) ++ t := by
      rw [← List.drop_drop, ← List.drop_drop, hd, List.drop_left, List.drop_left]
    have hdl : ((x :: r).drop 4).length = r.length + 1 - 4 := by rw [List.length_drop, List.length_cons]
    have ih := blksP_enc f ((x :: r).drop 4) (lastD m ((x :: r).take 4)) l t _ (by rw [hdl]; simp only [List.length_cons] at hf; omega) (by omega) a2 h2 (by omega) hd2
    rw [hdl] at ih
    rw [List.length_cons, blksP, ← hlen, hb]
    simp only []
    rw [ih]
    simp only []
    rw [List.take_append_drop, blks_step (by simp)]
    simp only [List.length_append, Option.some.injEq, Prod.mk.injEq, true_and]
    omega

theorem unp_bytes {L : List Pt} (h : may L = true) : unp (bytes L) = some L := by
  have hl := may_le h
  have e1 : V.putA (L.length : Int) = V.put (L.length : Int) := V.putA_in ⟨by omega, by omega⟩
  have g1 := V.getH_put (L.length : Int) (blks 17 (-1) L) (by omega) (by unfold V.Top; omega)
  have hd : (bytes L).drop (V.put (L.length : Int)).length = blks 17 (-1) L ++ [] := by rw [bytes, e1, List.drop_left, List.append_nil]
  have hb : (bytes L).length = (V.put (L.length : Int)).length + (blks 17 (-1) L).length := by rw [bytes, e1, List.length_append]
  have h2 := blksP_enc 17 L (-1) (bytes L) [] _ (by omega) (by omega) (by omega) (by rw [show (-1 : Int) + 1 = 0 from rfl]; exact h) (by omega) hd
  unfold unp
  have e2 : bytes L = V.put (L.length : Int) ++ blks 17 (-1) L := by rw [bytes, e1]
  rw [← e2] at g1
  rw [g1]
  simp only []
  rw [if_neg (by omega), Int.toNat_natCast, h2]
  simp only []
  rw [if_pos ⟨by omega, h⟩]

/-! ### What is read is written by just these bytes -/

theorem postN_back : ∀ (c : Nat) (m : Int) (q : List Int) (p : Nat) (g : List Pt) (e : Nat), V.Byt q → p ≤ q.length → postN c m q p = some (g, e) → g.length = c ∧ p ≤ e ∧ e ≤ q.length ∧ body m g = (q.drop p).take (e - p)
  | 0, m, q, p, g, e, _, hp, h => by
    simp [postN] at h
    obtain ⟨rfl, rfl⟩ := h
    simp [body, hp]
  | c + 1, m, q, p, g, e, hb, hp, h => by
    rw [postN] at h
    cases hg : V.getH 5 (q.drop p) with
    | none => rw [hg] at h; simp at h
    | some x =>
      obtain ⟨s, k⟩ := x
      rw [hg] at h
      simp only [] at h
      obtain ⟨g1, g2, g3, g4, g5⟩ := V.put_getH (hb.drop p) hg
      simp only [List.length_drop] at g5
      cases hr : V.readP q (p + k) with
      | none => rw [hr] at h; simp at h
      | some y =>
        obtain ⟨r, p'⟩ := y
        rw [hr] at h
        simp only [] at h
        obtain ⟨r1, r2, r3, r4⟩ := V.readP_back hb (by omega) hr
        cases hn : postN c (m + (s + 1)) q p' with
        | none => rw [hn] at h; simp at h
        | some z =>
          obtain ⟨M, e'⟩ := z
          rw [hn] at h
          simp at h
          obtain ⟨rfl, rfl⟩ := h
          obtain ⟨i1, i2, i3, i4⟩ := postN_back c (m + (s + 1)) q p' M e' hb r2 hn
          refine ⟨by simp [i1], by omega, i3, ?_⟩
          have hra : V.riseA r = V.enc (V.nums r) := by unfold V.riseA; rw [if_pos r3]
          simp only [body]
          rw [show m + (s + 1) - m - 1 = s by omega, V.putA_in ⟨g2, by unfold V.Top at g3; omega⟩, g1, hra, r4, i4]
          obtain ⟨d1, rfl⟩ : ∃ d1, p' = p + k + d1 := ⟨p' - (p + k), by omega⟩
          obtain ⟨d2, rfl⟩ : ∃ d2, e' = p + k + d1 + d2 := ⟨e' - (p + k + d1), by omega⟩
          rw [show p + k + d1 - (p + k) = d1 by omega, show p + k + d1 + d2 - (p + k + d1) = d2 by omega, show p + k + d1 + d2 - p = k + (d1 + d2) by omega, ← List.drop_drop, List.take_add, ← List.drop_drop, ← List.drop_drop, List.take_add (i := d1)]

theorem blkP_back {n : Nat} {m : Int} {l : List Int} {p : Nat} {g : List Pt} {e : Nat} (hb : V.Byt l) (h : blkP n m l p = some (g, e)) :
    g.length = n ∧ p ≤ e ∧ e ≤ l.length ∧ head m g ++ body m g = (l.drop p).take (e - p) := by
  unfold blkP at h
  cases h1 : V.getH 5 (l.drop p) with
  | none => rw [h1] at h; simp at h
  | some x =>
    obtain ⟨last, k1⟩ := x
    rw [h1] at h
    simp only [] at h
    obtain ⟨a1, a2, a3, a4, a5⟩ := V.put_getH (hb.drop p) h1
    simp only [List.length_drop] at a5
    cases h2 : V.getH 5 (l.drop (p + k1)) with
    | none => rw [h2] at h; simp at h
    | some y =>
      obtain ⟨size, k2⟩ := y
      rw [h2] at h
      simp only [] at h
      obtain ⟨b1, b2, b3, b4, b5⟩ := V.put_getH (hb.drop (p + k1)) h2
      simp only [List.length_drop] at b5
      split at h
      · simp at h
      · rename_i hsz
        cases h3 : postN n m ((l.drop (p + k1 + k2)).take size.toNat) 0 with
        | none => rw [h3] at h; simp at h
        | some z =>
          obtain ⟨M, e'⟩ := z
          rw [h3] at h
          simp only [] at h
          split at h
          · rename_i hc
            obtain ⟨rfl, hlast⟩ := hc
            simp only [Option.some.injEq, Prod.mk.injEq] at h
            obtain ⟨rfl, rfl⟩ := h
            obtain ⟨c1, c2, c3, c4⟩ := postN_back n m _ 0 M size.toNat ((hb.drop _).take _) (by simp) h3
            have hpl : ((l.drop (p + k1 + k2)).take size.toNat).length = size.toNat := by
              rw [List.length_take, List.length_drop]
              omega
            refine ⟨c1, by omega, by omega, ?_⟩
            simp only [List.drop_zero, Nat.sub_zero, List.take_take, Nat.min_self] at c4
            have hbl : (body m M).length = size.toNat := by rw [c4, hpl]
            unfold V.Top at a3 b3
            rw [head, hlast, hbl, show ((size.toNat : Nat) : Int) = size by omega, V.putA_in ⟨a2, a3⟩, V.putA_in ⟨b2, b3⟩, a1, b1, c4, show p + k1 + k2 + size.toNat - p = k1 + (k2 + size.toNat) by omega, List.append_assoc]
            rw [List.take_add, ← List.drop_drop, List.take_add (i := k2), ← List.drop_drop, ← List.drop_drop]
          · simp at h

theorem blksP_back : ∀ (f n : Nat) (m : Int) (l : List Int) (p : Nat) (L : List Pt) (e : Nat), V.Byt l → p ≤ l.length → n ≤ 4 * f → blksP f n m l p = some (L, e) → L.length = n ∧ p ≤ e ∧ e ≤ l.length ∧ blks f m L = (l.drop p).take (e - p)
  | 0, n, m, l, p, L, e, _, hp, hf, h => by
    simp [blksP] at h
    obtain ⟨rfl, rfl⟩ := h
    simp [blks, hp]
    omega
  | f + 1, 0, m, l, p, L, e, _, hp, _, h => by
    simp [blksP] at h
    obtain ⟨rfl, rfl⟩ := h
    simp [blks, hp]
  | f + 1, n + 1, m, l, p, L, e, hb, hp, hf, h => by
    rw [blksP] at h
    cases h1 : blkP (min 4 (n + 1)) m l p with
    | none => rw [h1] at h; simp at h
    | some x =>
      obtain ⟨g, p'⟩ := x
      rw [h1] at h
      simp only [] at h
      obtain ⟨a1, a2, a3, a4⟩ := blkP_back hb h1
      cases h2 : blksP f (n + 1 - 4) (lastD m g) l p' with
      | none => rw [h2] at h; simp at h
      | some y =>
        obtain ⟨r, e'⟩ := y
        rw [h2] at h
        simp only [Option.some.injEq, Prod.mk.injEq] at h
        obtain ⟨rfl, rfl⟩ := h
        obtain ⟨b1, b2, b3, b4⟩ := blksP_back f (n + 1 - 4) (lastD m g) l p' r e' hb a3 (by omega) h2
        have hg0 : g ≠ [] := by intro e; rw [e] at a1; simp at a1; omega
        have ht : (g ++ r).take 4 = g ∧ (g ++ r).drop 4 = r := by
          rcases Nat.lt_or_ge g.length 4 with h4 | h4
          · have hr : r = [] := List.eq_nil_of_length_eq_zero (by omega)
            subst hr
            rw [List.append_nil]
            exact ⟨List.take_of_length_le (by omega), List.drop_eq_nil_of_le (by omega)⟩
          · have h4' : g.length = 4 := by omega
            rw [← h4', List.take_left, List.drop_left]
            exact ⟨rfl, rfl⟩
        refine ⟨by rw [List.length_append]; omega, by omega, b3, ?_⟩
        rw [blks_step (by simp [hg0]), ht.1, ht.2, ← List.append_assoc, a4, b4]
        obtain ⟨d1, rfl⟩ : ∃ d1, p' = p + d1 := ⟨p' - p, by omega⟩
        obtain ⟨d2, rfl⟩ : ∃ d2, e' = p + d1 + d2 := ⟨e' - (p + d1), by omega⟩
        rw [show p + d1 - p = d1 by omega, show p + d1 + d2 - (p + d1) = d2 by omega, show p + d1 + d2 - p = d1 + d2 by omega, List.take_add, ← List.drop_drop]

theorem bytes_unp {l : List Int} {L : List Pt} (hb : V.Byt l) (h : unp l = some L) : may L = true ∧ bytes L = l := by
  unfold unp at h
  cases h1 : V.getH 5 l with
  | none => rw [h1] at h; simp at h
  | some x =>
    obtain ⟨n, k⟩ := x
    rw [h1] at h
    simp only [] at h
    obtain ⟨a1, a2, a3, a4, a5⟩ := V.put_getH hb h1
    split at h
    · simp at h
    · rename_i hn
      cases h2 : blksP 17 n.toNat (-1) l k with
      | none => rw [h2] at h; simp at h
      | some y =>
        obtain ⟨M, e⟩ := y
        rw [h2] at h
        simp only [] at h
        split at h
        · rename_i hc
          obtain ⟨rfl, hmay⟩ := hc
          simp only [Option.some.injEq] at h
          subst h
          obtain ⟨b1, b2, b3, b4⟩ := blksP_back 17 n.toNat (-1) l k M l.length hb a5 (by omega) h2
          refine ⟨hmay, ?_⟩
          rw [bytes, b1, show ((n.toNat : Nat) : Int) = n by omega, V.putA_in ⟨a2, by omega⟩, a1, b4, List.take_of_length_le (i := l.length - k) (by simp), List.take_append_drop]
        · simp at h

end Go.Proofs.Ytjkaidlgooemoaa.Q
