/-
  The plain mathematics of layer 7: the bytes of words, the words of bytes. No program is named here.
-/
import Derived.Test.YtgiefkeophobhaaPlain7
import Derived.Test.YtgiefkeophobhaaPlainLaw
namespace Go.Proofs.Ytgiefkeophobhaa
namespace D

/-- With how many bytes both begin. -/
def com : List UInt8 → List UInt8 → Nat
  | x :: a, y :: b => if x = y then com a b + 1 else 0
  | _, _ => 0

theorem com_le : ∀ a b : List UInt8, com a b ≤ a.length ∧ com a b ≤ b.length ∧ a.take (com a b) = b.take (com a b)
  | [], b => by simp [com]
  | _ :: _, [] => by simp [com]
  | x :: a, y :: b => by
    obtain ⟨h1, h2, h3⟩ := com_le a b
    simp only [com]
    split
    · rename_i e
      subst e
      refine ⟨?_, ?_, ?_⟩
      · simpa using h1
      · simpa using h2
      · simpa using h3
    · simp

theorem com_is : ∀ {a b : List UInt8} {n : Nat}, n ≤ a.length → n ≤ b.length → a.take n = b.take n → (∀ x y, a[n]? = some x → b[n]? = some y → x ≠ y) → com a b = n
  | [], b, n, h1, _, _, _ => by simp at h1; simp [com, h1]
  | _ :: _, [], n, _, h2, _, _ => by simp at h2; simp [com, h2]
  | x :: a, y :: b, 0, _, _, _, h => by
    have := h x y rfl rfl
    simp [com, this]
  | x :: a, y :: b, n + 1, h1, h2, h3, h => by
    simp only [List.take_succ_cons, List.cons.injEq] at h3
    obtain ⟨rfl, h3⟩ := h3
    simp only [com, if_true]
    rw [com_is (by simpa using h1) (by simpa using h2) h3 (fun u v hu hv => h u v (by simpa using hu) (by simpa using hv))]

/-- The bytes of a text, as numbers. -/
def nums (x : ByteArray) : List Int := x.data.toList.map fun b => (b.toNat : Int)
def cm (a x : ByteArray) : Nat := com a.data.toList x.data.toList

theorem nums_len (x : ByteArray) : (nums x).length = x.size := by simp [nums]
theorem nums_byt (x : ByteArray) : V.Byt (nums x) := fun c hc => by
  obtain ⟨b, -, rfl⟩ := List.mem_map.1 hc
  have := b.toNat_lt
  omega
theorem cm_le (a x : ByteArray) : cm a x ≤ a.size ∧ cm a x ≤ x.size := by
  have := com_le a.data.toList x.data.toList
  simp only [Array.length_toList] at this
  exact ⟨this.1, this.2.1⟩

/-- Word by word. -/
def enc1 (a x : ByteArray) : List Int := V.put (cm a x) ++ (V.put ((x.size : Int) - (cm a x : Int)) ++ (nums x).drop (cm a x))
def enc : ByteArray → List ByteArray → List Int
  | _, [] => []
  | a, x :: l => enc1 a x ++ enc x l
def pack (l : List ByteArray) : List Int := if may l = true then V.put (l.length : Int) ++ enc ⟨#[]⟩ l else []

/-- What stands of a word: the beginning of the one ahead, and its own bytes. -/
def mk (a : ByteArray) (s : Nat) (zs : List Int) : ByteArray := a.extract 0 s ++ strOfNums zs

theorem data_eq {x y : ByteArray} (h : x.data.toList = y.data.toList) : x = y := ByteArray.ext (Array.ext' h)

theorem bytesOf_nums (l : List UInt8) : Lib.bytesOf (l.map fun b => (b.toNat : Int)) = l := by
  induction l with
  | nil => rfl
  | cons b l ih =>
    simp only [Lib.bytesOf, List.map_cons] at ih ⊢
    rw [ih]
    simp

theorem mk_data (a : ByteArray) (s : Nat) (zs : List Int) : (mk a s zs).data.toList = a.data.toList.take s ++ Lib.bytesOf zs := by
  unfold mk
  rw [ByteArray.data_append, Array.toList_append, ByteArray.data_extract, Array.toList_extract, ← Lib.toList_data (strOfNums zs), Lib.strOfNums_toList]
  simp

theorem mk_size (a : ByteArray) {s : Nat} (zs : List Int) (h : s ≤ a.size) : (mk a s zs).size = s + zs.length := by
  have e1 : (mk a s zs).size = (mk a s zs).data.toList.length := by simp
  have e2 : a.data.toList.length = a.size := by simp
  have e3 : (Lib.bytesOf zs).length = zs.length := by simp [Lib.bytesOf]
  rw [e1, mk_data, List.length_append, List.length_take, e2, e3]
  omega

theorem mk_back (a x : ByteArray) : mk a (cm a x) ((nums x).drop (cm a x)) = x := by
  apply data_eq
  rw [mk_data]
  have h := (com_le a.data.toList x.data.toList).2.2
  have e : (nums x).drop (cm a x) = (x.data.toList.drop (cm a x)).map fun b => (b.toNat : Int) := by simp [nums]
  rw [e, bytesOf_nums]
  unfold cm
  rw [h, List.take_append_drop]

/-- The words that n times a number, a number and bytes would have. -/
def dec : Nat → ByteArray → List Int → Option (List ByteArray)
  | 0, _, _ => some []
  | n + 1, a, l =>
    match V.getH 5 l with
    | none => none
    | some (s, k) =>
      match V.getH 5 (l.drop k) with
      | none => none
      | some (m, j) =>
        if (a.size : Int) < s ∨ (((l.drop k).drop j).length : Int) < m then none
        else (dec n (mk a s.toNat (((l.drop k).drop j).take m.toNat)) (((l.drop k).drop j).drop m.toNat)).map (mk a s.toNat (((l.drop k).drop j).take m.toNat) :: ·)

theorem getH_app : ∀ (f : Nat) (l t : List Int) (r : Int × Nat), V.getH f l = some r → V.getH f (l ++ t) = some r ∧ r.2 ≤ l.length
  | 0, l, t, r, h => by simp [V.getH] at h
  | f + 1, [], t, r, h => by simp [V.getH] at h
  | f + 1, c :: l, t, r, h => by
    rw [V.getH] at h
    rw [List.cons_append, V.getH]
    by_cases hc : c < 128
    · rw [if_pos hc] at h ⊢
      cases h
      exact ⟨rfl, by simp⟩
    · rw [if_neg hc] at h ⊢
      cases hg : V.getH f l with
      | none => rw [hg] at h; simp at h
      | some q =>
        obtain ⟨h1, h2⟩ := getH_app f l t q hg
        rw [hg] at h
        rw [h1]
        refine ⟨h, ?_⟩
        obtain ⟨n, k⟩ := q
        simp only at h
        split at h
        · cases h
        · cases h
          simpa using h2

/-- More behind changes nothing. -/
theorem dec_app : ∀ (n : Nat) (a : ByteArray) (l t : List Int) (r : List ByteArray), V.Byt l → dec n a l = some r → dec n a (l ++ t) = some r
  | 0, _, _, _, _, _, h => h
  | n + 1, a, l, t, r, hb, h => by
    rw [dec] at h ⊢
    cases h1 : V.getH 5 l with
    | none => rw [h1] at h; cases h
    | some q =>
      obtain ⟨s, k⟩ := q
      obtain ⟨g1, hk⟩ := getH_app 5 l t _ h1
      simp only at hk
      rw [h1] at h
      rw [g1]
      simp only at h ⊢
      rw [List.drop_append_of_le_length hk]
      cases h2 : V.getH 5 (l.drop k) with
      | none => rw [h2] at h; cases h
      | some q =>
        obtain ⟨m, j⟩ := q
        obtain ⟨g2, hj⟩ := getH_app 5 (l.drop k) t _ h2
        simp only at hj
        have hm := (V.put_getH (hb.drop k) h2).2.1
        rw [h2] at h
        rw [g2]
        simp only at h ⊢
        rw [List.drop_append_of_le_length hj]
        by_cases hc : (a.size : Int) < s ∨ (((l.drop k).drop j).length : Int) < m
        · rw [if_pos hc] at h
          cases h
        · rw [if_neg hc] at h
          have hl : m.toNat ≤ ((l.drop k).drop j).length := by omega
          rw [if_neg (by rw [List.length_append]; omega), List.take_append_of_le_length hl, List.drop_append_of_le_length hl]
          cases hd : dec n (mk a s.toNat (((l.drop k).drop j).take m.toNat)) (((l.drop k).drop j).drop m.toNat) with
          | none => rw [hd] at h; cases h
          | some u =>
            rw [hd] at h
            rw [dec_app n _ _ t u (((hb.drop k).drop j).drop _) hd]
            exact h

theorem enc1_dec (a x : ByteArray) (hx : x.size ≤ 32) (n : Nat) (t : List Int) : dec (n + 1) a (enc1 a x ++ t) = (dec n x t).map (x :: ·) := by
  obtain ⟨h1, h2⟩ := cm_le a x
  unfold enc1
  rw [dec]
  have e1 := V.getH_put (cm a x : Int) (V.put ((x.size : Int) - (cm a x : Int)) ++ ((nums x).drop (cm a x) ++ t)) (by omega) (by unfold V.Top; omega)
  have e2 := V.getH_put ((x.size : Int) - (cm a x : Int)) ((nums x).drop (cm a x) ++ t) (by omega) (by unfold V.Top; omega)
  simp only [List.append_assoc]
  rw [e1]
  simp only [List.drop_left]
  rw [e2]
  simp only [List.drop_left]
  have hl : ((nums x).drop (cm a x)).length = ((x.size : Int) - (cm a x : Int)).toNat := by rw [List.length_drop, nums_len]; omega
  rw [if_neg (by rw [List.length_append]; omega)]
  rw [← hl, List.take_left, List.drop_left, Int.toNat_natCast, mk_back]

theorem enc_dec : ∀ (l : List ByteArray) (a : ByteArray) (t : List Int), (∀ x ∈ l, x.size ≤ 32) → dec l.length a (enc a l ++ t) = some l
  | [], _, _, _ => rfl
  | x :: l, a, t, h => by
    rw [enc, List.length_cons, List.append_assoc, enc1_dec a x (h x (List.mem_cons_self ..)), enc_dec l x t fun y hy => h y (List.mem_cons_of_mem _ hy)]
    rfl

/-- What Unpack tells. -/
def unR (b : List Int) : List ByteArray × Int :=
  match V.getH 5 b with
  | none => ([], 5)
  | some (n, k) =>
    if 200 < n then ([], 5) else
    match dec n.toNat ⟨#[]⟩ (b.drop k) with
    | none => ([], 5)
    | some l => if pack l = b then (l, 0) else ([], 5)

theorem pack_may {l : List ByteArray} {b : List Int} (h : pack l = b) (hb : b ≠ []) : may l = true := by
  unfold pack at h
  split at h
  · assumption
  · exact absurd h.symm hb

theorem pack_in {l : List ByteArray} (h : may l = true) : pack l = V.put (l.length : Int) ++ enc ⟨#[]⟩ l := if_pos h

theorem getH_ne {b : List Int} {r : Int × Nat} (h : V.getH 5 b = some r) : b ≠ [] := by
  rintro rfl
  simp [V.getH] at h

theorem unR_cases (b : List Int) : unR b = ([], 5) ∨ ∃ l, unR b = (l, 0) ∧ may l = true ∧ pack l = b := by
  unfold unR
  cases h : V.getH 5 b with
  | none => exact .inl rfl
  | some r =>
    obtain ⟨n, k⟩ := r
    simp only
    split
    · exact .inl rfl
    · cases hd : dec n.toNat ⟨#[]⟩ (b.drop k) with
      | none => exact .inl rfl
      | some l =>
        simp only
        split
        · rename_i hp
          exact .inr ⟨l, rfl, pack_may hp (getH_ne h), hp⟩
        · exact .inl rfl

theorem unR_pack {l : List ByteArray} (h : may l = true) : unR (pack l) = (l, 0) := by
  have hl := may_len h
  have hg := V.getH_put (l.length : Int) (enc ⟨#[]⟩ l) (by omega) (by unfold V.Top; omega)
  have hd := enc_dec l ⟨#[]⟩ [] fun x hx => (may_size h x hx).2
  rw [List.append_nil] at hd
  unfold unR
  rw [pack_in h, hg]
  simp only
  rw [if_neg (by omega), List.drop_left, Int.toNat_natCast, hd]
  simp only
  rw [if_pos (pack_in h)]

theorem unR_cut {l : List ByteArray} (h : may l = true) {k : Nat} (hk : k < (pack l).length) (hb : V.Byt (pack l)) : unR ((pack l).take k) = ([], 5) := by
  rcases unR_cases ((pack l).take k) with h1 | ⟨m, -, hm, hp⟩
  · exact h1
  · exfalso
    have e1 := unR_pack hm
    rw [hp] at e1
    have hbk := hb.take k
    unfold unR at e1
    cases hg : V.getH 5 ((pack l).take k) with
    | none => rw [hg] at e1; cases e1
    | some r =>
      obtain ⟨n, j⟩ := r
      rw [hg] at e1
      simp only at e1
      split at e1
      · cases e1
      · rename_i hn
        cases hd : dec n.toNat ⟨#[]⟩ (((pack l).take k).drop j) with
        | none => rw [hd] at e1; cases e1
        | some u =>
          rw [hd] at e1
          simp only at e1
          split at e1
          · simp at e1
            subst e1
            obtain ⟨g1, hj⟩ := getH_app 5 _ ((pack l).drop k) _ hg
            simp only at hj
            have d1 := dec_app _ _ _ ((pack l).drop k) _ (hbk.drop j) hd
            rw [← List.drop_append_of_le_length hj, List.take_append_drop] at d1
            rw [List.take_append_drop] at g1
            have e2 := unR_pack h
            unfold unR at e2
            rw [g1] at e2
            simp only at e2
            rw [if_neg hn, d1] at e2
            simp only at e2
            split at e2
            · rename_i hq
              have := congrArg List.length (hq.symm.trans hp)
              simp at this
              omega
            · cases e2
          · cases e1

theorem put_byt' {n : Int} (h0 : 0 ≤ n) (h1 : n ≤ 1000) : V.Byt (V.put n) := V.put_byt n h0 (by unfold V.Top; omega)

theorem enc1_byt (a x : ByteArray) (hx : x.size ≤ 32) : V.Byt (enc1 a x) := by
  obtain ⟨h1, h2⟩ := cm_le a x
  exact (put_byt' (by omega) (by omega)).app ((put_byt' (by omega) (by omega)).app ((nums_byt x).drop _))

theorem enc_byt : ∀ (l : List ByteArray) (a : ByteArray), (∀ x ∈ l, x.size ≤ 32) → V.Byt (enc a l)
  | [], _, _ => fun c hc => by cases hc
  | x :: l, a, h => (enc1_byt a x (h x (List.mem_cons_self ..))).app (enc_byt l x fun y hy => h y (List.mem_cons_of_mem _ hy))

theorem pack_byt (l : List ByteArray) : V.Byt (pack l) := by
  unfold pack
  split
  · rename_i h
    exact (put_byt' (by omega) (by have := may_len h; omega)).app (enc_byt l _ fun x hx => (may_size h x hx).2)
  · exact fun c hc => by cases hc

/-! ### How many bytes -/

/-- The words' bytes, and two for each. -/
def wide (l : List ByteArray) : Nat := (l.map fun x => x.size + 2).sum

theorem put_one {n : Int} (h1 : n < 128) : (V.put n).length = 1 := by
  unfold V.put V.putF
  rw [if_neg (by omega)]
  rfl
theorem put_two {n : Int} (h1 : n < 16384) : (V.put n).length ≤ 2 := by
  by_cases h : n < 128
  · rw [put_one h]; omega
  · unfold V.put V.putF
    rw [if_pos (by omega), V.putF, if_neg (by omega)]
    simp

theorem enc1_len (a x : ByteArray) (hx : x.size ≤ 32) : 2 ≤ (enc1 a x).length ∧ (enc1 a x).length ≤ x.size + 2 := by
  obtain ⟨h1, h2⟩ := cm_le a x
  unfold enc1
  rw [List.length_append, List.length_append, put_one (by omega), put_one (by omega), List.length_drop, nums_len]
  omega

theorem enc_len : ∀ (l : List ByteArray) (a : ByteArray), (∀ x ∈ l, x.size ≤ 32) → 2 * l.length ≤ (enc a l).length ∧ (enc a l).length ≤ wide l
  | [], _, _ => by simp [enc, wide]
  | x :: l, a, h => by
    have h1 := enc1_len a x (h x (List.mem_cons_self ..))
    have h2 := enc_len l x fun y hy => h y (List.mem_cons_of_mem _ hy)
    simp only [enc, wide, List.length_append, List.length_cons, List.map_cons, List.sum_cons] at *
    omega

theorem wide_le : ∀ (l : List ByteArray) (n : Nat), (∀ x ∈ l, x.size ≤ n) → wide l ≤ l.length * (n + 2)
  | [], _, _ => by simp [wide]
  | x :: l, n, h => by
    have h1 := h x (List.mem_cons_self ..)
    have h2 := wide_le l n fun y hy => h y (List.mem_cons_of_mem _ hy)
    simp only [wide, List.map_cons, List.sum_cons, List.length_cons, Nat.succ_mul] at *
    omega

theorem pack_len {l : List ByteArray} (h : may l = true) : 1 + 2 * l.length ≤ (pack l).length ∧ (pack l).length ≤ wide l + 2 := by
  have h1 := enc_len l ⟨#[]⟩ fun x hx => (may_size h x hx).2
  have h2 := may_len h
  have h3 := put_two (n := (l.length : Int)) (by omega)
  have h4 := (V.put_len (l.length : Int)).1
  rw [pack_in h, List.length_append]
  omega

theorem pack_small (l : List ByteArray) : (pack l).length ≤ 7000 := by
  unfold pack
  split
  · rename_i h
    have h1 := pack_len h
    rw [pack_in h] at h1
    have h2 := wide_le l 32 fun x hx => (may_size h x hx).2
    have h3 := may_len h
    have h4 : l.length * (32 + 2) ≤ 200 * 34 := Nat.mul_le_mul h3 (by omega)
    omega
  · simp
end D
end Go.Proofs.Ytgiefkeophobhaa
