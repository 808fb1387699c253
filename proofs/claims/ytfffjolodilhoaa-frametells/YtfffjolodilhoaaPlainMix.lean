/-
  What follows of the sum, in plain mathematics: three rows laid over one another; a frame of which bytes within four in a row are turned.
-/
import Derived.Test.YtfffjolodilhoaaCrcLin
import Derived.Test.YtfffjolodilhoaaPlainOpen
namespace Go.Proofs.Ytfffjolodilhoaa

theorem C.dig_four (s : Nat) : C.dig 4 s = C.four s := by
  simp only [C.dig, C.four, Nat.div_div_eq_div_mul]

namespace C

/-- Three rows laid over one another, as far as all go. -/
def mix : List Int → List Int → List Int → List Int
  | a :: as, b :: bs, c :: cs => x2 (x2 a b) c :: mix as bs cs
  | _, _, _ => []

theorem mix_len : ∀ (a b c : List Int), a.length ≤ b.length → a.length ≤ c.length → (mix a b c).length = a.length
  | [], _, _, _, _ => by simp [mix]
  | _ :: _, [], _, h, _ => by simp at h
  | _ :: _, _ :: _, [], _, h => by simp at h
  | a :: as, b :: bs, c :: cs, h1, h2 => by
    simp only [List.length_cons] at h1 h2
    simp [mix, mix_len as bs cs (by omega) (by omega)]

theorem mix_byt : ∀ (a b c : List Int), V.Byt a → V.Byt b → V.Byt c → V.Byt (mix a b c)
  | [], _, _, _, _, _ => by intro x hx; simp [mix] at hx
  | _ :: _, [], _, _, _, _ => by intro x hx; simp [mix] at hx
  | _ :: _, _ :: _, [], _, _, _ => by intro x hx; simp [mix] at hx
  | a :: as, b :: bs, c :: cs, h1, h2, h3 => by
    intro x hx
    rcases List.mem_cons.1 hx with h | h
    · rw [h]; exact x2_byt (x2_byt h1.head h2.head) h3.head
    · exact mix_byt as bs cs h1.tail h2.tail h3.tail x h

theorem mix_snoc : ∀ (a b c : List Int) (x y z : Int), a.length = b.length → a.length = c.length → mix (a ++ [x]) (b ++ [y]) (c ++ [z]) = mix a b c ++ [x2 (x2 x y) z]
  | [], [], [], _, _, _, _, _ => rfl
  | [], _ :: _, _, _, _, _, h, _ => by simp at h
  | [], [], _ :: _, _, _, _, _, h => by simp at h
  | _ :: _, [], _, _, _, _, h, _ => by simp at h
  | _ :: _, _ :: _, [], _, _, _, _, h => by simp at h
  | a :: as, b :: bs, c :: cs, x, y, z, h1, h2 => by
    simp only [List.length_cons] at h1 h2
    have ih := mix_snoc as bs cs x y z (by omega) (by omega)
    simp only [List.cons_append, mix, ih]

theorem mix_take {a b c : List Int} {k : Nat} (ha : k < a.length) (hb : k < b.length) (hc : k < c.length) :
    mix (a.take (k + 1)) (b.take (k + 1)) (c.take (k + 1)) = mix (a.take k) (b.take k) (c.take k) ++ [x2 (x2 a[k] b[k]) c[k]] := by
  rw [List.take_succ_eq_append_getElem ha, List.take_succ_eq_append_getElem hb, List.take_succ_eq_append_getElem hc]
  exact mix_snoc _ _ _ _ _ _ (by simp; omega) (by simp; omega)

theorem byte_mix (r s t : Nat) (a b c : Int) : byte (r ^^^ s ^^^ t) (x2 (x2 a b) c) = byte r a ^^^ byte s b ^^^ byte t c := by
  unfold byte x2
  rw [Int.toNat_natCast, Int.toNat_natCast, ← step_xor, ← step_xor]
  congr 1
  apply Nat.eq_of_testBit_eq
  intro i
  simp only [Nat.testBit_xor]
  cases r.testBit i <;> cases s.testBit i <;> cases t.testBit i <;> cases a.toNat.testBit i <;> cases b.toNat.testBit i <;> cases c.toNat.testBit i <;> rfl

theorem fold_mix : ∀ (a b c : List Int) (r s t : Nat), a.length = b.length → a.length = c.length → fold (r ^^^ s ^^^ t) (mix a b c) = fold r a ^^^ fold s b ^^^ fold t c
  | [], [], [], _, _, _, _, _ => rfl
  | [], _ :: _, _, _, _, _, h, _ => by simp at h
  | [], [], _ :: _, _, _, _, _, h => by simp at h
  | _ :: _, [], _, _, _, _, h, _ => by simp at h
  | _ :: _, _ :: _, [], _, _, _, _, h => by simp at h
  | a :: as, b :: bs, c :: cs, r, s, t, h1, h2 => by
    simp only [List.length_cons] at h1 h2
    rw [mix, fold_cons, byte_mix, fold_mix as bs cs _ _ _ (by omega) (by omega)]
    rfl

theorem sum_mix {a b c : List Int} (ha : V.Byt a) (hb : V.Byt b) (hc : V.Byt c) (h1 : a.length = b.length) (h2 : a.length = c.length) : sum (mix a b c) = sum a ^^^ sum b ^^^ sum c := by
  have h := fold_mix a b c 4294967295 4294967295 4294967295 h1 h2
  rw [Nat.xor_self, Nat.zero_xor] at h
  have la := fold_lt a 4294967295 ha (by omega)
  have lb := fold_lt b 4294967295 hb (by omega)
  have lc := fold_lt c 4294967295 hc (by omega)
  have lm := fold_lt (mix a b c) 4294967295 (mix_byt a b c ha hb hc) (by omega)
  unfold sum
  rw [not_xor la, not_xor lb, not_xor lc, not_xor lm, h]
  apply Nat.eq_of_testBit_eq
  intro i
  simp only [Nat.testBit_xor]
  cases Nat.testBit 4294967295 i <;> cases (fold 4294967295 a).testBit i <;> cases (fold 4294967295 b).testBit i <;> cases (fold 4294967295 c).testBit i <;> rfl

end C

namespace F

theorem frame_fold {kind : Int} {b : List Int} (hk : 0 ≤ kind ∧ kind ≤ 255) (hb : V.Byt b) (hl : b.length ≤ 65536) : C.fold 4294967295 (frame kind b) = C.step 32 4294967295 := by
  rw [frame, ← C.dig_four]
  exact C.fold_whole (body_byt hk hb hl)

/-- What a frame has become of which the first i bytes from p on were turned, by a number whose bytes these are. -/
structure Turned (W cur : List Int) (p i acc : Nat) : Prop where
  len : cur.length = W.length
  byt : V.Byt cur
  small : acc < 256 ^ i
  fold : C.fold 4294967295 cur = C.fold 4294967295 W ^^^ C.step (8 * (W.length - p)) acc

theorem Turned.start {W : List Int} (p : Nat) (hb : V.Byt W) : Turned W W p 0 0 := ⟨rfl, hb, by simp, by rw [C.step_zero, Nat.xor_zero]⟩

theorem Turned.more {W cur : List Int} {p i acc : Nat} {e : Int} (h : Turned W cur p i acc) (he : 0 ≤ e ∧ e ≤ 255) (hp : p + i < cur.length) :
    Turned W (cur.set (p + i) (C.x2 cur[p + i] e)) p (i + 1) (acc + 256 ^ i * e.toNat) := by
  obtain ⟨h1, h2, h3, h4⟩ := h
  refine ⟨by simp [h1], ?_, ?_, ?_⟩
  · intro c hc
    rcases List.mem_or_eq_of_mem_set hc with h | h
    · exact h2 c h
    · rw [h]; exact C.x2_byt (h2 _ (List.getElem_mem _)) he
  · have : 256 ^ i * e.toNat ≤ 256 ^ i * 255 := Nat.mul_le_mul_left _ (by omega)
    rw [Nat.pow_succ]
    omega
  · rw [C.fold_set 4294967295 e hp, h4, h1, show W.length - (p + i) = (W.length - p) - i by omega, C.step_high (W.length - p) i _ (by omega), Nat.xor_assoc, ← C.step_xor, C.high_add h3]

/-- A frame of which something within four bytes in a row was turned is none. -/
theorem Turned.none {kind : Int} {b cur : List Int} {p i acc : Nat} (hk : 0 ≤ kind ∧ kind ≤ 255) (hb : V.Byt b) (hl : b.length ≤ 65536) (h : Turned (frame kind b) cur p i acc) (hi : i ≤ 4) (ha : acc ≠ 0) :
    opened cur kind = ([], 5) ∨ opened cur kind = ([], 6) := by
  rcases opened_cases (kind := kind) h.byt with h5 | ⟨-, h1, h2, h3⟩
  · exact h5
  · exfalso
    apply ha
    have hs : acc < 4294967296 := by
      have := h.small
      have h4 : (256 : Nat) ^ i ≤ 256 ^ 4 := Nat.pow_le_pow_right (by omega) hi
      omega
    apply C.step_null (8 * ((frame kind b).length - p)) acc hs
    rw [wrap_in h1] at h3
    have f1 := frame_fold hk h2 h1
    have f2 := frame_fold hk hb hl
    have f3 := h.fold
    rw [h3] at f1
    rw [f1, f2] at f3
    have f4 := congrArg (fun z => C.step 32 4294967295 ^^^ z) f3
    simp only [← Nat.xor_assoc, Nat.xor_self, Nat.zero_xor] at f4
    exact f4.symm

end F
end Go.Proofs.Ytfffjolodilhoaa
