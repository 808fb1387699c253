/-
  The contracts of Words, Term and Card, the program's.
-/
import Derived.Test.YtpmbgbahoinelaaRuns5
namespace Go.Proofs.Ytpmbgbahoinelaa
open Go.RowKit

/-- Is a word too long? -/
def T.long (ws : List ByteArray) : Bool := ws.any (fun x => decide (32 < x.size))

/-- What Words tells. -/
def T.wordsR (s : ByteArray) : List ByteArray × Int :=
  if 240 < s.size then ([], 8) else if T.valid (T.bs s) = false then ([], 7) else if T.long (T.words s) = true then ([], 8) else (T.words s, 0)

theorem long_step {ws : List ByteArray} {k : Nat} {x : ByteArray} (hx : ws[k]? = some x) (h : T.long (ws.take k) = false) (h1 : ¬ 32 < x.size) : T.long (ws.take (k + 1)) = false := by
  obtain ⟨hk, rfl⟩ := List.getElem?_eq_some_iff.1 hx
  unfold T.long at h ⊢
  rw [List.take_succ_eq_append_getElem hk, List.any_append, h]
  simp
  omega
theorem long_at {ws : List ByteArray} {k : Nat} {x : ByteArray} (hx : ws[k]? = some x) (h1 : 32 < x.size) : T.long ws = true := by
  unfold T.long
  rw [List.any_eq_true]
  exact ⟨x, List.mem_of_getElem? hx, by simpa using h1⟩

set_option maxRecDepth 1000000 in
set_option maxHeartbeats 2000000 in
theorem words_own (s : ByteArray) (w : World) (m : List ByteArray) (n : Int) (hr : T.wordsR s = (m, n)) :
    Calls Try.prog 11 #[.string s] w fun e w' => ∃ v, e = .returned (.tuple #[v, .int .i64 n]) ∧ w'.ownsRow w.heap.size 9 1 v m.length (m.map Value.string) ∧ Below w.heap.size w w' := by
  unfold T.wordsR at hr
  by_cases h1 : 240 < s.size
  · rw [if_pos h1] at hr
    cases hr
    have g : (240 : Int) < (s.size : Int) := by omega
    go_enter Try.func11, Try.ntmps11
    go_wp2
    go_ret2
    exact ⟨_, rfl, World.ownsRow_nil _ _ _ _, Below.refl _ _⟩
  · rw [if_neg h1] at hr
    have g : ¬ (240 : Int) < (s.size : Int) := by omega
    by_cases h2 : T.valid (T.bs s) = false
    · rw [if_pos h2] at hr
      cases hr
      have H2 := hide h2
      clear h2 h1
      go_enter Try.func11, Try.ntmps11
      go_wp2_with fail
      refine (valid_any s _ false (unhide H2)).mono ?_
      rintro e w1 ⟨rfl, B1⟩
      go_wp2
      go_ret2
      exact ⟨_, rfl, World.ownsRow_nil _ _ _ _, B1⟩
    · rw [if_neg h2] at hr
      have h2 : T.valid (T.bs s) = true := by simpa using h2
      have H2 := hide h2
      have HR := hide hr
      clear h2 hr
      go_enter Try.func11, Try.ntmps11
      go_wp2_with fail
      refine (valid_any s _ true (unhide H2)).mono ?_
      rintro e w1 ⟨rfl, B1⟩
      go_wp2_with fail
      refine (runs_any s _ (by omega) (unhide H2)).mono ?_
      rintro e w2 ⟨v, rfl, O2, hb2⟩
      have B2 := below_trans' B1 hb2
      have G2 := Gl.owned O2
      have O0 := own_mono O2 B1.size
      obtain ⟨ws, hws⟩ : ∃ ws, T.words s = ws := ⟨_, rfl⟩
      rw [hws] at G2 O0
      have hr := unhide HR
      rw [hws] at hr
      have HR := hide hr
      clear hr hws O2 B1 hb2 H2
      have hlen := G2.len
      obtain ⟨a, cap, rfl, hl, hm, hna, ho⟩ := G2.open
      clear G2
      go_wp2
      go_loop [17] (fun iv => ∃ k : Nat, k ≤ ws.length ∧ iv = .int .i64 k ∧ Hid (T.long (ws.take k) = false)) (fun iv => ws.length - (intOf iv).toNat)
      case atStart => exact ⟨0, Nat.zero_le _, rfl, rfl⟩
      case round =>
        obtain ⟨k, hk, rfl, HK⟩ := hrel
        by_cases hlt : k < ws.length
        · obtain ⟨b, off, rfl, hb, hc⟩ := ho (by omega)
          obtain ⟨x, hx⟩ : ∃ x, ws[k]? = some x := ⟨ws[k], List.getElem?_eq_getElem hlt⟩
          have c1 := hc k x hx
          have HX := hide hx
          clear hc ho hx
          by_cases h3 : 32 < x.size
          · have g3 : (32 : Int) < (x.size : Int) := by omega
            have hr := unhide HR
            rw [if_pos (long_at (unhide HX) h3)] at hr
            cases hr
            clear HR
            go_wp2
            go_ret2
            exact ⟨_, rfl, World.ownsRow_nil _ _ _ _, B2⟩
          · have g3 : ¬ (32 : Int) < (x.size : Int) := by omega
            go_wp2
            go_round
            case rel => exact ⟨k + 1, by omega, by go_num, long_step (unhide HX) (unhide HK) h3⟩
            case measure => simp [intOf]; omega
        · have hno : T.long ws = false := by
            have := unhide HK
            rwa [List.take_of_length_le (by omega)] at this
          have hr := unhide HR
          rw [if_neg (by rw [hno]; decide)] at hr
          cases hr
          clear HR hno
          go_wp2
          go_ret2
          exact ⟨_, rfl, O0, B2⟩

theorem words_any (s : ByteArray) (w : World) (m : List ByteArray) (n : Int) (hr : T.wordsR s = (m, n)) :
    Calls Try.prog 11 #[.string s] w fun e w' => ∃ v, e = .returned (.tuple #[v, .int .i64 n]) ∧ Gl .string w' v m ∧ Below w.heap.size w w' :=
  (words_own s w m n hr).mono fun _ _ ⟨v, h1, h2, h3⟩ => ⟨v, h1, Gl.owned h2, h3⟩

/-- What Term tells, of what Words tells. -/
def T.termR (s : ByteArray) (r : List ByteArray × Int) : Bool := decide (r.2 = 0) && (match r.1 with | [x] => x.toList == s.toList | _ => false)

set_option maxRecDepth 1000000 in
set_option maxHeartbeats 2000000 in
theorem term_any (s : ByteArray) (w : World) (r : Bool) (hr : T.termR s (T.wordsR s) = r) :
    Calls Try.prog 16 #[.string s] w fun e w' => e = .returned (.bool r) ∧ Below w.heap.size w w' := by
  obtain ⟨m, n, hw⟩ : ∃ m n, T.wordsR s = (m, n) := ⟨_, _, rfl⟩
  rw [hw] at hr
  have HW := hide hw
  have HR := hide hr
  clear hw hr
  go_enter Try.func16, Try.ntmps16
  go_wp2_with fail
  refine (words_any s _ m n (unhide HW)).mono ?_
  rintro e w1 ⟨v, rfl, G1, B1⟩
  obtain ⟨a, cap, rfl, hl, hm, hna, ho⟩ := G1.open
  clear G1 HW
  by_cases h0 : n = 0
  · subst h0
    by_cases h1 : m.length = 1
    · obtain ⟨x, rfl⟩ := List.length_eq_one_iff.1 h1
      obtain ⟨b, off, rfl, hb, hc⟩ := ho (by simp)
      have c1 : w1.cell? ⟨b, off, none⟩ = some (.string x) := by simpa using hc 0 x rfl
      clear hc ho h1
      simp only [List.length_cons, List.length_nil] at hl ⊢
      go_wp2
      go_ret
      exact ⟨by rw [← unhide HR]; rfl, B1⟩
    · have HT : Hid (T.termR s (m, 0) = false) := by
        show _ = _
        match m, h1 with
        | [], _ => rfl
        | x :: y :: l, _ => rfl
      obtain ⟨q, hq⟩ : ∃ q, m.length = q := ⟨_, rfl⟩
      rw [hq] at hl h1 ⊢
      clear ho hq
      have g : ((q : Int) == 1) = false := by simp; omega
      go_wp2
      go_ret
      exact ⟨by rw [← unhide HR, unhide HT]; rfl, B1⟩
  · have g : (n == 0) = false := by simpa using h0
    clear ho
    go_wp2
    go_ret
    refine ⟨?_, B1⟩
    rw [← unhide HR]
    simp [T.termR, h0]

/-- What Card tells. -/
def T.cardR (id : ByteArray) (key : Int) (s : ByteArray) : (ByteArray × Int × List ByteArray) × Int :=
  if id.size < 1 ∨ 16 < id.size ∨ key < 0 ∨ 1073741824 < key then ((⟨#[]⟩, 0, []), 1)
  else if T.valid (T.bs id) = false then ((⟨#[]⟩, 0, []), 7)
  else if (T.wordsR s).2 ≠ 0 then ((⟨#[]⟩, 0, []), (T.wordsR s).2)
  else ((id, key, (T.wordsR s).1), 0)
end Go.Proofs.Ytpmbgbahoinelaa
