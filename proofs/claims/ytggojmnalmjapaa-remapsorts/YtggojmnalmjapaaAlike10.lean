/-
  Slices of slices, whatever the elements are ('Lg': what they read as); the contracts of alike, of the closures that alike and Carry make, and of slices.EqualFunc at them.
-/
import Derived.Test.YtggojmnalmjapaaTable10
import Derived.Test.YtggojmnalmjapaaPlainC10
namespace Go.Proofs.Ytggojmnalmjapaa
set_option maxRecDepth 100000
open Go.RowKit Go.Deep

/-- The slice value v reads, in w, as the lists ls. -/
def Lg {α : Type} (f : α → Value) (w : World) (v : Value) (ls : List (List α)) : Prop :=
  ∃ us, Gl sv w v us ∧ us.length = ls.length ∧ ∀ (i : Nat) (s : Option Addr × Nat × Nat) (l : List α), us[i]? = some s → ls[i]? = some l → Gl f w (sv s) l
section
variable {α : Type} {f : α → Value}
theorem Lg.below {w w' : World} {v : Value} {ls : List (List α)} (h : Lg f w v ls) (hb : Below w.heap.size w w') : Lg f w' v ls := by
  obtain ⟨us, h1, h2, h3⟩ := h
  exact ⟨us, h1.below hb, h2, fun i s l hs hl => (h3 i s l hs hl).below hb⟩
theorem Lg.at {w : World} {v : Value} {ls : List (List α)} (h : Lg f w v ls) : ∃ a cap, v = .slice a ls.length cap ∧ ls.length ≤ cap ∧ cap ≤ 9223372036854775807 ∧
    (0 < ls.length → ∃ b off, a = some ⟨b, off, none⟩ ∧ b < w.heap.size ∧ ∀ k l, ls[k]? = some l → ∃ x c, w.cell? ⟨b, off + k, none⟩ = some (.slice x l.length c) ∧ Gl f w (.slice x l.length c) l) := by
  obtain ⟨us, h1, h2, h3⟩ := h
  obtain ⟨a, cap, rfl, hl, hm, hna, ho⟩ := h1.open
  rw [h2] at hl ho ⊢
  refine ⟨a, cap, rfl, hl, hm, fun hp => ?_⟩
  obtain ⟨b, off, rfl, hb, hc⟩ := ho hp
  refine ⟨b, off, rfl, hb, fun k l hk => ?_⟩
  have hku : k < us.length := by rw [h2]; exact (List.getElem?_eq_some_iff.1 hk).1
  have hs := List.getElem?_eq_getElem hku
  have c1 := hc k _ hs
  have g1 := h3 k _ l hs hk
  obtain ⟨x, c, hv, -⟩ := id g1
  rw [hv] at c1 g1
  exact ⟨x, c, c1, g1⟩
end
abbrev Tl (w : World) (v : Value) (ts : List (List Int)) : Prop := Lg (Value.int .i64) w v ts
abbrev Bl (w : World) (v : Value) (ls : List (List Bool)) : Prop := Lg Value.bool w v ls

theorem eq_num (n k : Nat) : ((n : Int) == (k : Int)) = decide (n = k) := by
  rw [Bool.eq_iff_iff]
  simp only [beq_iff_eq, decide_eq_true_eq]
  omega
theorem cloA_any (a b : Option Addr) (n m c d : Nat) (w : World) (r : Bool) (hr : decide (n = m) = r) : Calls Try.prog 46 #[.slice a n c, .slice b m d] w fun e w' => e = .returned (.bool r) ∧ w' = w := by
  go_enter Try.func46, Try.ntmps46
  go_wp2
  go_ret
  exact ⟨by rw [← hr, ← eq_num]; rfl, rfl⟩

theorem R.alk_len {ts : List (List Int)} {ls : List (List Bool)} (h : ¬ ts.length = ls.length) : R.alk ts ls = false := by
  cases hb : R.alk ts ls with
  | false => rfl
  | true => exact absurd (R.alk_iff.1 hb).1 h
theorem R.alk_not {ts : List (List Int)} {ls : List (List Bool)} {i : Nat} {t : List Int} {l : List Bool} (h1 : ts[i]? = some t) (h2 : ls[i]? = some l) (h : ¬ t.length = l.length) : R.alk ts ls = false := by
  cases hb : R.alk ts ls with
  | false => rfl
  | true => exact absurd ((R.alk_iff.1 hb).2 i t l h1 h2) h

set_option maxHeartbeats 1000000 in
theorem equal10_any (v u : Value) (ts : List (List Int)) (ls : List (List Bool)) (w : World) (ht : Tl w v ts) (hl : Bl w u ls) :
    Calls Try.prog 45 #[v, u, .func (.func 46) #[] #[]] w fun e w' => e = .returned (.bool (R.alk ts ls)) ∧ w' = w := by
  obtain ⟨a, cap, rfl, h1, h2, ho⟩ := ht.at
  obtain ⟨a2, cap2, rfl, h3, h4, ho2⟩ := hl.at
  clear ht hl
  by_cases he : ts.length = ls.length
  · have hne : ((ts.length : Int) != (ls.length : Int)) = false := by simp [he]
    have HE := hide he
    clear he
    go_enter Try.func45, Try.ntmps45
    go_wp2
    go_loop [17] (fun iv => ∃ k : Nat, k ≤ ts.length ∧ iv = .int .i64 k ∧ Hid (∀ (i : Nat) t l, i < k → ts[i]? = some t → ls[i]? = some l → t.length = l.length)) (fun iv => ts.length - (intOf iv).toNat)
    case atStart => exact ⟨0, Nat.zero_le _, rfl, hide (fun i t l hi => by omega)⟩
    case round =>
      obtain ⟨k, hk, rfl, HS⟩ := hrel
      by_cases hlt : k < ts.length
      · have hlt2 : k < ls.length := by have := unhide HE; omega
        obtain ⟨b, off, rfl, hb, hc⟩ := ho (by omega)
        obtain ⟨b2, off2, rfl, hb2, hc2⟩ := ho2 (by omega)
        obtain ⟨t, hx⟩ : ∃ x, ts[k]? = some x := ⟨_, List.getElem?_eq_getElem hlt⟩
        obtain ⟨l, hy⟩ : ∃ x, ls[k]? = some x := ⟨_, List.getElem?_eq_getElem hlt2⟩
        obtain ⟨xt, ct, c1, -⟩ := hc k t hx
        obtain ⟨xl, cl, c2, -⟩ := hc2 k l hy
        have HX := hide hx
        have HY := hide hy
        clear hc hc2 ho ho2 hx hy
        by_cases h9 : t.length = l.length
        · have CC := cloA_any xt xl t.length l.length ct cl w true (by simpa using h9)
          have H9 := hide h9
          clear h9
          go_wp2_with fail
          refine CC.mono ?_
          rintro e w' ⟨rfl, rfl⟩
          clear CC
          go_wp2
          go_round
          case rel =>
            refine ⟨k + 1, by omega, by go_num, hide (fun i t' l' hi h1 h2 => ?_)⟩
            by_cases e : i = k
            · subst e
              rw [unhide HX] at h1
              rw [unhide HY] at h2
              cases h1
              cases h2
              exact unhide H9
            · exact unhide HS i t' l' (by omega) h1 h2
          case measure => simp [intOf]; omega
        · have CC := cloA_any xt xl t.length l.length ct cl w false (by simpa using h9)
          have HR : Hid (R.alk ts ls = false) := hide (R.alk_not (unhide HX) (unhide HY) h9)
          clear h9
          go_wp2_with fail
          refine CC.mono ?_
          rintro e w' ⟨rfl, rfl⟩
          clear CC
          go_wp2
          go_ret
          exact ⟨by rw [unhide HR]; rfl, rfl⟩
      · have HR : Hid (R.alk ts ls = true) := hide (R.alk_iff.2 ⟨unhide HE, fun i t l h1 h2 => unhide HS i t l (by have := (List.getElem?_eq_some_iff.1 h1).1; omega) h1 h2⟩)
        go_wp2
        go_ret
        exact ⟨by rw [unhide HR]; rfl, rfl⟩
  · have hne : ((ts.length : Int) != (ls.length : Int)) = true := by simp; omega
    have HR : Hid (R.alk ts ls = false) := hide (R.alk_len he)
    clear he
    go_enter Try.func45, Try.ntmps45
    go_wp2
    go_ret
    exact ⟨by rw [unhide HR]; rfl, rfl⟩

theorem alike_any (v u : Value) (ts : List (List Int)) (ls : List (List Bool)) (w : World) (ht : Tl w v ts) (hl : Bl w u ls) (r : Bool) (hr : R.alk ts ls = r) :
    Calls Try.prog 38 #[v, u] w fun e w' => e = .returned (.bool r) ∧ w' = w := by
  have CE := equal10_any v u ts ls w ht hl
  rw [hr] at CE
  obtain ⟨a, cap, rfl, -⟩ := ht.at
  obtain ⟨a2, cap2, rfl, -⟩ := hl.at
  clear ht hl hr
  go_enter Try.func38, Try.ntmps38
  go_wp2_with fail
  refine CE.mono ?_
  rintro e w' ⟨rfl, rfl⟩
  clear CE
  go_wp2
  go_ret
  exact ⟨rfl, rfl⟩

set_option maxHeartbeats 1000000 in
theorem cloC_any (P N Q i d : Nat) (wv nv : Value) (was now : List (List Bool)) (a b : List Bool) (p q : Bool) (w : World) (hP : w.cell? ⟨P, 0, none⟩ = some wv) (hN : w.cell? ⟨N, 0, none⟩ = some (.int .i64 (i : Int))) (hQ : w.cell? ⟨Q, 0, none⟩ = some nv) (hw : Bl w wv was) (hn : Bl w nv now) (h2 : was[i]? = some a) (h3 : now[i]? = some b) (h5 : a[d]? = some p) (h6 : b[d]? = some q) :
    Calls Try.prog 40 #[.int .i64 (d : Int), .pointer (some ⟨P, 0, none⟩), .pointer (some ⟨N, 0, none⟩), .pointer (some ⟨Q, 0, none⟩)] w fun e w' => e = .returned (.bool (p && !q)) ∧ w' = w := by
  obtain ⟨a1, cap1, rfl, l1, m1, o1⟩ := hw.at
  obtain ⟨a2, cap2, rfl, l2, m2, o2⟩ := hn.at
  have i1 := (List.getElem?_eq_some_iff.1 h2).1
  have i2 := (List.getElem?_eq_some_iff.1 h3).1
  have d1 := (List.getElem?_eq_some_iff.1 h5).1
  have d2 := (List.getElem?_eq_some_iff.1 h6).1
  obtain ⟨b1, f1, rfl, -, k1⟩ := o1 (by omega)
  obtain ⟨b2, f2, rfl, -, k2⟩ := o2 (by omega)
  obtain ⟨x1, c1, y1, g1⟩ := k1 i a h2
  obtain ⟨x2, c2, y2, g2⟩ := k2 i b h3
  obtain ⟨x1', c1', e1, t1, u1, -, r1⟩ := g1.open
  obtain ⟨x2', c2', e2, t2, u2, -, r2⟩ := g2.open
  simp only [Value.slice.injEq, true_and] at e1 e2
  obtain ⟨rfl, rfl⟩ := e1
  obtain ⟨rfl, rfl⟩ := e2
  obtain ⟨p1, s1, rfl, -, z1⟩ := r1 (by omega)
  obtain ⟨p2, s2, rfl, -, z2⟩ := r2 (by omega)
  have v1 := z1 d p h5
  have v2 := z2 d q h6
  clear z1 z2 r1 r2 g1 g2 k1 k2 o1 o2 hw hn h2 h3 h5 h6
  cases p with
  | false =>
    go_enter Try.func40, Try.ntmps40
    go_wp2
    go_ret
    exact ⟨rfl, rfl⟩
  | true =>
    go_enter Try.func40, Try.ntmps40
    go_wp2
    go_ret
    exact ⟨by cases q <;> rfl, rfl⟩
end Go.Proofs.Ytggojmnalmjapaa
