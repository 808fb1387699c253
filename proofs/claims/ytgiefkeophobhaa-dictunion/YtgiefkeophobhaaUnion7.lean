/-
  DictUnion's walk.
-/
import Derived.Test.YtgiefkeophobhaaAwake7
namespace Go.Proofs.Ytgiefkeophobhaa
open Go.RowKit

theorem two_in {w : World} {a a' : Option Addr} {n c n' c' : Nat} {l m : List ByteArray} (h1 : Gl .string w (.slice a n c) l) (h2 : Gl .string w (.slice a' n' c') m) :
    Ll (w.alloc (.cells #[.slice a n c, .slice a' n' c'] 22)) (.slice (some ⟨w.heap.size, 0, none⟩) 2 2) [l, m] := Ll.two (a, n, c) (a', n', c') h1 h2
theorem three_in {w : World} {a a' a2 : Option Addr} {n c n' c' n2 c2 : Nat} {l m q : List ByteArray} (h1 : Gl .string w (.slice a n c) l) (h2 : Gl .string w (.slice a' n' c') m) (h3 : Gl .string w (.slice a2 n2 c2) q) :
    Ll (w.alloc (.cells #[.slice a n c, .slice a' n' c', .slice a2 n2 c2] 22)) (.slice (some ⟨w.heap.size, 0, none⟩) 3 3) [l, m, q] := Ll.three (a, n, c) (a', n', c') (a2, n2, c2) h1 h2 h3
theorem one_in {w : World} {a : Option Addr} {n c : Nat} {l : List ByteArray} (h1 : Gl .string w (.slice a n c) l) :
    Ll (w.alloc (.cells #[.slice a n c] 22)) (.slice (some ⟨w.heap.size, 0, none⟩) 1 1) [l] := Ll.one (a, n, c) h1

namespace D
theorem un_same {ls ms : List (List ByteArray)} (h : ∀ x, (∃ l ∈ ls, x ∈ l) ↔ ∃ l ∈ ms, x ∈ l) : un ls = un ms :=
  rise_ext (un_rise _) (un_rise _) fun x => by rw [mem_un, mem_un]; exact h x

theorem un_one {l : List ByteArray} (h : Rise l) : un [l] = l :=
  rise_ext (un_rise _) h fun x => by rw [mem_un]; simp

theorem un_turned (l m : List ByteArray) : un [m, l, m] = un [l, m] := un_same fun x => by
  simp only [List.mem_cons, List.not_mem_nil, or_false, exists_eq_or_imp, exists_eq_left]
  constructor
  · rintro (h | h | h)
    · exact .inr h
    · exact .inl h
    · exact .inr h
  · rintro (h | h)
    · exact .inr (.inl h)
    · exact .inl h

theorem un_two_len (l m : List ByteArray) : (un [l, m]).length ≤ l.length + m.length := by
  have h1 := adds_len l []
  have h2 := adds_len m (adds [] l)
  show (adds (adds [] l) m).length ≤ _
  simp only [List.length_nil] at h1
  omega

theorem or_two {l m : List ByteArray} (hl : may l = true) (hm : may m = true) (h : l.length + m.length ≤ 200) : orR [l, m] = un [l, m] := by
  unfold orR
  rw [if_pos ⟨by simp [hl, hm], by have := un_two_len l m; omega⟩]
theorem or_three {l m : List ByteArray} (hl : may l = true) (hm : may m = true) (h : l.length + m.length ≤ 200) : orR [m, l, m] = un [l, m] := by
  unfold orR
  rw [un_turned, if_pos ⟨by simp [hl, hm], by have := un_two_len l m; omega⟩]
theorem or_one {l : List ByteArray} (hl : may l = true) : orR [l] = l := by
  unfold orR
  rw [un_one (may_rise hl), if_pos ⟨by simp [hl], may_len hl⟩]
theorem or_none : orR [] = [] := by
  unfold orR
  split <;> rfl
theorem un_may {l m : List ByteArray} (hl : may l = true) (hm : may m = true) (h : l.length + m.length ≤ 200) : may (un [l, m]) = true := by
  refine may_of (by have := un_two_len l m; omega) (un_rise _) fun x hx => ?_
  rw [mem_un] at hx
  simp only [List.mem_cons, List.not_mem_nil, or_false, exists_eq_or_imp, exists_eq_left] at hx
  rcases hx with hx | hx
  · exact may_size hl x hx
  · exact may_size hm x hx

theorem find_mem {l : List ByteArray} {t : ByteArray} (h : may l = true) : 0 ≤ findR l t ↔ t ∈ l := by
  unfold findR
  rw [mem_bel (may_rise h)]
  constructor
  · intro h1
    split at h1
    · rename_i h2; exact h2.2
    · omega
  · intro h1
    rw [if_pos ⟨h, h1⟩]
    omega

theorem find_un {l m : List ByteArray} {t : ByteArray} (hl : may l = true) (hm : may m = true) (h : l.length + m.length ≤ 200) : 0 ≤ findR (un [l, m]) t ↔ (0 ≤ findR l t ∨ 0 ≤ findR m t) := by
  rw [find_mem hl, find_mem hm, find_mem (un_may hl hm h), mem_un]
  simp
end D

set_option maxHeartbeats 8000000 in
theorem dictUnion_walk (v u : Value) (l m : List ByteArray) (t : ByteArray) (w : World) (h : Gl .string w v l) (k : Gl .string w u m) :
    Calls Try.prog 7 #[v, u, .string t] w fun e w' => e = .returned (.bool true) ∧ Below w.heap.size w w' := by
  obtain ⟨a, c, rfl, -, hm1, -⟩ := h.open
  obtain ⟨a', c', rfl, -, hm2, -⟩ := k.open
  obtain ⟨f, hf⟩ : ∃ f, D.few l = f := ⟨_, rfl⟩
  obtain ⟨g, hg⟩ : ∃ g, D.few m = g := ⟨_, rfl⟩
  obtain ⟨y, hy⟩ : ∃ y, D.may l = y := ⟨_, rfl⟩
  obtain ⟨z, hz⟩ : ∃ z, D.may m = z := ⟨_, rfl⟩
  have HF := hide hf
  have HG := hide hg
  have HY := hide hy
  have HZ := hide hz
  clear hf hg hy hz
  go_enter Try.func7, Try.ntmps7
  go_wp2_with fail
  refine (awake_any _).mono ?_
  rintro e w1 ⟨rfl, B1⟩
  have G1 := h.below B1
  have M1 := k.below B1
  go_wp2_with fail
  refine (few_any _ l _ G1 f (unhide HF)).mono ?_
  rintro e w2 ⟨rfl, rfl⟩
  go_wp2_with fail
  refine (few_any _ m _ M1 g (unhide HG)).mono ?_
  rintro e w2 ⟨rfl, rfl⟩
  cases f with
  | false =>
    go_wp2
    go_ret
    exact ⟨rfl, B1⟩
  | true =>
  cases g with
  | false =>
    go_wp2
    go_ret
    exact ⟨rfl, B1⟩
  | true =>
  have hl1 := D.few_len (unhide HF)
  have hl2 := D.few_len (unhide HG)
  by_cases h2 : (200 : Int) < (l.length : Int) + (m.length : Int)
  · go_wp2
    go_ret
    exact ⟨rfl, B1⟩
  go_wp2_with fail
  refine (may_any _ l _ G1 y (unhide HY)).mono ?_
  rintro e w2 ⟨rfl, rfl⟩
  cases y with
  | false =>
    go_wp2
    go_ret
    exact ⟨rfl, B1⟩
  | true =>
  go_wp2_with fail
  refine (may_any _ m _ M1 z (unhide HZ)).mono ?_
  rintro e w2 ⟨rfl, rfl⟩
  cases z with
  | false =>
    go_wp2
    go_ret
    exact ⟨rfl, B1⟩
  | true =>
  have hlm : l.length + m.length ≤ 200 := by omega
  obtain ⟨A, hA⟩ : ∃ A, D.un [l, m] = A := ⟨_, rfl⟩
  obtain ⟨p, hp⟩ : ∃ p, D.findR A t = p := ⟨_, rfl⟩
  obtain ⟨p1, hp1⟩ : ∃ p, D.findR l t = p := ⟨_, rfl⟩
  obtain ⟨p2, hp2⟩ : ∃ p, D.findR m t = p := ⟨_, rfl⟩
  have hfi := D.find_un (t := t) (unhide HY) (unhide HZ) hlm
  rw [hA, hp, hp1, hp2] at hfi
  have hmA := D.un_may (unhide HY) (unhide HZ) hlm
  have ho2 := D.or_two (unhide HY) (unhide HZ) hlm
  have ho3 := D.or_three (unhide HY) (unhide HZ) hlm
  have ho1 := D.or_one (unhide HY)
  rw [hA] at hmA ho2 ho3
  have HP := hide hp
  have HP1 := hide hp1
  have HP2 := hide hp2
  have HFI := hide hfi
  have HMA := hide hmA
  have HO2 := hide ho2
  have HO3 := hide ho3
  have HO1 := hide ho1
  clear hA hp hp1 hp2 hfi hmA ho2 ho3 ho1
  go_wp2_with fail
  refine (or_b _ _ _ (two_in G1 M1) (by simp) A (unhide HO2)).mono ?_
  rintro e w3 ⟨a3, c3, rfl, G3, B3⟩
  have hb3 := below_trans' (below_alloc _ _) B3
  have BB3 := below_trans' B1 hb3
  have GL := G1.below hb3
  have GM := M1.below hb3
  clear B1 B3 hb3 G1 M1
  go_wp2_with fail
  refine (or_b _ _ _ (three_in GM GL GM) (by simp) A (unhide HO3)).mono ?_
  rintro e w4 ⟨a4, c4, rfl, G4, B4⟩
  have hb4 := below_trans' (below_alloc _ _) B4
  have BB4 := below_trans' BB3 hb4
  have GL := GL.below hb4
  have GM := GM.below hb4
  have GA := G3.below hb4
  clear BB3 B4 hb4 G3
  go_wp2_with fail
  refine (texts_any _ _ A A _ G4 GA true (by simp)).mono ?_
  rintro e w5 ⟨rfl, B5⟩
  have BB5 := below_trans' BB4 B5
  have GL := GL.below B5
  have GM := GM.below B5
  have GA := GA.below B5
  clear BB4 B5 G4
  go_wp2_with fail
  refine (or_b _ _ _ (one_in GL) (by simp) l (unhide HO1)).mono ?_
  rintro e w6 ⟨a6, c6, rfl, G6, B6⟩
  have hb6 := below_trans' (below_alloc _ _) B6
  have BB6 := below_trans' BB5 hb6
  have GL := GL.below hb6
  have GM := GM.below hb6
  have GA := GA.below hb6
  clear BB5 B6 hb6
  go_wp2_with fail
  refine (texts_any _ _ l l _ G6 GL true (by simp)).mono ?_
  rintro e w7 ⟨rfl, B7⟩
  have BB7 := below_trans' BB6 B7
  have GL := GL.below B7
  have GM := GM.below B7
  have GA := GA.below B7
  clear BB6 B7 G6
  go_wp2_with fail
  refine (find_any _ A t _ GA p (unhide HP)).mono ?_
  rintro e w8 ⟨rfl, rfl⟩
  by_cases q1 : 0 ≤ p1
  · have q0 : 0 ≤ p := (unhide HFI).2 (.inl q1)
    go_wp2_with fail
    refine (may_any _ A _ GA true (unhide HMA)).mono ?_
    rintro e w8 ⟨rfl, rfl⟩
    go_wp2_with fail
    refine (find_any _ l t _ GL p1 (unhide HP1)).mono ?_
    rintro e w8 ⟨rfl, rfl⟩
    go_wp2_with fail
    refine (or_b _ [] _ (Ll.none _) (by decide) [] D.or_none).mono ?_
    rintro e w9 ⟨a9, c9, rfl, G9, B9⟩
    have BB9 := below_trans' BB7 B9
    go_wp2
    go_ret
    exact ⟨rfl, BB9⟩
  · by_cases q2 : 0 ≤ p2
    · have q0 : 0 ≤ p := (unhide HFI).2 (.inr q2)
      go_wp2_with fail
      refine (may_any _ A _ GA true (unhide HMA)).mono ?_
      rintro e w8 ⟨rfl, rfl⟩
      go_wp2_with fail
      refine (find_any _ l t _ GL p1 (unhide HP1)).mono ?_
      rintro e w8 ⟨rfl, rfl⟩
      go_wp2_with fail
      refine (find_any _ m t _ GM p2 (unhide HP2)).mono ?_
      rintro e w8 ⟨rfl, rfl⟩
      go_wp2_with fail
      refine (or_b _ [] _ (Ll.none _) (by decide) [] D.or_none).mono ?_
      rintro e w9 ⟨a9, c9, rfl, G9, B9⟩
      have BB9 := below_trans' BB7 B9
      go_wp2
      go_ret
      exact ⟨rfl, BB9⟩
    · have q0 : ¬ 0 ≤ p := fun h => ((unhide HFI).1 h).elim q1 q2
      have e0 : decide (0 ≤ p) = false := by simpa using q0
      have e1 : decide (0 ≤ p1) = false := by simpa using q1
      have e2 : decide (0 ≤ p2) = false := by simpa using q2
      go_wp2_with fail
      refine (may_any _ A _ GA true (unhide HMA)).mono ?_
      rintro e w8 ⟨rfl, rfl⟩
      go_wp2_with fail
      refine (find_any _ l t _ GL p1 (unhide HP1)).mono ?_
      rintro e w8 ⟨rfl, rfl⟩
      go_wp2_with fail
      refine (find_any _ m t _ GM p2 (unhide HP2)).mono ?_
      rintro e w8 ⟨rfl, rfl⟩
      go_wp2_with fail
      refine (or_b _ [] _ (Ll.none _) (by decide) [] D.or_none).mono ?_
      rintro e w9 ⟨a9, c9, rfl, G9, B9⟩
      have BB9 := below_trans' BB7 B9
      go_wp2
      go_ret
      exact ⟨rfl, BB9⟩
end Go.Proofs.Ytgiefkeophobhaa
