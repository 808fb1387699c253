/-
  Texts put together: Cmp8, Small8, MayAll8, RSmall8, RIn8.
-/
import Derived.Test.YtefnkbgkcjhkoaaQ08
import Derived.Sort.Grow
import Derived.Deep.RegionHeld3
import Derived.Maps.OwnSet
import Derived.Test.YtefnkbgkcjhkoaaQ09
import Derived.BigQuiet
/-
  The contracts of cmp.Compare at numbers and at texts, of cmp.Or at two numbers, of compare and Before, and of the document's own Before.
-/
namespace Go.Proofs.Ytefnkbgkcjhkoaa
set_option maxRecDepth 100000
open Go.RowKit Go.Sort

namespace S
def ci (x y : Int) : Int := if x < y then -1 else if y < x then 1 else 0
def cs (x y : ByteArray) : Int := if K.lt x y = true then -1 else if K.lt y x = true then 1 else 0
def cor (x y : Int) : Int := if x = 0 then y else x
/-- What compare tells of two cards. -/
def cmp (a b : Cd) : Int := cor (ci a.key b.key) (cs a.id b.id)

theorem cmp_before (a b : Cd) : decide (cmp a b < 0) = before a b := by
  unfold cmp cor ci cs before
  by_cases h1 : a.key < b.key
  · simp [h1]
  · by_cases h2 : b.key < a.key
    · have h3 : a.key ≠ b.key := by omega
      simp [h1, h2, h3]
    · have h3 : a.key = b.key := by omega
      simp only [h3, decide_true, Bool.true_and]
      simp only [Int.lt_irrefl, if_false, if_true, decide_false, Bool.false_or]
      cases h4 : K.lt a.id b.id with
      | true => simp
      | false =>
        cases h5 : K.lt b.id a.id <;> simp
end S

set_option maxHeartbeats 1000000 in
theorem cmpI_any (x y : Int) (w : World) : Calls Try.prog 56 #[.int .i64 x, .int .i64 y] w fun e w' => e = .returned (.int .i64 (S.ci x y)) ∧ w' = w := by
  unfold S.ci
  by_cases h1 : x < y
  · rw [if_pos h1]
    go_enter Try.func56, Try.ntmps56
    go_wp2
    go_ret
    exact ⟨rfl, rfl⟩
  · rw [if_neg h1]
    by_cases h2 : y < x
    · rw [if_pos h2]
      go_enter Try.func56, Try.ntmps56
      go_wp2
      go_ret
      exact ⟨rfl, rfl⟩
    · rw [if_neg h2]
      go_enter Try.func56, Try.ntmps56
      go_wp2
      go_ret
      exact ⟨rfl, rfl⟩

set_option maxHeartbeats 1000000 in
theorem cmpS_any (x y : ByteArray) (w : World) : Calls Try.prog 57 #[.string x, .string y] w fun e w' => e = .returned (.int .i64 (S.cs x y)) ∧ w' = w := by
  unfold S.cs
  cases h1 : K.lt x y with
  | true =>
    rw [if_pos rfl]
    have hl : Op.bytesLess x.toList y.toList = true := h1
    go_enter Try.func57, Try.ntmps57
    go_wp2_with (go_at_call 70; refine (cnan_any _ _).mono ?_; rintro e w' ⟨rfl, rfl⟩)
    go_ret
    exact ⟨rfl, rfl⟩
  | false =>
    rw [if_neg (by simp)]
    have hl : Op.bytesLess x.toList y.toList = false := h1
    cases h2 : K.lt y x with
    | true =>
      rw [if_pos rfl]
      have hq : (x.toList == y.toList) = false := by rw [K.eq_to]; simpa using Ne.symm (K.lt_ne h2)
      go_enter Try.func57, Try.ntmps57
      go_wp2_with (go_at_call 70; refine (cnan_any _ _).mono ?_; rintro e w' ⟨rfl, rfl⟩)
      go_ret
      exact ⟨rfl, rfl⟩
    | false =>
      rw [if_neg (by simp)]
      have hq : (x.toList == y.toList) = true := by rw [K.eq_to]; simpa using K.lt_tri h1 h2
      go_enter Try.func57, Try.ntmps57
      go_wp2_with (go_at_call 70; refine (cnan_any _ _).mono ?_; rintro e w' ⟨rfl, rfl⟩)
      go_ret
      exact ⟨rfl, rfl⟩

set_option maxHeartbeats 1000000 in
theorem cor_any (b : Nat) (x y : Int) (w : World) (c0 : w.cell? ⟨b, 0, none⟩ = some (.int .i64 x)) (c1 : w.cell? ⟨b, 1, none⟩ = some (.int .i64 y)) :
    Calls Try.prog 55 #[.slice (some ⟨b, 0, none⟩) 2 2] w fun e w' => e = .returned (.int .i64 (S.cor x y)) ∧ w' = w := by
  go_enter Try.func55, Try.ntmps55
  go_wp2
  go_loop [8] (fun i => (i = .int .i64 0) ∨ (i = .int .i64 1 ∧ x = 0) ∨ (i = .int .i64 2 ∧ x = 0 ∧ y = 0)) (fun i => 2 - (intOf i).toNat)
  case atStart => exact .inl rfl
  case round =>
    rcases hrel with rfl | ⟨rfl, hx⟩ | ⟨rfl, hx, hy⟩
    · by_cases h1 : x = 0
      · subst h1
        go_wp2
        go_round
        case rel => simp
        case measure => simp [intOf]
      · have h1' : (x == 0) = false := by simpa using h1
        go_wp2
        go_ret
        exact ⟨by rw [show S.cor x y = x from if_neg h1]; rfl, rfl⟩
    · have HX := hide hx
      by_cases h1 : y = 0
      · subst h1
        go_wp2
        go_round
        case rel => (have := unhide HX; simp [this])
        case measure => simp [intOf]
      · have h1' : (y == 0) = false := by simpa using h1
        go_wp2
        go_ret
        exact ⟨by rw [show S.cor 0 y = y from if_pos rfl]; rfl, rfl⟩
    · go_wp2
      go_ret
      exact ⟨rfl, rfl⟩

/-- A world with new blocks behind it, and draws. -/
def Grew (w w' : World) : Prop := ∃ q os, w' = grow (w.drewN q) os
theorem Grew.below {w w' : World} (h : Grew w w') : Below w.heap.size w w' := by
  obtain ⟨q, os, rfl⟩ := h
  refine ⟨rfl, rfl, rfl, by simp [grow, World.drewN], fun k hk => ?_⟩
  rw [heap_grow_old _ _ (by simpa using hk)]
  rfl
theorem Grew.refl (w : World) : Grew w w := ⟨0, #[], by simp [grow, World.drewN]⟩
theorem Grew.alloc {w w' : World} (h : Grew w w') (o : Obj) : Grew w (w'.alloc o) := by
  obtain ⟨q, os, rfl⟩ := h
  exact ⟨q, os ++ #[o], by rw [alloc_eq_grow, grow_grow]⟩
theorem Grew.drew {w w' : World} (h : Grew w w') : Grew w w'.drew := by
  obtain ⟨q, os, rfl⟩ := h
  exact ⟨q + 1, os, by rw [drew_grow]; rfl⟩

set_option maxHeartbeats 1000000 in
theorem compare_any (a b : Cd) (x y : Option Addr) (n c m d : Nat) (w : World) :
    Calls Try.prog 44 #[.agg #[.string a.id, .int .i64 a.key, .slice x n c], .agg #[.string b.id, .int .i64 b.key, .slice y m d]] w fun e w' => e = .returned (.int .i64 (S.cmp a b)) ∧ Grew w w' := by
  obtain ⟨W, hW⟩ : ∃ W, W = (w.alloc (.cells #[.string a.id, .int .i64 a.key, .slice x n c] 30)).alloc (.cells #[.string b.id, .int .i64 b.key, .slice y m d] 30) := ⟨_, rfl⟩
  have GW : Grew w W := by rw [hW]; exact ((Grew.refl w).alloc _).alloc _
  have y0 : W.cell? ⟨w.heap.size, 0, none⟩ = some (.string a.id) := by rw [hW]; simp [go_sem]
  have y1 : W.cell? ⟨w.heap.size, 1, none⟩ = some (.int .i64 a.key) := by rw [hW]; simp [go_sem]
  have z0 : W.cell? ⟨w.heap.size + 1, 0, none⟩ = some (.string b.id) := by rw [hW]; simp [go_sem]
  have z1 : W.cell? ⟨w.heap.size + 1, 1, none⟩ = some (.int .i64 b.key) := by rw [hW]; simp [go_sem]
  obtain ⟨r1, hr1⟩ : ∃ r, S.ci a.key b.key = r := ⟨_, rfl⟩
  obtain ⟨r2, hr2⟩ : ∃ r, S.cs a.id b.id = r := ⟨_, rfl⟩
  obtain ⟨r3, hr3⟩ : ∃ r, S.cor r1 r2 = r := ⟨_, rfl⟩
  have HR : Hid (S.cmp a b = r3) := by show _ = _; rw [S.cmp, hr1, hr2, hr3]
  have HW := hide hW
  have k1 := fun w => cmpI_any a.key b.key w
  have k2 := fun w => cmpS_any a.id b.id w
  have k3 := fun b w => cor_any b r1 r2 w
  rw [hr1] at k1
  rw [hr2] at k2
  rw [hr3] at k3
  clear hW hr1 hr2 hr3
  go_enter Try.func44, Try.ntmps44
  go_wp2_with fail
  rw [← unhide HW]
  go_region_held3 (fun w' => w'.cell? ⟨w.heap.size, 0, none⟩ = some (.string a.id) ∧ w'.cell? ⟨w.heap.size, 1, none⟩ = some (.int .i64 a.key) ∧ w'.cell? ⟨w.heap.size + 1, 0, none⟩ = some (.string b.id) ∧ w'.cell? ⟨w.heap.size + 1, 1, none⟩ = some (.int .i64 b.key) ∧ Grew w w')
    (first
      | (go_split_ands; exact ⟨y0, y1, z0, z1, GW.drew⟩)
      | (go_split_ands; exact ⟨cell_keep y0 (below_alloc W _).drew, cell_keep y1 (below_alloc W _).drew, cell_keep z0 (below_alloc W _).drew, cell_keep z1 (below_alloc W _).drew, (GW.alloc _).drew⟩)
      | go_keep)
    (first
      | (go_at_call 56; refine (k1 _).mono ?_; rintro e w1 ⟨rfl, rfl⟩)
      | (go_at_call 57; refine (k2 _).mono ?_; rintro e w1 ⟨rfl, rfl⟩)
      | (go_at_call 55; refine (k3 _ _ (by simp) (by simp)).mono ?_; rintro e w1 ⟨rfl, rfl⟩))
  go_wp2
  go_ret
  exact ⟨by rw [unhide HR]; rfl, (GW.alloc _).drew⟩
end Go.Proofs.Ytefnkbgkcjhkoaa

/-
  The contracts of Before (the program's and the document's), mayHead, mayNotWord, ContainsFunc over it, and unlike (a map).
-/
namespace Go.Proofs.Ytefnkbgkcjhkoaa
set_option maxRecDepth 100000
open Go.RowKit Go.WideMaps Go.Maps

set_option maxHeartbeats 1000000 in
theorem before_b (a b : Cd) (x y : Option Addr) (n c m d : Nat) (w : World) (r : Bool) (hr : S.before a b = r) :
    Calls Try.prog 25 #[.agg #[.string a.id, .int .i64 a.key, .slice x n c], .agg #[.string b.id, .int .i64 b.key, .slice y m d]] w fun e w' => e = .returned (.bool r) ∧ Below w.heap.size w w' := by
  rw [← S.cmp_before] at hr
  have HR := hide hr
  obtain ⟨W, hW⟩ : ∃ W, W = (w.alloc (.cells #[.string a.id, .int .i64 a.key, .slice x n c] 30)).alloc (.cells #[.string b.id, .int .i64 b.key, .slice y m d] 30) := ⟨_, rfl⟩
  have BW : Below w.heap.size w W := by rw [hW]; exact below_all (below_alloc _ _) _
  have HW := hide hW
  clear hW hr
  go_enter Try.func25, Try.ntmps25
  go_wp2_with fail
  rw [← unhide HW]
  refine (compare_any a b x y n c m d _).mono ?_
  rintro e w1 ⟨rfl, G1⟩
  have B1 := below_trans' BW G1.below
  go_wp2
  go_ret
  exact ⟨by rw [← unhide HR]; rfl, B1⟩

set_option maxHeartbeats 1000000 in
theorem rbefore_b (a b : Cd) (x y : Option Addr) (n c m d : Nat) (w : World) (hs : a.id.size ≤ maxLen) (r : Bool) (hr : S.before a b = r) :
    Calls Try.prog 54 #[.agg #[.string a.id, .int .i64 a.key, .slice x n c], .agg #[.string b.id, .int .i64 b.key, .slice y m d]] w fun e w' => e = .returned (.bool r) ∧ Below w.heap.size w w' := by
  obtain ⟨W, hW⟩ : ∃ W, W = (w.alloc (.cells #[.string a.id, .int .i64 a.key, .slice x n c] 30)).alloc (.cells #[.string b.id, .int .i64 b.key, .slice y m d] 30) := ⟨_, rfl⟩
  have BW : Below w.heap.size w W := by rw [hW]; exact below_all (below_alloc _ _) _
  have HW := hide hW
  by_cases h1 : a.key < b.key
  · have HR : Hid (r = true) := by show _ = _; rw [← hr]; simp [S.before, h1]
    clear hr hW
    go_enter Try.func54, Try.ntmps54
    go_wp2
    go_ret
    exact ⟨by rw [unhide HR]; rfl, by rw [← unhide HW]; exact BW⟩
  · by_cases h2 : a.key = b.key
    · have HR : Hid (K.lt a.id b.id = r) := by show _ = _; rw [← hr]; simp [S.before, h2]
      have h2' : (a.key == b.key) = true := by simpa using h2
      clear hr hW h2
      go_enter Try.func54, Try.ntmps54
      go_wp2_with (go_at_call 29; refine (below_b _ _ _ hs _ (unhide HR)).mono ?_; rintro e w1 ⟨rfl, n1, rfl⟩)
      go_ret
      exact ⟨rfl, below_dr (by rw [← unhide HW]; exact BW) n1⟩
    · have HR : Hid (r = false) := by show _ = _; rw [← hr]; simp [S.before, h1, h2]
      have h2' : (a.key == b.key) = false := by simpa using h2
      clear hr hW
      go_enter Try.func54, Try.ntmps54
      go_wp2
      go_ret
      exact ⟨by rw [unhide HR]; rfl, by rw [← unhide HW]; exact BW⟩

namespace S
def head (id : ByteArray) (key many : Int) : Bool := decide (1 ≤ id.size) && decide (id.size ≤ 16) && decide (0 ≤ key) && decide (key ≤ 1073741824) && decide (0 ≤ many) && decide (many ≤ 120)
def badw (x : ByteArray) : Bool := decide (x.size < 1) || decide (32 < x.size)
theorem fits_head (c : Cd) : fits c = (head c.id c.key c.w.length && !c.w.any badw) := by
  unfold fits head badw
  have h1 : (!c.w.any fun x => decide (x.size < 1) || decide (32 < x.size)) = c.w.all fun x => decide (1 ≤ x.size) && decide (x.size ≤ 32) := by
    rw [List.not_any_eq_all_not]
    congr 1
    funext x
    by_cases h1 : x.size < 1 <;> by_cases h2 : 32 < x.size <;> simp [h1, h2] <;> omega
  rw [h1]
  have h2 : decide ((c.w.length : Int) ≤ 120) = decide (c.w.length ≤ 120) := decide_eq_decide.2 (by omega)
  have h3 : decide (0 ≤ (c.w.length : Int)) = true := by simp
  rw [h2, h3]
  cases decide (c.w.length ≤ 120) <;> cases (c.w.all fun x => decide (1 ≤ x.size) && decide (x.size ≤ 32)) <;> simp
end S

set_option maxHeartbeats 1000000 in
theorem mayHead_b (id : ByteArray) (key many : Int) (w : World) (r : Bool) (hr : S.head id key many = r) :
    Calls Try.prog 58 #[.string id, .int .i64 key, .int .i64 many] w fun e w' => e = .returned (.bool r) ∧ w' = w := by
  unfold S.head at hr
  by_cases h : 1 ≤ id.size ∧ id.size ≤ 16 ∧ 0 ≤ key ∧ key ≤ 1073741824 ∧ 0 ≤ many ∧ many ≤ 120
  · obtain ⟨h1, h2, h3, h4, h5, h6⟩ := h
    have HR : Hid (r = true) := by show _ = _; rw [← hr]; simp [h1, h2, h3, h4, h5, h6]
    clear hr
    go_enter Try.func58, Try.ntmps58
    go_wp2
    go_ret
    exact ⟨by rw [unhide HR]; first | rfl | simp, rfl⟩
  · have HR : Hid (r = false) := by
      show _ = _
      rw [← hr]
      simp only [Bool.and_eq_false_iff, decide_eq_false_iff_not]
      omega
    have h' : id.size < 1 ∨ (1 ≤ id.size ∧ 16 < id.size) ∨ (1 ≤ id.size ∧ id.size ≤ 16 ∧ key < 0) ∨ (1 ≤ id.size ∧ id.size ≤ 16 ∧ 0 ≤ key ∧ 1073741824 < key) ∨ (1 ≤ id.size ∧ id.size ≤ 16 ∧ 0 ≤ key ∧ key ≤ 1073741824 ∧ many < 0) ∨ (1 ≤ id.size ∧ id.size ≤ 16 ∧ 0 ≤ key ∧ key ≤ 1073741824 ∧ 0 ≤ many ∧ 120 < many) := by omega
    clear h hr
    rcases h' with h1 | ⟨h1, h2⟩ | ⟨h1, h2, h3⟩ | ⟨h1, h2, h3, h4⟩ | ⟨h1, h2, h3, h4, h5⟩ | ⟨h1, h2, h3, h4, h5, h6⟩
    all_goals
      go_enter Try.func58, Try.ntmps58
      go_wp2
      go_ret
      exact ⟨by rw [unhide HR]; first | rfl | (simp; omega), rfl⟩

set_option maxHeartbeats 1000000 in
theorem badw_b (x : ByteArray) (w : World) (r : Bool) (hr : S.badw x = r) :
    Calls Try.prog 60 #[.string x] w fun e w' => e = .returned (.bool r) ∧ w' = w := by
  unfold S.badw at hr
  have h' : x.size < 1 ∨ (1 ≤ x.size ∧ 32 < x.size) ∨ (1 ≤ x.size ∧ x.size ≤ 32) := by omega
  rcases h' with h1 | ⟨h1, h2⟩ | ⟨h1, h2⟩
  · have HR : Hid (r = true) := by show _ = _; rw [← hr]; simp [h1]
    clear hr
    go_enter Try.func60, Try.ntmps60
    go_wp2
    go_ret
    exact ⟨by rw [unhide HR]; first | rfl | (simp; omega), rfl⟩
  · have HR : Hid (r = true) := by show _ = _; rw [← hr]; simp [h2]
    clear hr
    go_enter Try.func60, Try.ntmps60
    go_wp2
    go_ret
    exact ⟨by rw [unhide HR]; first | rfl | (simp; omega), rfl⟩
  · have HR : Hid (r = false) := by show _ = _; rw [← hr, Bool.or_eq_false_iff]; simp only [decide_eq_false_iff_not]; omega
    clear hr
    go_enter Try.func60, Try.ntmps60
    go_wp2
    go_ret
    exact ⟨by rw [unhide HR]; first | rfl | (simp; omega), rfl⟩

set_option maxHeartbeats 1000000 in
theorem indexBad_any (v : Value) (l : List ByteArray) (w : World) (h : Gl .string w v l) :
    Calls Try.prog 71 #[v, .func (.func 60) #[] #[]] w fun e w' => (∃ k : Nat, e = .returned (.int .i64 k) ∧ l.any S.badw = true ∧ w' = w) ∨ (e = .returned (.int .i64 (-1)) ∧ l.any S.badw = false ∧ w' = w) := by
  obtain ⟨a, cap, rfl, hl, hm, hna, ho⟩ := h.open
  clear h
  go_enter Try.func71, Try.ntmps71
  go_wp2
  go_loop [8] (fun iv => ∃ k : Nat, k ≤ l.length ∧ iv = .int .i64 k ∧ (l.take k).any S.badw = false) (fun iv => l.length - (intOf iv).toNat)
  case atStart => exact ⟨0, Nat.zero_le _, rfl, rfl⟩
  case round =>
    obtain ⟨k, hk, rfl, ht⟩ := hrel
    have HT := hide ht
    clear ht
    by_cases hlt : k < l.length
    · obtain ⟨b, off, rfl, hb, hc⟩ := ho (by omega)
      obtain ⟨x, hx⟩ : ∃ x, l[k]? = some x := ⟨l[k], List.getElem?_eq_getElem hlt⟩
      have c1 := hc k x hx
      have HX := hide hx
      clear hc ho hx
      cases hb9 : S.badw x with
      | true =>
        have HB := hide hb9
        clear hb9
        go_wp2_with (go_at_call 60; refine (badw_b _ _ _ (unhide HB)).mono ?_; rintro e w' ⟨rfl, rfl⟩)
        go_ret
        exact .inl ⟨k, rfl, List.any_eq_true.2 ⟨x, List.mem_of_getElem? (unhide HX), unhide HB⟩, rfl⟩
      | false =>
        have HB := hide hb9
        clear hb9
        go_wp2_with (go_at_call 60; refine (badw_b _ _ _ (unhide HB)).mono ?_; rintro e w' ⟨rfl, rfl⟩)
        go_round
        case rel =>
          refine ⟨k + 1, by omega, by go_num, ?_⟩
          obtain ⟨hk', e⟩ := List.getElem?_eq_some_iff.1 (unhide HX)
          rw [List.take_succ_eq_append_getElem hk', List.any_append, unhide HT, e]
          simp [unhide HB]
        case measure => simp [intOf]; omega
    · go_wp2
      go_ret
      have e := unhide HT
      rw [List.take_of_length_le (by omega)] at e
      exact .inr ⟨rfl, by simpa using e, rfl⟩

set_option maxHeartbeats 1000000 in
theorem anyBad_b (v : Value) (l : List ByteArray) (w : World) (h : Gl .string w v l) (r : Bool) (hr : l.any S.badw = r) :
    Calls Try.prog 59 #[v, .func (.func 60) #[] #[]] w fun e w' => e = .returned (.bool r) ∧ w' = w := by
  have HR := hide hr
  have C := indexBad_any v l w h
  clear hr h
  go_enter Try.func59, Try.ntmps59
  go_wp2_with fail
  refine C.mono ?_
  rintro e w1 (⟨k, rfl, h2, rfl⟩ | ⟨rfl, h2, rfl⟩)
  · have HR2 : Hid (r = true) := by show _ = _; rw [← unhide HR]; exact h2
    clear h2
    go_wp2
    go_ret
    exact ⟨by rw [unhide HR2]; first | rfl | simp, rfl⟩
  · have HR2 : Hid (r = false) := by show _ = _; rw [← unhide HR]; exact h2
    clear h2
    go_wp2
    go_ret
    exact ⟨by rw [unhide HR2]; rfl, rfl⟩

/-! ### unlike -/

theorem keyed9 : Keyed Try.prog 9 := string_keyed Try.underlying9
theorem zero3 (w : World) : (zeroValue 3).run Try.prog w = .ok (.int .i64 0) w := by kernel_rfl
theorem lit_ne {a b : ByteArray} (h : a ≠ b) : Lit.string a.data.toList ≠ Lit.string b.data.toList := by
  intro e
  simp only [Lit.string.injEq] at e
  exact h (ByteArray.ext (Array.ext' e))

/-- The map holds just the first k texts. -/
def Has8 (D : DataW Unit) (l : List ByteArray) (k : Nat) : Prop := (∀ s : ByteArray, Maps.has D (.string s.data.toList) = true ↔ s ∈ l.take k) ∧ Maps.size D ≤ k ∧ (Maps.size D = k ↔ (l.take k).Nodup)

theorem Has8.start (l : List ByteArray) : Has8 (.map []) l 0 := ⟨fun s => by simp [Maps.has], Nat.le_refl _, by simp [Maps.size]⟩
theorem Has8.step {D : DataW Unit} {l : List ByteArray} {k : Nat} {x : ByteArray} {d : DataW Unit} (h : Has8 D l k) (ht : Tidy D) (hx : l[k]? = some x) : Has8 (D.put (.string x.data.toList) d) l (k + 1) := by
  obtain ⟨h1, h2, h3⟩ := h
  obtain ⟨hk, e⟩ := List.getElem?_eq_some_iff.1 hx
  have et : l.take (k + 1) = l.take k ++ [x] := by rw [List.take_succ_eq_append_getElem hk, e]
  have hs := size_put (k := .string x.data.toList) ht d
  have hnd : (l.take k ++ [x]).Nodup ↔ (l.take k).Nodup ∧ x ∉ l.take k := by
    rw [List.nodup_append]
    constructor
    · rintro ⟨a, _, b⟩
      exact ⟨a, fun hm => b x hm x (by simp) rfl⟩
    · rintro ⟨a, b⟩
      refine ⟨a, by simp, fun y hy z hz => ?_⟩
      simp only [List.mem_singleton] at hz
      subst hz
      exact fun e => b (e ▸ hy)
  refine ⟨fun s => ?_, ?_, ?_⟩
  · rw [et, List.mem_append, List.mem_singleton]
    by_cases hsx : s = x
    · subst hsx
      rw [has_put_same ht.isMap (by simp [WideAt.IsKeyLit])]
      simp
    · rw [has_put_other (lit_ne hsx), h1 s]
      simp [hsx]
  · rw [hs]
    split <;> omega
  · rw [hs, et, hnd]
    split
    · rename_i hh
      have := (h1 x).1 hh
      constructor
      · intro e; omega
      · rintro ⟨_, b⟩; exact absurd this b
    · rename_i hh
      have : x ∉ l.take k := fun hm => hh ((h1 x).2 hm)
      constructor
      · intro e; exact ⟨h3.1 (by omega), this⟩
      · rintro ⟨a, _⟩; have := h3.2 a; omega

set_option maxHeartbeats 1000000 in
theorem unlike_b (v : Value) (l : List ByteArray) (w : World) (h : Gl .string w v l) (hz : ∀ x ∈ l, x.size ≤ maxLen) (r : Bool) (hr : decide l.Nodup = r) :
    Calls Try.prog 61 #[v] w fun e w' => e = .returned (.bool r) ∧ Below w.heap.size w w' := by
  have hll := h.len
  obtain ⟨a, cap, rfl, hl, hm, hna, ho⟩ := h.open
  have HR := hide hr
  clear h hr
  have hmm := @run_makeMap Try.prog
  go_enter Try.func61, Try.ntmps61
  go_wp2
  go_loopw [9] (fun i wr => ∃ (k : Nat) (D : DataW Unit), k ≤ l.length ∧ i = .int .i64 k ∧ wr.ownsMap Try.prog 9 (plainElem Try.prog 3) w.heap.size k D ∧ Has8 D l k ∧ Below w.heap.size w wr) (fun i _ => l.length - (intOf i).toNat)
  case atStart => exact ⟨0, _, Nat.zero_le _, rfl, World.ownsMap_made _ _ _ _, Has8.start l, below_alloc _ _⟩
  case round =>
    obtain ⟨k, D, hk, rfl, hown, htel, hbel⟩ := hrel
    have HT := hide htel
    clear htel
    by_cases hlt : k < l.length
    · obtain ⟨x, hx⟩ : ∃ x, l[k]? = some x := ⟨l[k], List.getElem?_eq_getElem hlt⟩
      obtain ⟨b, off, rfl, hb, hc⟩ := ho (by omega)
      have d0 := (hbel.cell (p := ⟨b, off + k, none⟩) hb).trans (hc k x hx)
      have hns : x.size ≤ maxLen := hz x (List.mem_of_getElem? hx)
      have hkey : keyOf Try.prog 9 (.string x) = some (.string x.data.toList) := keyOf_string_mk Try.underlying9 hns
      have hbs := hbel.size
      have HS := hide (fun h => Has8.step (D := D) (d := .lit (.int .i64 k)) h (hown.tidy keyed9) hx)
      clear hc ho hx
      go_wp2_with (first
        | (at_mapUpdate; refine wpList_mapUpdate_own _ rfl _ _ _ 76 rfl 9 3 keyed9 Try.underlying76 _ w.heap.size k _ rfl hown (by unfold maxLen; omega) _ _ _ rfl rfl hkey _ [] (plainElem_int Try.underlying3 (WalkArith.wf_i64 (by omega))) ?_)
        | go_in)
      intro w1 hown1 hgrow1
      have R2 := hbel.grown hgrow1 (by omega) (fun j hj => by cases hj; exact Nat.le_refl _)
      clear hgrow1
      go_wp2
      go_roundw
      case rel => exact ⟨k + 1, _, by omega, by go_num, hown1, unhide HS (unhide HT), R2⟩
      case measure => simp [intOf]; omega
    · have hkl : k = l.length := by omega
      subst hkl
      have h9 := unhide HT
      obtain ⟨m, hm9⟩ : ∃ m, Maps.size D = m := ⟨_, rfl⟩
      have HD : Hid (m = l.length ↔ l.Nodup) := by
        show _ ↔ _
        have := h9.2.2
        rw [List.take_length, hm9] at this
        exact this
      clear h9 ho
      by_cases he : m = l.length
      · have he' : ((m : Int) == (l.length : Int)) = true := by simp [he]
        have HR2 : Hid (r = true) := by show _ = _; rw [← unhide HR]; simpa using (unhide HD).1 he
        clear he
        go_wp2_with (at_len; refine wpList_len_own _ rfl _ 76 rfl 9 3 Try.underlying76 _ w.heap.size l.length D rfl hown ?_; rw [hm9])
        go_ret
        exact ⟨by rw [unhide HR2]; rfl, hbel⟩
      · have he' : ((m : Int) == (l.length : Int)) = false := by simp; omega
        have HR2 : Hid (r = false) := by show _ = _; rw [← unhide HR]; simpa using fun h => he ((unhide HD).2 h)
        clear he
        go_wp2_with (at_len; refine wpList_len_own _ rfl _ 76 rfl 9 3 Try.underlying76 _ w.heap.size l.length D rfl hown ?_; rw [hm9])
        go_ret
        exact ⟨by rw [unhide HR2]; rfl, hbel⟩
end Go.Proofs.Ytefnkbgkcjhkoaa

/-
  The contract of mayAll: may all cards be, no two of one id?
-/
namespace Go.Proofs.Ytefnkbgkcjhkoaa
set_option maxRecDepth 100000
open Go.RowKit

namespace S
def mayAll (l : List Cd) : Bool := l.all fits && decide (l.map (·.id)).Nodup
end S

theorem take_snoc8 {α : Type} {l : List α} {k : Nat} {x : α} (h : l[k]? = some x) : l.take (k + 1) = l.take k ++ [x] := by
  obtain ⟨hk, rfl⟩ := List.getElem?_eq_some_iff.1 h
  exact List.take_succ_eq_append_getElem hk

set_option maxHeartbeats 2000000 in
theorem mayAll_b (v : Value) (L : List Cd) (w : World) (h : Cs w v L) (hlen : L.length ≤ 4398046511104) (r : Bool) (hr : S.mayAll L = r) :
    Calls Try.prog 45 #[v] w fun e w' => e = .returned (.bool r) ∧ Below w.heap.size w w' := by
  obtain ⟨i9, hi9, hz90, hz91, hz92⟩ := info_parts Try.infoS
  have H := h
  obtain ⟨a, cap, rfl, hl, hm, hna, -⟩ := h.open
  have HR := hide hr
  clear h hr
  go_enter Try.func45, Try.ntmps45
  go_wp2
  go_loopw [3, 8] (fun ov iv wr => ∃ (k : Nat) (pre : List ByteArray), k ≤ L.length ∧ iv = .int .i64 k ∧ Hid (pre = (L.take k).map (·.id)) ∧ Hid (pre.length = k) ∧ Hid ((L.take k).all S.fits = true) ∧ wr.ownsRow w.heap.size 9 1 ov pre.length (pre.map Value.string) ∧ Below w.heap.size w wr) (fun _ iv _ => L.length - (intOf iv).toNat)
  case atStart => exact ⟨0, [], Nat.zero_le _, rfl, rfl, rfl, rfl, World.ownsRow_nil _ _ _ _, Below.refl _ _⟩
  case round =>
    obtain ⟨k, pre, hk, rfl, HP, HPL, HF, hown, hbel⟩ := hrel
    have hpl : pre.length ≤ 4398046511104 := by have := unhide HPL; omega
    by_cases hlt : k < L.length
    · have H1 := H.below hbel
      obtain ⟨a', cap', hv', -, -, -, ho⟩ := H1.open
      simp only [Value.slice.injEq, true_and] at hv'
      obtain ⟨rfl, rfl⟩ := hv'
      obtain ⟨b, off, rfl, hb, hc⟩ := ho (by omega)
      obtain ⟨c, hx⟩ : ∃ c, L[k]? = some c := ⟨L[k], List.getElem?_eq_getElem hlt⟩
      obtain ⟨wa, wc, c0, c1, c2, G0⟩ := hc k c hx
      have HX := hide hx
      have HTS := hide (take_snoc8 hx)
      have hmem := hide (List.mem_of_getElem? hx)
      have G1 := G0.below (below_alloc wr (.cells #[.string c.id, .int .i64 c.key, .slice wa c.w.length wc] 30))
      have O1 := hown.alloc (.cells #[.string c.id, .int .i64 c.key, .slice wa c.w.length wc] 30)
      have B1 := hbel.alloc hbel.size (.cells #[.string c.id, .int .i64 c.key, .slice wa c.w.length wc] 30)
      have hbs := hbel.size
      clear ho hc hx H1
      cases hh : S.head c.id c.key c.w.length with
      | false =>
        have HH := hide hh
        have HR2 : Hid (r = false) := by
          show _ = _
          rw [← unhide HR, S.mayAll]
          have : S.fits c = false := by rw [S.fits_head, hh]; rfl
          have : L.all S.fits = false := by
            rw [← Bool.not_eq_true, List.all_eq_true]
            intro h9
            have := h9 c (unhide hmem)
            simp_all
          rw [this]; rfl
        clear hh
        go_wp2_with (go_at_call 58; refine (mayHead_b _ _ _ _ _ (unhide HH)).mono ?_; rintro e w' ⟨rfl, rfl⟩)
        go_ret
        exact ⟨by rw [unhide HR2]; rfl, B1⟩
      | true =>
        cases hbd : c.w.any S.badw with
        | true =>
          have HH := hide hh
          have HB := hide hbd
          have HR2 : Hid (r = false) := by
            show _ = _
            rw [← unhide HR, S.mayAll]
            have : S.fits c = false := by rw [S.fits_head, hh, hbd]; rfl
            have : L.all S.fits = false := by
              rw [← Bool.not_eq_true, List.all_eq_true]
              intro h9
              have := h9 c (unhide hmem)
              simp_all
            rw [this]; rfl
          clear hh hbd
          go_wp2_with (first | (go_at_call 58; refine (mayHead_b _ _ _ _ _ (unhide HH)).mono ?_; rintro e w' ⟨rfl, rfl⟩) | (go_at_call 59; refine (anyBad_b _ _ _ G1 _ (unhide HB)).mono ?_; rintro e w' ⟨rfl, rfl⟩))
          go_ret
          exact ⟨by rw [unhide HR2]; rfl, B1⟩
        | false =>
          have HH := hide hh
          have HB := hide hbd
          have HFC : Hid (S.fits c = true) := by show _ = _; rw [S.fits_head, hh, hbd]; rfl
          clear hh hbd
          go_wp2_with (first
            | (go_at_call 58; refine (mayHead_b _ _ _ _ _ (unhide HH)).mono ?_; rintro e w' ⟨rfl, rfl⟩)
            | (go_at_call 59; refine (anyBad_b _ _ _ G1 _ (unhide HB)).mono ?_; rintro e w' ⟨rfl, rfl⟩)
            | (at_builtin; refine append_oneL (f := Value.string) rfl _ _ 28 rfl Try.underlying28 hi9 hz90 hz91 hz92 rfl (fun _ => rfl) (pre := pre) c.id rfl rfl (by simp) O1 (by simp; omega) (by omega) (by omega) ?_; intro g gc w5 O5 g5 l5))
          have B5 := B1.grown g5 (by simp; omega) (fun j hj => (O1.lt j hj).1)
          clear g5 l5 O1 B1 G1 hown
          go_wp2
          go_roundw
          case rel =>
            refine ⟨k + 1, pre ++ [c.id], by omega, by go_num, ?_, by (show _ = _; have := unhide HPL; simp [this]), ?_, O5, B5⟩
            · show _ = _
              rw [unhide HTS, List.map_append, ← unhide HP]; rfl
            · show _ = _
              rw [unhide HTS, List.all_append, unhide HF]
              simp [unhide HFC]
          case measure => simp [intOf]; omega
    · have hkl : k = L.length := by omega
      have HL : Hid (pre = L.map (·.id)) := by show _ = _; rw [unhide HP, List.take_of_length_le (by omega)]
      have HA : Hid (L.all S.fits = true) := by have := unhide HF; rw [List.take_of_length_le (by omega)] at this; exact this
      have G1 := Gl.owned hown
      have hz : ∀ x ∈ pre, x.size ≤ maxLen := by
        intro x hx
        rw [unhide HL] at hx
        obtain ⟨c, hc, rfl⟩ := List.mem_map.1 hx
        have := List.all_eq_true.1 (unhide HA) c hc
        simp only [S.fits, Bool.and_eq_true, decide_eq_true_eq] at this
        unfold maxLen
        omega
      have HN : Hid (decide pre.Nodup = r) := by show _ = _; rw [← unhide HR, S.mayAll, unhide HA, unhide HL]; rfl
      go_wp2_with fail
      refine (unlike_b _ _ _ G1 hz _ (unhide HN)).mono ?_
      rintro e w2 ⟨rfl, B2⟩
      have BB := below_trans' hbel B2
      go_wp2
      go_ret
      exact ⟨rfl, BB⟩
end Go.Proofs.Ytefnkbgkcjhkoaa

/-
  The contracts of the document's own Fits and places.
-/
namespace Go.Proofs.Ytefnkbgkcjhkoaa
set_option maxRecDepth 100000
open Go.RowKit

theorem fits_no {c : Cd} {r : Bool} (hr : S.fits c = r) (h : ¬ (c.w.length ≤ 120 ∧ (∀ x ∈ c.w, 1 ≤ x.size ∧ x.size ≤ 32) ∧ 1 ≤ c.id.size ∧ c.id.size ≤ 16 ∧ 0 ≤ c.key ∧ c.key ≤ 1073741824)) : r = false := by
  cases r with
  | false => rfl
  | true => exact absurd (S.fits_w hr) h
theorem fits_yes {c : Cd} {r : Bool} (hr : S.fits c = r) (h : c.w.length ≤ 120 ∧ (∀ x ∈ c.w, 1 ≤ x.size ∧ x.size ≤ 32) ∧ 1 ≤ c.id.size ∧ c.id.size ≤ 16 ∧ 0 ≤ c.key ∧ c.key ≤ 1073741824) : r = true := by
  rw [← hr]
  simp only [S.fits, Bool.and_eq_true, decide_eq_true_eq, List.all_eq_true]
  exact ⟨⟨⟨⟨⟨h.1, fun x hx => h.2.1 x hx⟩, h.2.2.1⟩, h.2.2.2.1⟩, h.2.2.2.2.1⟩, h.2.2.2.2.2⟩

set_option maxRecDepth 100000 in
set_option maxHeartbeats 4000000 in
theorem rfits_b (c : Cd) (wa : Option Addr) (wc : Nat) (w : World) (h : Gl .string w (.slice wa c.w.length wc) c.w) (r : Bool) (hr : S.fits c = r) :
    Calls Try.prog 28 #[.agg #[.string c.id, .int .i64 c.key, .slice wa c.w.length wc]] w fun e w' => e = .returned (.bool r) ∧ Below w.heap.size w w' := by
  obtain ⟨W, hW⟩ : ∃ W, W = w.alloc (.cells #[.string c.id, .int .i64 c.key, .slice wa c.w.length wc] 30) := ⟨_, rfl⟩
  have BW : Below w.heap.size w W := by rw [hW]; exact below_alloc _ _
  have X0 : W.heap[w.heap.size]? = some (.cells #[.string c.id, .int .i64 c.key, .slice wa c.w.length wc] 30 (0, 0)) := by rw [hW]; exact heap_alloc_new w _
  have HG := h.below BW
  have HR := hide hr
  have HW := hide hW
  have x0 := box_cell X0 (j := 0) rfl
  have x1 := box_cell X0 (j := 1) rfl
  have x2 := box_cell X0 (j := 2) rfl
  obtain ⟨a', c', hv', hl', hm', hn', hoW⟩ := HG.open
  simp only [Value.slice.injEq, true_and] at hv'
  obtain ⟨rfl, rfl⟩ := hv'
  clear hW h hr X0 HG
  by_cases h120 : 120 < c.w.length
  · have hf : r = false := fits_no (unhide HR) (fun h => by omega)
    subst hf
    clear hoW
    go_enter Try.func28, Try.ntmps28
    go_wp2
    go_ret
    exact ⟨rfl, by rw [← unhide HW]; exact BW⟩
  go_enter Try.func28, Try.ntmps28
  go_wp2
  rw [← unhide HW]
  go_loop [3] (fun iv => ∃ k : Nat, k ≤ c.w.length ∧ iv = .int .i64 k ∧ Hid (∀ i x, i < k → c.w[i]? = some x → 1 ≤ x.size ∧ x.size ≤ 32)) (fun iv => c.w.length - (intOf iv).toNat)
  case atStart => exact ⟨0, Nat.zero_le _, rfl, hide (fun i y hi _ => by omega)⟩
  case round =>
    obtain ⟨k, hk, rfl, HA⟩ := hrel
    by_cases hlt : k < c.w.length
    · obtain ⟨b, off, rfl, hb, hc⟩ := hoW (by omega)
      obtain ⟨x, hx⟩ : ∃ x, c.w[k]? = some x := ⟨c.w[k], List.getElem?_eq_getElem hlt⟩
      have d0 := hc k x hx
      have HX := hide hx
      clear hoW hc hx
      by_cases h1 : x.size < 1
      · have hf : r = false := fits_no (unhide HR) (fun h => by have := h.2.1 x (List.mem_of_getElem? (unhide HX)); omega)
        subst hf
        go_wp2
        go_ret
        exact ⟨rfl, BW⟩
      by_cases h2 : 32 < x.size
      · have hf : r = false := fits_no (unhide HR) (fun h => by have := h.2.1 x (List.mem_of_getElem? (unhide HX)); omega)
        subst hf
        go_wp2
        go_ret
        exact ⟨rfl, BW⟩
      · go_wp2
        go_round
        case rel =>
          refine ⟨k + 1, by omega, by go_num, hide (fun i y hi hy => ?_)⟩
          by_cases e : i = k
          · subst e
            rw [unhide HX] at hy
            cases hy
            omega
          · exact unhide HA i y (by omega) hy
        case measure => simp [intOf]; omega
    · clear hoW
      have HWD : Hid (∀ x ∈ c.w, 1 ≤ x.size ∧ x.size ≤ 32) := hide (fun x hx => by
        obtain ⟨m, hm2, e2⟩ := List.mem_iff_getElem.1 hx
        exact unhide HA m x (by omega) (by rw [List.getElem?_eq_getElem hm2, e2]))
      by_cases g1 : c.id.size < 1
      · have hf : r = false := fits_no (unhide HR) (fun h => by omega)
        subst hf
        go_wp2
        go_ret
        exact ⟨rfl, BW⟩
      by_cases g2 : 16 < c.id.size
      · have hf : r = false := fits_no (unhide HR) (fun h => by omega)
        subst hf
        go_wp2
        go_ret
        exact ⟨rfl, BW⟩
      by_cases g3 : c.key < 0
      · have hf : r = false := fits_no (unhide HR) (fun h => by omega)
        subst hf
        go_wp2
        go_ret
        exact ⟨rfl, BW⟩
      by_cases g4 : 1073741824 < c.key
      · have hf : r = false := fits_no (unhide HR) (fun h => by omega)
        subst hf
        have g5 : decide (c.key ≤ 1073741824) = false := by simp; omega
        go_wp2
        go_ret
        refine ⟨?_, BW⟩
        first | rfl | (simp; omega)
      · have hf : r = true := fits_yes (unhide HR) ⟨by omega, unhide HWD, by omega, by omega, by omega, by omega⟩
        subst hf
        go_wp2
        go_ret
        exact ⟨rfl, BW⟩

end Go.Proofs.Ytefnkbgkcjhkoaa

/-
  The contract of the document's own In: cards put in order.
-/
namespace Go.Proofs.Ytefnkbgkcjhkoaa
set_option maxRecDepth 100000
open Go.RowKit

/-- From an element on. -/
theorem Kl.drop {α : Type} {f : α → List Value} {k : Nat} {w : World} {b off n cap : Nat} {l : List α} (h : Kl f k w (.slice (some ⟨b, off, none⟩) n cap) l) (j : Nat) (hj : j ≤ l.length) : Kl f k w (.slice (some ⟨b, off + j * k, none⟩) (n - j) (cap - j)) (l.drop j) := by
  obtain ⟨a, c, hv, hl, hm, hn, hc⟩ := h
  simp only [Value.slice.injEq] at hv
  obtain ⟨rfl, rfl, rfl⟩ := hv
  refine ⟨_, _, by rw [List.length_drop], by rw [List.length_drop]; omega, by omega, (fun h => by cases h), fun x hx i y hi r u hu => ?_⟩
  obtain rfl := Option.some.inj hx
  rw [List.getElem?_drop] at hi
  have := hc _ rfl (j + i) y hi r u hu
  rw [Addr.add_lit] at this ⊢
  rw [show off + j * k + (i * k + r) = off + ((j + i) * k + r) by rw [Nat.add_mul]; omega]
  exact this

def Fm (v : Value) (n : Nat) : Prop := (v = .slice none 0 0 ∧ n = 0) ∨ ∃ g off cap, v = .slice (some ⟨g, off, none⟩) n cap
theorem Fm.of {w : World} {B : Nat} {e : TypeId} {k : Nat} {v : Value} {n : Nat} {xs : List Value} (h : w.ownsRow B e k v n xs) : Fm v n := by
  rcases h.2 with hn | ⟨g, cap, cur, rfl, _⟩
  · exact .inl hn
  · exact .inr ⟨g, 0, cap, rfl⟩
theorem Kl.zero {α : Type} {f : α → List Value} {k : Nat} {w : World} {a : Option Addr} {cap : Nat} (hc : cap ≤ maxLen) (hn : a = none → cap = 0) : Kl f k w (.slice a 0 cap) [] :=
  ⟨a, cap, rfl, Nat.zero_le _, hc, hn, fun x hx i y hi => by simp at hi⟩
theorem Cs.ps {w : World} {v : Value} {ps : List (Cd × Pts)} (h : Kl encC 3 w v ps) (hw : Ws w ps) : Cs w v (ps.map (·.1)) := ⟨ps, h, rfl, hw⟩

set_option linter.unusedSimpArgs false in
set_option maxRecDepth 100000 in
set_option maxHeartbeats 8000000 in
theorem in_any (v : Value) (L : List Cd) (w : World) (h : Cs w v L) (hll : L.length ≤ 2000) (hid : ∀ c ∈ L, c.id.size ≤ 1000) :
    Calls Try.prog 42 #[v] w fun e w' => ∃ v', e = .returned v' ∧ Cs w' v' (S.srt L) ∧ Below w.heap.size w w' := by
  obtain ⟨i0, hi, hz0, hz1, hz2⟩ := info_parts Try.infoC
  obtain ⟨rs, hK, hrs, hWs⟩ := h
  have hrl : rs.length = L.length := by rw [← hrs, List.length_map]
  have HH : Cs w v L := ⟨rs, hK, hrs, hWs⟩
  obtain ⟨a, cap, rfl, hl, hm, hna, -⟩ := HH.open
  have HRS := hide hrs
  have HID := hide hid
  clear hrs hid
  go_enter Try.func42, Try.ntmps42
  go_wp2
  go_loopw [3, 4] (fun ov iv wr => ∃ (i : Nat) (ps : List (Cd × Pts)), i ≤ L.length ∧ iv = .int .i64 i ∧ Hid (ps.map (·.1) = S.srt (L.take i)) ∧ ps.length ≤ i ∧ Hid (Fm ov ps.length) ∧ Kl encC 3 wr ov ps ∧ Ws wr ps ∧ Below w.heap.size w wr) (fun _ iv _ => L.length - (intOf iv).toNat)
  case atStart => exact ⟨0, [], Nat.zero_le _, rfl, rfl, Nat.zero_le _, hide (.inl ⟨rfl, rfl⟩), Kl.nil _ _ _, (fun p hp => by cases hp), Below.refl _ _⟩
  case round =>
    obtain ⟨i, ps, hi', rfl, HP, hpl, HFM, hKp, hWp, hbel⟩ := hrel
    by_cases hlt : i < L.length
    · obtain ⟨wo, hwo⟩ : ∃ wo, wo = wr := ⟨_, rfl⟩
      rw [← hwo] at hKp hWp hbel ⊢
      clear hwo
      obtain ⟨c, hx⟩ : ∃ c, rs[i]? = some c := ⟨rs[i], List.getElem?_eq_getElem (by omega)⟩
      have hLx : L[i]? = some c.1 := by rw [← unhide HRS, List.getElem?_map, hx]; rfl
      have HTS : Hid (S.srt (L.take (i + 1)) = S.ins (S.srt (L.take i)) c.1) := by
        show _ = _
        rw [take_snoc8 hLx]
        unfold S.srt
        rw [List.foldl_append]
        rfl
      have hwc := hWs c (List.mem_of_getElem? hx)
      have hidc := unhide HID c.1 (List.mem_of_getElem? hLx)
      obtain ⟨oa, oc, rfl, hol, hom, hon, -⟩ := hKp.open encC_len (by decide)
      have HX := hide hx
      have HIP : Hid (∀ q ∈ ps, q.1.id.size ≤ 1000) := hide (fun q hq => by
        have h1 : q.1 ∈ S.srt (L.take i) := by rw [← unhide HP]; exact List.mem_map.2 ⟨q, hq, rfl⟩
        exact unhide HID _ (List.mem_of_mem_take ((S.srt_perm _).subset h1)))
      clear hx hLx
      go_wp2
      go_loopw [5, 6] (fun nv kv wr => ∃ (k : Nat) (pre : List (Cd × Pts)), k ≤ ps.length ∧ kv = .int .i64 k ∧ Hid (pre = ps.take k) ∧ pre.length ≤ k ∧ Hid (∀ j q, j < k → ps[j]? = some q → S.before q.1 c.1 = true) ∧ wr.ownsRow wo.heap.size 30 3 nv pre.length (pre.flatMap encC) ∧ Below wo.heap.size wo wr) (fun _ kv _ => ps.length - (intOf kv).toNat)
      case atStart => exact ⟨0, [], Nat.zero_le _, rfl, rfl, Nat.zero_le _, hide (fun j q hj _ => by omega), World.ownsRow_nil _ _ _ _, Below.refl _ _⟩
      case round =>
        obtain ⟨k, pre, hk, rfl, HPR, hprl, HB, hown, hb2⟩ := hrel
        obtain ⟨a', c', hv', -, -, -, ho⟩ := (hK.below (below_trans' hbel hb2)).open encC_len (by decide)
        simp only [Value.slice.injEq] at hv'
        obtain ⟨rfl, -, rfl⟩ := hv'
        obtain ⟨b1, o1, rfl, hb1, hc1⟩ := ho (by omega)
        clear ho
        have d0 := hc1 i c (unhide HX) 0 _ rfl
        have d1 := hc1 i c (unhide HX) 1 _ rfl
        have d2 := hc1 i c (unhide HX) 2 _ rfl
        simp only [Nat.add_zero, ← Nat.add_assoc, sv] at d0 d1 d2
        have hbs := hb2.size
        clear hc1
        have fin : ∀ (hins : S.ins (S.srt (L.take i)) c.1 = (pre.map (·.1)) ++ c.1 :: (ps.drop k).map (·.1)), True := fun _ => trivial
        clear fin
        by_cases hkt : k < ps.length
        · obtain ⟨q, hq⟩ : ∃ q, ps[k]? = some q := ⟨ps[k], List.getElem?_eq_getElem hkt⟩
          obtain ⟨a', c', hv', -, -, -, ho⟩ := (hKp.below hb2).open encC_len (by decide)
          simp only [Value.slice.injEq, true_and] at hv'
          obtain ⟨rfl, rfl⟩ := hv'
          obtain ⟨b3, o3, rfl, hb3, hc3⟩ := ho (by omega)
          clear ho
          have e0 := hc3 k q hq 0 _ rfl
          have e1 := hc3 k q hq 1 _ rfl
          have e2 := hc3 k q hq 2 _ rfl
          simp only [Nat.add_zero, ← Nat.add_assoc, sv] at e0 e1 e2
          have hqid := unhide HIP q (List.mem_of_getElem? hq)
          have HQ := hide hq
          clear hc3 hq
          cases hbf : S.before q.1 c.1 with
          | true =>
            have HBF := hide hbf
            clear hbf
            have g0 : ∀ w', Below wr.heap.size wr w' → w'.cell? ⟨b3, o3 + k * 3, none⟩ = some (.string q.1.id) := fun w' hw' => cell_keep e0 hw'
            have g1 : ∀ w', Below wr.heap.size wr w' → w'.cell? ⟨b3, o3 + k * 3 + 1, none⟩ = some (.int .i64 q.1.key) := fun w' hw' => cell_keep e1 hw'
            have g2 : ∀ w', Below wr.heap.size wr w' → w'.cell? ⟨b3, o3 + k * 3 + 2, none⟩ = some (.slice q.2.1 q.2.2.1 q.2.2.2) := fun w' hw' => cell_keep e2 hw'
            have k0 : ∀ w', Below wr.heap.size wr w' → w'.cell? ⟨b1, o1 + i * 3, none⟩ = some (.string c.1.id) := fun w' hw' => cell_keep d0 hw'
            have k1 : ∀ w', Below wr.heap.size wr w' → w'.cell? ⟨b1, o1 + i * 3 + 1, none⟩ = some (.int .i64 c.1.key) := fun w' hw' => cell_keep d1 hw'
            have k2 : ∀ w', Below wr.heap.size wr w' → w'.cell? ⟨b1, o1 + i * 3 + 2, none⟩ = some (.slice c.2.1 c.2.2.1 c.2.2.2) := fun w' hw' => cell_keep d2 hw'
            have p1 : (k : Int) < (ps.length : Int) := by omega
            have p2 : (i : Int) < (L.length : Int) := by omega
            go_wp2
            refine region_below (by kernel_rfl) (by kernel_rfl) ?_
            repeat
              (first
                | go_big_quiet_skip
                | (go_big_quiet_want; go_big_quiet_op
                   first
                     | go_big_quiet_on
                     | (apply Exists.intro
                        refine ⟨fun w' hw' => ?_, ?_⟩
                        · first
                          | exact rfl
                          | (rw [g0 w' hw']; dsimp only [Result.andThen]; rw [g1 w' hw']; dsimp only [Result.andThen]; rw [g2 w' hw']; exact ⟨rfl, rfl⟩)
                          | (rw [k0 w' hw']; dsimp only [Result.andThen]; rw [k1 w' hw']; dsimp only [Result.andThen]; rw [k2 w' hw']; exact ⟨rfl, rfl⟩)
                          | (go_at_call 54; exact (rbefore_b q.1 c.1 _ _ _ _ _ _ _ (by unfold maxLen; omega) _ (unhide HBF)).mono fun e w'' ⟨h1, h2⟩ => ⟨h1, below_trans' hw' h2⟩)
                        go_big_quiet_on)))
            refine wpQuiet_nil ?_
            intro w4 hb4
            have B4 := below_trans' hb2 hb4
            have O4 := own_below hown hb4
            have hbs4 := B4.size
            replace d0 := cell_keep d0 hb4
            replace d1 := cell_keep d1 hb4
            replace d2 := cell_keep d2 hb4
            replace e0 := cell_keep e0 hb4
            replace e1 := cell_keep e1 hb4
            replace e2 := cell_keep e2 hb4
            clear g0 g1 g2 k0 k1 k2 hown
            go_wp2_with (at_builtin; refine append_oneF (f := encC) rfl _ _ 22 rfl Try.underlying22 hi hz0 hz1 hz2 rfl (by decide) encC_len encC_one (pre := pre) q rfl rfl rfl rfl O4 (by omega) (by omega) (by decide) ?_; intro g6 q6 w6 O6 g6' l6)
            have B6 : Below wo.heap.size wo w6 := B4.grown g6' hbs4 (fun j hj => (O4.lt j hj).1)
            clear g6' l6 O4
            go_roundw
            case rel =>
              refine ⟨k + 1, pre ++ [q], by omega, by go_num, ?_, by simp; omega, hide (fun j x hj hx => ?_), O6, B6⟩
              · show _ = _
                rw [take_snoc8 (unhide HQ), ← unhide HPR]
              · by_cases e : j = k
                · subst e
                  rw [unhide HQ] at hx
                  cases hx
                  exact unhide HBF
                · exact unhide HB j x (by omega) hx
            case measure => simp [intOf]; omega
          | false =>
            have HBF := hide hbf
            clear hbf
            have g0 : ∀ w', Below wr.heap.size wr w' → w'.cell? ⟨b3, o3 + k * 3, none⟩ = some (.string q.1.id) := fun w' hw' => cell_keep e0 hw'
            have g1 : ∀ w', Below wr.heap.size wr w' → w'.cell? ⟨b3, o3 + k * 3 + 1, none⟩ = some (.int .i64 q.1.key) := fun w' hw' => cell_keep e1 hw'
            have g2 : ∀ w', Below wr.heap.size wr w' → w'.cell? ⟨b3, o3 + k * 3 + 2, none⟩ = some (.slice q.2.1 q.2.2.1 q.2.2.2) := fun w' hw' => cell_keep e2 hw'
            have k0 : ∀ w', Below wr.heap.size wr w' → w'.cell? ⟨b1, o1 + i * 3, none⟩ = some (.string c.1.id) := fun w' hw' => cell_keep d0 hw'
            have k1 : ∀ w', Below wr.heap.size wr w' → w'.cell? ⟨b1, o1 + i * 3 + 1, none⟩ = some (.int .i64 c.1.key) := fun w' hw' => cell_keep d1 hw'
            have k2 : ∀ w', Below wr.heap.size wr w' → w'.cell? ⟨b1, o1 + i * 3 + 2, none⟩ = some (.slice c.2.1 c.2.2.1 c.2.2.2) := fun w' hw' => cell_keep d2 hw'
            have p1 : (k : Int) < (ps.length : Int) := by omega
            have p2 : (i : Int) < (L.length : Int) := by omega
            go_wp2
            refine region_below (by kernel_rfl) (by kernel_rfl) ?_
            repeat
              (first
                | go_big_quiet_skip
                | (go_big_quiet_want; go_big_quiet_op
                   first
                     | go_big_quiet_on
                     | (apply Exists.intro
                        refine ⟨fun w' hw' => ?_, ?_⟩
                        · first
                          | exact rfl
                          | (rw [g0 w' hw']; dsimp only [Result.andThen]; rw [g1 w' hw']; dsimp only [Result.andThen]; rw [g2 w' hw']; exact ⟨rfl, rfl⟩)
                          | (rw [k0 w' hw']; dsimp only [Result.andThen]; rw [k1 w' hw']; dsimp only [Result.andThen]; rw [k2 w' hw']; exact ⟨rfl, rfl⟩)
                          | (go_at_call 54; exact (rbefore_b q.1 c.1 _ _ _ _ _ _ _ (by unfold maxLen; omega) _ (unhide HBF)).mono fun e w'' ⟨h1, h2⟩ => ⟨h1, below_trans' hw' h2⟩)
                        go_big_quiet_on)))
            refine wpQuiet_nil ?_
            intro w4 hb4
            have B4 := below_trans' hb2 hb4
            have O4 := own_below hown hb4
            have hbs4 := B4.size
            replace d0 := cell_keep d0 hb4
            replace d1 := cell_keep d1 hb4
            replace d2 := cell_keep d2 hb4
            replace e0 := cell_keep e0 hb4
            replace e1 := cell_keep e1 hb4
            replace e2 := cell_keep e2 hb4
            clear g0 g1 g2 k0 k1 k2 hown
            go_wp2_with (first
              | (at_builtin; refine append_oneF (f := encC) rfl _ _ 22 rfl Try.underlying22 hi hz0 hz1 hz2 rfl (by decide) encC_len encC_one (pre := pre) c rfl rfl rfl rfl O4 (by omega) (by omega) (by decide) ?_; intro g6 q6 w6 O6 g6' l6; have B6 : Below wo.heap.size wo w6 := B4.grown g6' hbs4 (fun j hj => (O4.lt j hj).1); have K6 := (hKp.below B6).drop k (by omega); have b6 := B6.size)
              | (at_builtin; go_loud (refine append_allF (f := encC) rfl _ _ 22 rfl Try.underlying22 hi hz0 hz1 hz2 rfl (by decide) encC_len encC_one (pre := pre ++ [c]) (zs := (ps.drop k)) rfl rfl K6 O6 b6 (by have := List.length_drop (i := k) (l := ps); rw [List.length_append]; simp only [List.length_cons, List.length_nil]; omega) (by decide) ?_; intro v7 w7 O7 g7)))
            have B7 : Below wo.heap.size wo w7 := B6.grown g7 b6 (fun j hj => (O6.lt j hj).1)
            have K7 := Kl.owned encC_len (by decide) O7
            have FM7 := hide (Fm.of O7)
            have B8 := below_trans' hbel B7
            have W7 : Ws w7 ((pre ++ [c]) ++ (ps.drop k)) := fun p hp => by
              rcases List.mem_append.1 hp with hp | hp
              · rcases List.mem_append.1 hp with hp | hp
                · rw [unhide HPR] at hp
                  exact (hWp p (List.mem_of_mem_take hp)).below B7
                · simp only [List.mem_cons, List.not_mem_nil, or_false] at hp
                  subst hp
                  exact hwc.below B8
              · exact (hWp p (List.mem_of_mem_drop hp)).below B7
            have HF : Hid (((pre ++ [c]) ++ (ps.drop k)).map (·.1) = S.srt (L.take (i + 1))) := by
              show _ = _
              rw [unhide HTS, S.ins_at (k := k) (by rw [← unhide HP, List.length_map]; omega) (fun j x hj hx => by rw [← unhide HP, List.getElem?_map] at hx; obtain ⟨y, hy, rfl⟩ := Option.map_eq_some_iff.1 hx; exact unhide HB j y hj hy) (fun x hx => by rw [← unhide HP, List.getElem?_map, unhide HQ] at hx; cases hx; exact unhide HBF), unhide HPR, ← unhide HP]
              simp [List.map_take, List.map_drop]
            clear g6' l6 g7 O6 O7 K6
            go_roundw
            case rel => exact ⟨i + 1, (pre ++ [c]) ++ (ps.drop k), by omega, by go_num, HF, by have := unhide HPR; simp; omega, FM7, K7, W7, B8⟩
            case measure => simp [intOf]; omega
        · have p1 : ¬ (k : Int) < (ps.length : Int) := by omega
          have p2 : decide ((k : Int) < (ps.length : Int)) = false := by simp; omega
          have p3 : (i : Int) < (L.length : Int) := by omega
          go_wp2
          go_quiet (fail)
          have hb4 : Below wr.heap.size wr (wr.drewN nq) := below_dr (Below.refl _ _) nq
          obtain ⟨w4, hw4⟩ : ∃ w4, w4 = wr.drewN nq := ⟨_, rfl⟩
          rw [← hw4] at hb4 ⊢
          have B4 := below_trans' hb2 hb4
          have O4 := own_below hown hb4
          have hbs4 := B4.size
          replace d0 := cell_keep d0 hb4
          replace d1 := cell_keep d1 hb4
          replace d2 := cell_keep d2 hb4
          clear hown hw4 hb4
          rcases unhide HFM with ⟨hf1, hf2⟩ | ⟨g9, o9, c9, hf1⟩
          · simp only [Value.slice.injEq] at hf1
            obtain ⟨rfl, -, rfl⟩ := hf1
            have hk0 : k = 0 := by omega
            subst hk0
            have hps : ps = [] := List.eq_nil_of_length_eq_zero hf2
            subst hps
            clear hf2
            go_wp2_with (first
              | (at_builtin; refine append_oneF (f := encC) rfl _ _ 22 rfl Try.underlying22 hi hz0 hz1 hz2 rfl (by decide) encC_len encC_one (pre := pre) c rfl rfl rfl rfl O4 (by omega) (by omega) (by decide) ?_; intro g6 q6 w6 O6 g6' l6; have B6 : Below wo.heap.size wo w6 := B4.grown g6' hbs4 (fun j hj => (O4.lt j hj).1); have K6 := Kl.nil encC 3 w6; have b6 := B6.size)
              | (at_builtin; go_loud (refine append_allF (f := encC) rfl _ _ 22 rfl Try.underlying22 hi hz0 hz1 hz2 rfl (by decide) encC_len encC_one (pre := pre ++ [c]) (zs := ([] : List (Cd × Pts))) rfl rfl K6 O6 b6 (by rw [List.length_append]; simp only [List.length_cons, List.length_nil]; omega) (by decide) ?_; intro v7 w7 O7 g7)))
            have B7 : Below wo.heap.size wo w7 := B6.grown g7 b6 (fun j hj => (O6.lt j hj).1)
            have K7 := Kl.owned encC_len (by decide) O7
            have FM7 := hide (Fm.of O7)
            have B8 := below_trans' hbel B7
            have W7 : Ws w7 ((pre ++ [c]) ++ ([] : List (Cd × Pts))) := fun p hp => by
              rcases List.mem_append.1 hp with hp | hp
              · rcases List.mem_append.1 hp with hp | hp
                · rw [unhide HPR] at hp
                  exact (hWp p (List.mem_of_mem_take hp)).below B7
                · simp only [List.mem_cons, List.not_mem_nil, or_false] at hp
                  subst hp
                  exact hwc.below B8
              · cases hp
            have HF : Hid (((pre ++ [c]) ++ ([] : List (Cd × Pts))).map (·.1) = S.srt (L.take (i + 1))) := by
              show _ = _
              rw [unhide HTS, S.ins_at (k := 0) (by rw [← unhide HP, List.length_map]; omega) (fun j x hj hx => by rw [← unhide HP, List.getElem?_map] at hx; obtain ⟨y, hy, rfl⟩ := Option.map_eq_some_iff.1 hx; exact unhide HB j y hj hy) (fun x hx => by rw [← unhide HP, List.getElem?_map, List.getElem?_eq_none (by simp)] at hx; cases hx), unhide HPR, ← unhide HP]
              simp [List.map_take, List.map_drop]
            clear g6' l6 g7 O6 O7 K6
            go_roundw
            case rel => exact ⟨i + 1, (pre ++ [c]) ++ ([] : List (Cd × Pts)), by omega, by go_num, HF, by have := unhide HPR; simp; omega, FM7, K7, W7, B8⟩
            case measure => simp [intOf]; omega
          · simp only [Value.slice.injEq, true_and] at hf1
            obtain ⟨rfl, rfl⟩ := hf1
            obtain rfl : k = ps.length := by omega
            by_cases hoc : oc = ps.length
            · have hoc2 : oc - ps.length = 0 := by omega
              go_wp2_with (first
                | (at_builtin; refine append_oneF (f := encC) rfl _ _ 22 rfl Try.underlying22 hi hz0 hz1 hz2 rfl (by decide) encC_len encC_one (pre := pre) c rfl rfl rfl rfl O4 (by omega) (by omega) (by decide) ?_; intro g6 q6 w6 O6 g6' l6; have B6 : Below wo.heap.size wo w6 := B4.grown g6' hbs4 (fun j hj => (O4.lt j hj).1); have b6 := B6.size)
                | (at_builtin; go_loud (refine append_allF (f := encC) rfl _ _ 22 rfl Try.underlying22 hi hz0 hz1 hz2 rfl (by decide) encC_len encC_one (pre := pre ++ [c]) (zs := ([] : List (Cd × Pts))) rfl rfl (Kl.zero (by unfold maxLen; omega) (fun h => by cases h)) O6 b6 (by rw [List.length_append]; simp only [List.length_cons, List.length_nil]; omega) (by decide) ?_; intro v7 w7 O7 g7)))
              have B7 : Below wo.heap.size wo w7 := B6.grown g7 b6 (fun j hj => (O6.lt j hj).1)
              have K7 := Kl.owned encC_len (by decide) O7
              have FM7 := hide (Fm.of O7)
              have B8 := below_trans' hbel B7
              have W7 : Ws w7 ((pre ++ [c]) ++ ([] : List (Cd × Pts))) := fun p hp => by
                rcases List.mem_append.1 hp with hp | hp
                · rcases List.mem_append.1 hp with hp | hp
                  · rw [unhide HPR] at hp
                    exact (hWp p (List.mem_of_mem_take hp)).below B7
                  · simp only [List.mem_cons, List.not_mem_nil, or_false] at hp
                    subst hp
                    exact hwc.below B8
                · cases hp
              have HF : Hid (((pre ++ [c]) ++ ([] : List (Cd × Pts))).map (·.1) = S.srt (L.take (i + 1))) := by
                show _ = _
                rw [unhide HTS, S.ins_at (k := ps.length) (by rw [← unhide HP, List.length_map]; omega) (fun j x hj hx => by rw [← unhide HP, List.getElem?_map] at hx; obtain ⟨y, hy, rfl⟩ := Option.map_eq_some_iff.1 hx; exact unhide HB j y hj hy) (fun x hx => by rw [← unhide HP, List.getElem?_map, List.getElem?_eq_none (by simp)] at hx; cases hx), unhide HPR, ← unhide HP]
                have hdz : (ps.map (·.1)).drop ps.length = [] := List.drop_eq_nil_of_le (by simp)
                rw [List.take_of_length_le (by simp : (ps.map (·.1)).length ≤ ps.length)]
                simp [hdz]
              clear g6' l6 g7 O6 O7
              go_roundw
              case rel => exact ⟨i + 1, (pre ++ [c]) ++ ([] : List (Cd × Pts)), by omega, by go_num, HF, by have := unhide HPR; simp; omega, FM7, K7, W7, B8⟩
              case measure => simp [intOf]; omega
            · have hoc2 : ¬ oc - ps.length = 0 := by omega
              go_wp2_with (first
                | (at_builtin; refine append_oneF (f := encC) rfl _ _ 22 rfl Try.underlying22 hi hz0 hz1 hz2 rfl (by decide) encC_len encC_one (pre := pre) c rfl rfl rfl rfl O4 (by omega) (by omega) (by decide) ?_; intro g6 q6 w6 O6 g6' l6; have B6 : Below wo.heap.size wo w6 := B4.grown g6' hbs4 (fun j hj => (O4.lt j hj).1); have b6 := B6.size)
                | (at_builtin; go_loud (refine append_allF (f := encC) rfl _ _ 22 rfl Try.underlying22 hi hz0 hz1 hz2 rfl (by decide) encC_len encC_one (pre := pre ++ [c]) (zs := ([] : List (Cd × Pts))) rfl rfl (Kl.zero (by unfold maxLen; omega) (fun h => by cases h)) O6 b6 (by rw [List.length_append]; simp only [List.length_cons, List.length_nil]; omega) (by decide) ?_; intro v7 w7 O7 g7)))
              have B7 : Below wo.heap.size wo w7 := B6.grown g7 b6 (fun j hj => (O6.lt j hj).1)
              have K7 := Kl.owned encC_len (by decide) O7
              have FM7 := hide (Fm.of O7)
              have B8 := below_trans' hbel B7
              have W7 : Ws w7 ((pre ++ [c]) ++ ([] : List (Cd × Pts))) := fun p hp => by
                rcases List.mem_append.1 hp with hp | hp
                · rcases List.mem_append.1 hp with hp | hp
                  · rw [unhide HPR] at hp
                    exact (hWp p (List.mem_of_mem_take hp)).below B7
                  · simp only [List.mem_cons, List.not_mem_nil, or_false] at hp
                    subst hp
                    exact hwc.below B8
                · cases hp
              have HF : Hid (((pre ++ [c]) ++ ([] : List (Cd × Pts))).map (·.1) = S.srt (L.take (i + 1))) := by
                show _ = _
                rw [unhide HTS, S.ins_at (k := ps.length) (by rw [← unhide HP, List.length_map]; omega) (fun j x hj hx => by rw [← unhide HP, List.getElem?_map] at hx; obtain ⟨y, hy, rfl⟩ := Option.map_eq_some_iff.1 hx; exact unhide HB j y hj hy) (fun x hx => by rw [← unhide HP, List.getElem?_map, List.getElem?_eq_none (by simp)] at hx; cases hx), unhide HPR, ← unhide HP]
                have hdz : (ps.map (·.1)).drop ps.length = [] := List.drop_eq_nil_of_le (by simp)
                rw [List.take_of_length_le (by simp : (ps.map (·.1)).length ≤ ps.length)]
                simp [hdz]
              clear g6' l6 g7 O6 O7
              go_roundw
              case rel => exact ⟨i + 1, (pre ++ [c]) ++ ([] : List (Cd × Pts)), by omega, by go_num, HF, by have := unhide HPR; simp; omega, FM7, K7, W7, B8⟩
              case measure => simp [intOf]; omega
    · have HF : Hid (ps.map (·.1) = S.srt L) := by
        show _ = _
        rw [unhide HP, List.take_of_length_le (by omega)]
      have C9 := Cs.ps hKp hWp
      rw [unhide HF] at C9
      go_wp2
      go_ret
      exact ⟨_, rfl, C9, hbel⟩
end Go.Proofs.Ytefnkbgkcjhkoaa
