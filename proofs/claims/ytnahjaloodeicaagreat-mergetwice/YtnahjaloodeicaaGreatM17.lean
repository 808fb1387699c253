/-
  Texts put together: Cmp10.
-/
import Derived.Test.YtnahjaloodeicaaGreatM11
import Derived.Sort.Grow
import Derived.Deep.RegionHeld3
/-
  The contracts of cmp.Compare at numbers and at texts, of cmp.Or at three numbers, and of the closure by which Order holds two places against each other.
-/
namespace Go.Proofs.YtnahjaloodeicaaGreat
set_option maxRecDepth 100000
open Go.RowKit Go.Sort

namespace R
def ci (x y : Int) : Int := if x < y then -1 else if y < x then 1 else 0
def cs (x y : ByteArray) : Int := if K.lt x y = true then -1 else if K.lt y x = true then 1 else 0
def cor (x y z : Int) : Int := if x = 0 then (if y = 0 then z else y) else x
/-- What Order's closure tells of two places. -/
def cmp (keys : List Int) (ids : List ByteArray) (a b : Nat) : Int := cor (ci (keys.getD a 0) (keys.getD b 0)) (cs (ids.getD a ⟨#[]⟩) (ids.getD b ⟨#[]⟩)) (ci a b)
theorem ci_neg {x y : Int} : ci x y < 0 ↔ x < y := by
  unfold ci
  by_cases h1 : x < y
  · simp [h1]
  · by_cases h2 : y < x <;> simp [h1, h2]
theorem ci_zero {x y : Int} : ci x y = 0 ↔ x = y := by
  unfold ci
  by_cases h1 : x < y
  · simp [h1]; omega
  · by_cases h2 : y < x
    · simp [h1, h2]; omega
    · simp [h1, h2]; omega
theorem cs_neg {x y : ByteArray} : cs x y < 0 ↔ K.lt x y = true := by
  unfold cs
  cases h1 : K.lt x y with
  | true => simp
  | false => cases h2 : K.lt y x <;> simp
theorem cs_zero {x y : ByteArray} : cs x y = 0 ↔ x = y := by
  unfold cs
  cases h1 : K.lt x y with
  | true => simpa using K.lt_ne h1
  | false =>
    cases h2 : K.lt y x with
    | true => simpa using Ne.symm (K.lt_ne h2)
    | false => simpa using K.lt_tri h1 h2
theorem cmp_lt (keys : List Int) (ids : List ByteArray) (a b : Nat) : decide (cmp keys ids a b < 0) = lt keys ids a b := by
  rw [Bool.eq_iff_iff, decide_eq_true_eq, lt_iff]
  unfold cmp cor
  by_cases h1 : ci (keys.getD a 0) (keys.getD b 0) = 0
  · rw [if_pos h1]
    have e1 := ci_zero.1 h1
    by_cases h2 : cs (ids.getD a ⟨#[]⟩) (ids.getD b ⟨#[]⟩) = 0
    · rw [if_pos h2, ci_neg]
      have e2 := cs_zero.1 h2
      constructor
      · intro h
        exact .inr ⟨e1, .inr ⟨e2, by omega⟩⟩
      · rintro (h | ⟨-, h | ⟨-, h⟩⟩)
        · omega
        · rw [e2, K.lt_irrefl] at h
          cases h
        · omega
    · rw [if_neg h2, cs_neg]
      constructor
      · intro h
        exact .inr ⟨e1, .inl h⟩
      · rintro (h | ⟨-, h | ⟨h, -⟩⟩)
        · omega
        · exact h
        · exact absurd (cs_zero.2 h) h2
  · rw [if_neg h1, ci_neg]
    constructor
    · exact .inl
    · rintro (h | ⟨h, -⟩)
      · exact h
      · exact absurd (ci_zero.2 h) h1
end R

set_option maxHeartbeats 1000000 in
theorem cmpI10_any (x y : Int) (w : World) : Calls Tryz.prog 67 #[.int .i64 x, .int .i64 y] w fun e w' => e = .returned (.int .i64 (R.ci x y)) ∧ w' = w := by
  unfold R.ci
  by_cases h1 : x < y
  · rw [if_pos h1]
    go_enter Tryz.func67, Tryz.ntmps67
    go_wp2
    go_ret
    exact ⟨rfl, rfl⟩
  · rw [if_neg h1]
    by_cases h2 : y < x
    · rw [if_pos h2]
      go_enter Tryz.func67, Tryz.ntmps67
      go_wp2
      go_ret
      exact ⟨rfl, rfl⟩
    · rw [if_neg h2]
      go_enter Tryz.func67, Tryz.ntmps67
      go_wp2
      go_ret
      exact ⟨rfl, rfl⟩

theorem cnan10_any (x : ByteArray) (w : World) : Calls Tryz.prog 89 #[.string x] w fun e w' => e = .returned (.bool false) ∧ w' = w := by
  have hx : (x.toList == x.toList) = true := by simp
  go_enter Tryz.func89, Tryz.ntmps89
  go_wp2
  go_ret
  exact ⟨by simp, rfl⟩

set_option maxHeartbeats 1000000 in
theorem cmpS10_any (x y : ByteArray) (w : World) : Calls Tryz.prog 68 #[.string x, .string y] w fun e w' => e = .returned (.int .i64 (R.cs x y)) ∧ w' = w := by
  unfold R.cs
  cases h1 : K.lt x y with
  | true =>
    rw [if_pos rfl]
    have hl : Op.bytesLess x.toList y.toList = true := h1
    go_enter Tryz.func68, Tryz.ntmps68
    go_wp2_with (go_at_call 89; refine (cnan10_any _ _).mono ?_; rintro e w' ⟨rfl, rfl⟩)
    go_ret
    exact ⟨rfl, rfl⟩
  | false =>
    rw [if_neg (by simp)]
    have hl : Op.bytesLess x.toList y.toList = false := h1
    cases h2 : K.lt y x with
    | true =>
      rw [if_pos rfl]
      have hq : (x.toList == y.toList) = false := by rw [K.eq_to]; simpa using Ne.symm (K.lt_ne h2)
      go_enter Tryz.func68, Tryz.ntmps68
      go_wp2_with (go_at_call 89; refine (cnan10_any _ _).mono ?_; rintro e w' ⟨rfl, rfl⟩)
      go_ret
      exact ⟨rfl, rfl⟩
    | false =>
      rw [if_neg (by simp)]
      have hq : (x.toList == y.toList) = true := by rw [K.eq_to]; simpa using K.lt_tri h1 h2
      go_enter Tryz.func68, Tryz.ntmps68
      go_wp2_with (go_at_call 89; refine (cnan10_any _ _).mono ?_; rintro e w' ⟨rfl, rfl⟩)
      go_ret
      exact ⟨rfl, rfl⟩

set_option maxHeartbeats 1000000 in
theorem cor10_any (b : Nat) (x y z : Int) (w : World) (c0 : w.cell? ⟨b, 0, none⟩ = some (.int .i64 x)) (c1 : w.cell? ⟨b, 1, none⟩ = some (.int .i64 y)) (c2 : w.cell? ⟨b, 2, none⟩ = some (.int .i64 z)) :
    Calls Tryz.prog 66 #[.slice (some ⟨b, 0, none⟩) 3 3] w fun e w' => e = .returned (.int .i64 (R.cor x y z)) ∧ w' = w := by
  go_enter Tryz.func66, Tryz.ntmps66
  go_wp2
  go_loop [8] (fun i => (i = .int .i64 0) ∨ (i = .int .i64 1 ∧ x = 0) ∨ (i = .int .i64 2 ∧ x = 0 ∧ y = 0) ∨ (i = .int .i64 3 ∧ x = 0 ∧ y = 0 ∧ z = 0)) (fun i => 3 - (intOf i).toNat)
  case atStart => exact .inl rfl
  case round =>
    rcases hrel with rfl | ⟨rfl, hx⟩ | ⟨rfl, hx, hy⟩ | ⟨rfl, hx, hy, hz⟩
    · by_cases h1 : x = 0
      · subst h1
        go_wp2
        go_round
        case rel => simp
        case measure => simp [intOf]
      · have h1' : (x == 0) = false := by simpa using h1
        go_wp2
        go_ret
        exact ⟨by rw [show R.cor x y z = x from if_neg h1]; rfl, rfl⟩
    · have HX := hide hx
      by_cases h1 : y = 0
      · subst h1
        go_wp2
        go_round
        case rel => (have := unhide HX; simp [this])
        case measure => simp [intOf]
      · have h1' : (y == 0) = false := by simpa using h1
        have HH := hide h1
        clear h1
        go_wp2
        go_ret
        exact ⟨by (have h9 : R.cor 0 y z = y := by unfold R.cor; rw [if_pos rfl, if_neg (unhide HH)]); rw [h9]; rfl, rfl⟩
    · have HX := hide hx
      have HY := hide hy
      by_cases h1 : z = 0
      · subst h1
        go_wp2
        go_round
        case rel => (have := unhide HX; have h9 := unhide HY; simp [this, h9])
        case measure => simp [intOf]
      · have h1' : (z == 0) = false := by simpa using h1
        go_wp2
        go_ret
        exact ⟨by rw [show R.cor 0 0 z = z from rfl]; rfl, rfl⟩
    · go_wp2
      go_ret
      exact ⟨rfl, rfl⟩

/-- A world with new blocks behind it, and draws. -/
def Grew10 (w w' : World) : Prop := ∃ q os, w' = grow (w.drewN q) os
theorem Grew10.below {w w' : World} (h : Grew10 w w') : Below w.heap.size w w' := by
  obtain ⟨q, os, rfl⟩ := h
  refine ⟨rfl, rfl, rfl, by simp [grow, World.drewN], fun k hk => ?_⟩
  rw [heap_grow_old _ _ (by simpa using hk)]
  rfl
theorem Grew10.refl (w : World) : Grew10 w w := ⟨0, #[], by simp [grow, World.drewN]⟩
theorem Grew10.alloc {w w' : World} (h : Grew10 w w') (o : Obj) : Grew10 w (w'.alloc o) := by
  obtain ⟨q, os, rfl⟩ := h
  exact ⟨q, os ++ #[o], by rw [alloc_eq_grow, grow_grow]⟩
theorem Grew10.drew {w w' : World} (h : Grew10 w w') : Grew10 w w'.drew := by
  obtain ⟨q, os, rfl⟩ := h
  exact ⟨q + 1, os, by rw [drew_grow]; rfl⟩

set_option maxHeartbeats 4000000 in
theorem cmp10_any (P Q a b : Nat) (kv iv : Value) (keys : List Int) (ids : List ByteArray) (w : World) (hP : w.cell? ⟨P, 0, none⟩ = some kv) (hQ : w.cell? ⟨Q, 0, none⟩ = some iv) (hk : Il w kv keys) (hi : Gl .string w iv ids) (ha : a < keys.length) (hb : b < keys.length) (hl : keys.length = ids.length) :
    Calls Tryz.prog 111 #[.int .i64 (a : Int), .int .i64 (b : Int), .pointer (some ⟨P, 0, none⟩), .pointer (some ⟨Q, 0, none⟩)] w fun e w' => e = .returned (.int .i64 (R.cmp keys ids a b)) ∧ Grew10 w w' := by
  obtain ⟨ak, ck, rfl, lk, mk, nk, ok⟩ := hk.open
  obtain ⟨ai, ci, rfl, li, mi, ni, oi⟩ := hi.open
  obtain ⟨bk, fk, rfl, hbk, hck⟩ := ok (by omega)
  obtain ⟨bi, fi, rfl, hbi, hci⟩ := oi (by omega)
  obtain ⟨ka, hka⟩ : ∃ x, keys[a]? = some x := ⟨_, List.getElem?_eq_getElem ha⟩
  obtain ⟨kb, hkb⟩ : ∃ x, keys[b]? = some x := ⟨_, List.getElem?_eq_getElem hb⟩
  obtain ⟨ia, hia⟩ : ∃ x, ids[a]? = some x := ⟨_, List.getElem?_eq_getElem (by omega)⟩
  obtain ⟨ib, hib⟩ : ∃ x, ids[b]? = some x := ⟨_, List.getElem?_eq_getElem (by omega)⟩
  have ya := hck a ka hka
  have yb := hck b kb hkb
  have za := hci a ia hia
  have zb := hci b ib hib
  have hai : a < ids.length := by omega
  have hbi' : b < ids.length := by omega
  obtain ⟨r1, hr1⟩ : ∃ r, R.ci ka kb = r := ⟨_, rfl⟩
  obtain ⟨r2, hr2⟩ : ∃ r, R.cs ia ib = r := ⟨_, rfl⟩
  obtain ⟨r3, hr3⟩ : ∃ r, R.ci a b = r := ⟨_, rfl⟩
  obtain ⟨r4, hr4⟩ : ∃ r, R.cor r1 r2 r3 = r := ⟨_, rfl⟩
  have HR : Hid (R.cmp keys ids a b = r4) := by
    show _ = _
    unfold R.cmp
    rw [show keys.getD a 0 = ka by simp [List.getD, hka], show keys.getD b 0 = kb by simp [List.getD, hkb], show ids.getD a ⟨#[]⟩ = ia by simp [List.getD, hia], show ids.getD b ⟨#[]⟩ = ib by simp [List.getD, hib], hr1, hr2, hr3, hr4]
  have k1 := fun w => cmpI10_any ka kb w
  have k2 := fun w => cmpS10_any ia ib w
  have k3 := fun w => cmpI10_any a b w
  have k4 := fun b w => cor10_any b r1 r2 r3 w
  rw [hr1] at k1
  rw [hr2] at k2
  rw [hr3] at k3
  rw [hr4] at k4
  have GW := Grew10.refl w
  clear hr1 hr2 hr3 hr4 hka hkb hia hib hck hci ok oi hk hi hl
  go_enter Tryz.func111, Tryz.ntmps111
  go_wp2_with fail
  go_region_held3 (fun w' => w'.cell? ⟨P, 0, none⟩ = some (.slice (some ⟨bk, fk, none⟩) keys.length ck) ∧ w'.cell? ⟨Q, 0, none⟩ = some (.slice (some ⟨bi, fi, none⟩) ids.length ci) ∧ w'.cell? ⟨bk, fk + a, none⟩ = some (.int .i64 ka) ∧ w'.cell? ⟨bk, fk + b, none⟩ = some (.int .i64 kb) ∧ w'.cell? ⟨bi, fi + a, none⟩ = some (.string ia) ∧ w'.cell? ⟨bi, fi + b, none⟩ = some (.string ib) ∧ Grew10 w w')
    (first
      | (go_split_ands; exact ⟨hP, hQ, ya, yb, za, zb, GW.drew⟩)
      | (go_split_ands; exact ⟨cellK10 hP (below_alloc w _).drew, cellK10 hQ (below_alloc w _).drew, cellK10 ya (below_alloc w _).drew, cellK10 yb (below_alloc w _).drew, cellK10 za (below_alloc w _).drew, cellK10 zb (below_alloc w _).drew, (GW.alloc _).drew⟩)
      | go_keep)
    (first
      | (go_at_call_of 67 (Value.int .i64 ka); refine (k1 _).mono ?_; rintro e w1 ⟨rfl, rfl⟩)
      | (go_at_call_of 67 (Value.int .i64 (a : Int)); refine (k3 _).mono ?_; rintro e w1 ⟨rfl, rfl⟩)
      | (go_at_call 68; refine (k2 _).mono ?_; rintro e w1 ⟨rfl, rfl⟩)
      | (go_at_call 66; refine (k4 _ _ (by simp) (by simp) (by simp)).mono ?_; rintro e w1 ⟨rfl, rfl⟩))
  go_wp2
  go_ret
  exact ⟨by rw [unhide HR]; rfl, (GW.alloc _).drew⟩
end Go.Proofs.YtnahjaloodeicaaGreat
