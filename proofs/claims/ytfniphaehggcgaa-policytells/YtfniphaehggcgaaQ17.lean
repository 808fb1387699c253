/-
  Texts put together: RSmall12, RSame12.
-/
import Derived.Test.YtfniphaehggcgaaQ13
import Derived.Test.YtfniphaehggcgaaQ07
import Derived.BigQuiet
import Derived.Deep.QuietTactic
import Derived.Deep.RegionHeld3
import Derived.Laws.StructEq
/-
  The contracts of the document's own Live, Level, has, Has, Policy and Same, and of the statements' own few, size and Tables.
-/
namespace Go.Proofs.Ytfniphaehggcgaa
set_option maxRecDepth 100000
open Go.RowKit Go.Deep

set_option maxHeartbeats 1000000 in
theorem rlive_any (v : Value) (L : List Sz) (w : World) (h : Zl w v L) (hO : Z.Fit L) :
    Calls Try.prog 22 #[v] w fun e w' => e = .returned (.int .i64 (Z.lives L)) ∧ Below w.heap.size w w' := by
  obtain ⟨a, cap, rfl, h1, h2, hna, ho⟩ := h.open
  clear h
  obtain ⟨hll, hok⟩ := hO
  have HO := hide hok
  clear hok
  go_enter Try.func22, Try.ntmps22
  go_wp2
  go_loopw [3, 4] (fun nv iv wr => ∃ (k : Nat) (n : Int), k ≤ L.length ∧ iv = .int .i64 k ∧ nv = .int .i64 n ∧ (0 ≤ n ∧ n ≤ k * 64) ∧ Hid (n = Z.lives (L.take k)) ∧ Below w.heap.size w wr) (fun _ iv _ => L.length - (intOf iv).toNat)
  case atStart => exact ⟨0, 0, Nat.zero_le _, rfl, rfl, by omega, rfl, Below.refl _ _⟩
  case round =>
    obtain ⟨k, n, hk, rfl, rfl, ⟨hn0, hn1⟩, HN, hbel⟩ := hrel
    by_cases hlt : k < L.length
    · obtain ⟨b, off, rfl, hb, hc⟩ := ho (by omega)
      obtain ⟨s, hx⟩ : ∃ x, L[k]? = some x := ⟨L[k], List.getElem?_eq_getElem hlt⟩
      obtain ⟨e0, e1, e2, e3⟩ := hc k s hx
      have c1 := (hbel.cell (p := ⟨b, off + k * 4 + 1, none⟩) hb).trans e1
      have c2 := (hbel.cell (p := ⟨b, off + k * 4 + 2, none⟩) hb).trans e2
      obtain ⟨⟨o1, o2⟩, ⟨o3, o4⟩, o5, o6⟩ := unhide HO s (List.mem_of_getElem? hx)
      have HN2 : Hid (n + s.docs - s.dead = Z.lives (L.take (k + 1))) := by
        show _ = _
        rw [Z.lives_take hx, ← unhide HN, Z.live]
        omega
      have hw1 : IntKind.i64.wrap (n + s.docs) = n + s.docs := by rw [IntKind.wrap_i64]; omega
      have hw2 : IntKind.i64.wrap (n + s.docs - s.dead) = n + s.docs - s.dead := by rw [IntKind.wrap_i64]; omega
      clear hc ho hx e0 e1 e2 e3
      go_wp2
      go_quiet (fail)
      have BB := below_dr' hbel nq
      go_wp2
      go_roundw
      case rel => exact ⟨k + 1, n + s.docs - s.dead, by omega, by go_num, by go_num, by omega, HN2, BB⟩
      case measure => simp [intOf]; omega
    · go_wp2
      go_ret
      have hF := unhide HN
      rw [List.take_of_length_le (by omega)] at hF
      exact ⟨by rw [hF]; rfl, hbel⟩

theorem rlevel_any (s : Sz) (per : Int) (w : World) (hO : Z.Ok s) (hp : 2 ≤ per ∧ per ≤ 9223372036854775807) : Calls Try.prog 31 #[zv s, .int .i64 per] w fun e w' => e = .returned (.int .i64 (Z.lv per.toNat s : Int)) ∧ Below w.heap.size w w' := by
  obtain ⟨p, rfl⟩ : ∃ p : Nat, per = (p : Int) := ⟨per.toNat, by omega⟩
  obtain ⟨hp2, hp8⟩ := hp
  obtain ⟨hl0, hl1⟩ := hO.live
  obtain ⟨m, hm⟩ : ∃ m : Nat, Z.live s = (m : Int) := ⟨(Z.live s).toNat, by omega⟩
  have HR : Hid (Z.lv (p : Int).toNat s = Z.lev p m) := by show _ = _; rw [Z.lv, hm, Int.toNat_natCast, Int.toNat_natCast]
  rw [unhide HR]
  obtain ⟨g, d, x, b⟩ := s
  obtain ⟨-, ⟨h1, h2⟩, h3, h4⟩ := hO
  simp only [Z.live] at hm hl0 hl1
  simp only at h1 h2 h3 h4
  have hw1 : IntKind.i64.wrap (d - x) = (m : Int) := by rw [IntKind.wrap_i64]; omega
  have hm64 : m ≤ 64 := by omega
  unfold zv
  have HM := hide hm
  clear HR
  go_enter Try.func31, Try.ntmps31
  go_wp2
  go_loopw [5, 6] (fun iv kv wr => ∃ k t : Nat, kv = .int .i64 k ∧ iv = .int .i64 t ∧ k ≤ m ∧ t ≤ m ∧ Hid (Z.lev p m = t + Z.lev p k) ∧ Below w.heap.size w wr) (fun _ kv _ => (intOf kv).toNat)
  case atStart => exact ⟨m, 0, by first | (rw [hm]) | rfl | simp [hm], rfl, Nat.le_refl _, Nat.zero_le _, by (show _ = _; omega), below_alloc _ _⟩
  case round =>
    obtain ⟨k, t, rfl, rfl, hk, ht, H, hbel⟩ := hrel
    by_cases hlt : p ≤ k
    · have hd : (k : Int) / (p : Int) = ((k / p : Nat) : Int) := by simp
      have hd2 : Int.tdiv (k : Int) (p : Int) = ((k / p : Nat) : Int) := by simp
      have hp0 : ¬ ((p : Int) = 0) := by omega
      have hless : k / p < k := Nat.div_lt_self (by omega) (by omega)
      have hl := Z.lev_high (by omega) hlt
      have hlm := Z.lev_le (per := p) m m (Nat.le_refl _)
      have H2 : Hid (Z.lev p m = (t + 1) + Z.lev p (k / p)) := by show _ = _; rw [unhide H, hl]; omega
      have h9 : t + 1 ≤ m := by have := unhide H2; omega
      obtain ⟨q, hq⟩ : ∃ q, k / p = q := ⟨_, rfl⟩
      rw [hq] at hd hd2 hless H2
      clear hq hl hlm
      go_wp2
      go_roundw
      case rel => exact ⟨q, t + 1, by first | rfl | simp [hd, hd2] | go_num, by go_num, by omega, by omega, H2, hbel⟩
      case measure => simp [intOf]; omega
    · have hl := Z.lev_low (per := p) (m := k) (by omega)
      have H2 : Hid (Z.lev p m = t) := by show _ = _; rw [unhide H, hl]; omega
      clear hl
      go_wp2
      go_ret
      exact ⟨by rw [unhide H2]; rfl, hbel⟩

set_option maxHeartbeats 1000000 in
theorem rhas_any (v : Value) (l : List Int) (x : Int) (w : World) (h : Il w v l) (r : Bool) (hr : r = true ↔ x ∈ l) :
    Calls Try.prog 44 #[v, .int .i64 x] w fun e w' => e = .returned (.bool r) ∧ w' = w := by
  obtain ⟨a, cap, rfl, h1, h2, hna, ho⟩ := h.open
  have HR := hide hr
  clear h hr
  go_enter Try.func44, Try.ntmps44
  go_wp2
  go_loop [5] (fun iv => ∃ k : Nat, k ≤ l.length ∧ iv = .int .i64 k ∧ Hid (∀ i y, i < k → l[i]? = some y → x ≠ y)) (fun iv => l.length - (intOf iv).toNat)
  case atStart => exact ⟨0, Nat.zero_le _, rfl, hide (fun i y hi => by omega)⟩
  case round =>
    obtain ⟨k, hk, rfl, HA⟩ := hrel
    by_cases hlt : k < l.length
    · obtain ⟨b, off, rfl, hb, hc⟩ := ho (by omega)
      obtain ⟨y, hx⟩ : ∃ x, l[k]? = some x := ⟨l[k], List.getElem?_eq_getElem hlt⟩
      have c0 := hc k y hx
      have HX := hide hx
      clear hc ho hx
      by_cases hxy : x = y
      · have q : (y == x) = true := by simp [hxy]
        have hr1 : r = true := (unhide HR).2 (by rw [hxy]; exact List.mem_of_getElem? (unhide HX))
        clear hxy
        subst hr1
        go_wp2
        go_ret
        exact ⟨rfl, rfl⟩
      · have q : (y == x) = false := by simp [Ne.symm hxy]
        have HXY := hide hxy
        clear hxy
        go_wp2
        go_round
        case rel =>
          refine ⟨k + 1, by omega, by go_num, hide (fun i z hi hz => ?_)⟩
          by_cases e : i = k
          · subst e
            rw [unhide HX] at hz
            cases hz
            exact unhide HXY
          · exact unhide HA i z (by omega) hz
        case measure => simp [intOf]; omega
    · have hr0 : r = false := by
        rw [Bool.eq_false_iff]
        intro hh
        obtain ⟨i, hi⟩ := List.mem_iff_getElem?.1 ((unhide HR).1 hh)
        exact unhide HA i x (by have := (List.getElem?_eq_some_iff.1 hi).1; omega) hi rfl
      subst hr0
      go_wp2
      go_ret
      exact ⟨rfl, rfl⟩

set_option maxHeartbeats 1000000 in
theorem rHas_any (v : Value) (p : List (List Int)) (x : Int) (w : World) (h : Tl w v p) (r : Bool) (hr : r = true ↔ x ∈ p.flatten) :
    Calls Try.prog 25 #[v, .int .i64 x] w fun e w' => e = .returned (.bool r) ∧ w' = w := by
  obtain ⟨a, cap, rfl, h1, h2, ho⟩ := h.at
  have HR := hide hr
  clear h hr
  go_enter Try.func25, Try.ntmps25
  go_wp2
  go_loop [5] (fun iv => ∃ k : Nat, k ≤ p.length ∧ iv = .int .i64 k ∧ Hid (∀ i f, i < k → p[i]? = some f → x ∉ f)) (fun iv => p.length - (intOf iv).toNat)
  case atStart => exact ⟨0, Nat.zero_le _, rfl, hide (fun i y hi => by omega)⟩
  case round =>
    obtain ⟨k, hk, rfl, HA⟩ := hrel
    by_cases hlt : k < p.length
    · obtain ⟨b, off, rfl, hb, hc⟩ := ho (by omega)
      obtain ⟨f, hx⟩ : ∃ x, p[k]? = some x := ⟨p[k], List.getElem?_eq_getElem hlt⟩
      obtain ⟨fa, fc, c0, FI⟩ := hc k f hx
      have HX := hide hx
      obtain ⟨q, hq⟩ : ∃ q : Bool, q = true ↔ x ∈ f := ⟨decide (x ∈ f), by simp⟩
      have CH := rhas_any _ f x w FI q hq
      have HQ := hide hq
      clear hc ho hx hq FI
      go_wp2_with fail
      refine CH.mono ?_
      rintro e w' ⟨rfl, rfl⟩
      clear CH
      cases q with
      | true =>
        have hr1 : r = true := (unhide HR).2 (List.mem_flatten.2 ⟨f, List.mem_of_getElem? (unhide HX), (unhide HQ).1 rfl⟩)
        subst hr1
        go_wp2
        go_ret
        exact ⟨rfl, rfl⟩
      | false =>
        go_wp2
        go_round
        case rel =>
          refine ⟨k + 1, by omega, by go_num, hide (fun i z hi hz => ?_)⟩
          by_cases e : i = k
          · subst e
            rw [unhide HX] at hz
            cases hz
            intro hm
            have := (unhide HQ).2 hm
            cases this
          · exact unhide HA i z (by omega) hz
        case measure => simp [intOf]; omega
    · have hr0 : r = false := by
        rw [Bool.eq_false_iff]
        intro hh
        obtain ⟨f, h1, h2⟩ := List.mem_flatten.1 ((unhide HR).1 hh)
        obtain ⟨i, hi⟩ := List.mem_iff_getElem?.1 h1
        exact unhide HA i f (by have := (List.getElem?_eq_some_iff.1 hi).1; omega) hi h2
      subst hr0
      go_wp2
      go_ret
      exact ⟨rfl, rfl⟩

def FewP (p : List (List Int)) : Prop := p.length ≤ 30 ∧ ∀ f ∈ p, f.length ≤ 30
set_option maxHeartbeats 1000000 in
theorem fewP_any (v : Value) (p : List (List Int)) (w : World) (h : Tl w v p) (r : Bool) (hr : r = true ↔ FewP p) :
    Calls Try.prog 24 #[v] w fun e w' => e = .returned (.bool r) ∧ w' = w := by
  obtain ⟨a, cap, rfl, h1, h2, ho⟩ := h.at
  have HR := hide hr
  clear h hr
  by_cases hll : 30 < p.length
  · have hr0 : r = false := by
      rw [Bool.eq_false_iff]
      intro hh
      have := ((unhide HR).1 hh).1
      omega
    subst hr0
    have hll' : (30 : Int) < (p.length : Int) := by omega
    go_enter Try.func24, Try.ntmps24
    go_wp2
    go_ret
    exact ⟨rfl, rfl⟩
  · have hll' : ¬ (30 : Int) < (p.length : Int) := by omega
    go_enter Try.func24, Try.ntmps24
    go_wp2
    go_loop [3] (fun iv => ∃ k : Nat, k ≤ p.length ∧ iv = .int .i64 k ∧ Hid (∀ i f, i < k → p[i]? = some f → f.length ≤ 30)) (fun iv => p.length - (intOf iv).toNat)
    case atStart => exact ⟨0, Nat.zero_le _, rfl, hide (fun i y hi => by omega)⟩
    case round =>
      obtain ⟨k, hk, rfl, HA⟩ := hrel
      by_cases hlt : k < p.length
      · obtain ⟨b, off, rfl, hb, hc⟩ := ho (by omega)
        obtain ⟨f, hx⟩ : ∃ x, p[k]? = some x := ⟨p[k], List.getElem?_eq_getElem hlt⟩
        obtain ⟨fa, fc, c0, FI⟩ := hc k f hx
        have HX := hide hx
        clear hc ho hx FI
        by_cases hfl : 30 < f.length
        · have hfl' : (30 : Int) < (f.length : Int) := by omega
          have hr0 : r = false := by
            rw [Bool.eq_false_iff]
            intro hh
            have := ((unhide HR).1 hh).2 f (List.mem_of_getElem? (unhide HX))
            omega
          subst hr0
          go_wp2
          go_ret
          exact ⟨rfl, rfl⟩
        · have hfl' : ¬ (30 : Int) < (f.length : Int) := by omega
          go_wp2
          go_round
          case rel =>
            refine ⟨k + 1, by omega, by go_num, hide (fun i z hi hz => ?_)⟩
            by_cases e : i = k
            · subst e
              rw [unhide HX] at hz
              cases hz
              omega
            · exact unhide HA i z (by omega) hz
          case measure => simp [intOf]; omega
      · have hr1 : r = true := (unhide HR).2 ⟨by omega, fun f hf => by
          obtain ⟨i, hi⟩ := List.mem_iff_getElem?.1 hf
          exact unhide HA i f (by have := (List.getElem?_eq_some_iff.1 hi).1; omega) hi⟩
        subst hr1
        go_wp2
        go_ret
        exact ⟨rfl, rfl⟩
end Go.Proofs.Ytfniphaehggcgaa

/-
  The contracts of the document's own Same (of what is the same) and Policy, and of the statements' own size and Tables (of what is the same).
-/
namespace Go.Proofs.Ytfniphaehggcgaa
set_option maxRecDepth 100000
open Go.RowKit Go.Deep

/-- The size of a number. -/
def Z.find (L : List Sz) (x : Int) : Option Sz := L.find? fun s => decide (s.gen = x)
def Z.zero : Sz := ⟨0, 0, 0, false⟩
theorem zfind_at {L : List Sz} {x : Int} {k : Nat} {s : Sz} (h : L[k]? = some s) (hs : s.gen = x) (hn : ∀ i y, i < k → L[i]? = some y → y.gen ≠ x) : Z.find L x = some s := by
  unfold Z.find
  have hk := (List.getElem?_eq_some_iff.1 h).1
  rw [List.find?_eq_some_iff_getElem]
  refine ⟨by simp [hs], k, hk, (List.getElem?_eq_some_iff.1 h).2, fun j hj => ?_⟩
  simpa using hn j _ hj (List.getElem?_eq_getElem (by omega))
theorem zfind_not {L : List Sz} {x : Int} (h : ∀ s ∈ L, s.gen ≠ x) : Z.find L x = none := by
  unfold Z.find
  rw [List.find?_eq_none]
  intro s hs
  simpa using h s hs

set_option maxHeartbeats 1000000 in
theorem zsize_any (v : Value) (L : List Sz) (x : Int) (w : World) (h : Zl w v L) :
    Calls Try.prog 26 #[v, .int .i64 x] w fun e w' => e = .returned (.tuple #[zv ((Z.find L x).getD Z.zero), .bool (Z.find L x).isSome]) ∧ Below w.heap.size w w' := by
  obtain ⟨a, cap, rfl, h1, h2, hna, ho⟩ := h.open
  clear h
  go_enter Try.func26, Try.ntmps26
  go_wp2
  go_loop [6] (fun iv => ∃ k : Nat, k ≤ L.length ∧ iv = .int .i64 k ∧ Hid (∀ i y, i < k → L[i]? = some y → y.gen ≠ x)) (fun iv => L.length - (intOf iv).toNat)
  case atStart => exact ⟨0, Nat.zero_le _, rfl, hide (fun i y hi => by omega)⟩
  case round =>
    obtain ⟨k, hk, rfl, HA⟩ := hrel
    by_cases hlt : k < L.length
    · obtain ⟨b, off, rfl, hb, hc⟩ := ho (by omega)
      obtain ⟨s, hx⟩ : ∃ x, L[k]? = some x := ⟨L[k], List.getElem?_eq_getElem hlt⟩
      obtain ⟨c0, c1, c2, c3⟩ := hc k s hx
      have hbn : b ≠ w.heap.size := by omega
      have HX := hide hx
      clear hc ho hx
      by_cases hxy : s.gen = x
      · have q : (s.gen == x) = true := by simp [hxy]
        have HR : Hid (Z.find L x = some s) := zfind_at (unhide HX) hxy (unhide HA)
        clear hxy
        go_wp2
        rw [unhide HR]
        exact bodyPost_ret (v := .tuple #[zv s, .bool true]) (by simp [results, Try.results26, go_sem, zv]) rfl ⟨rfl, below_alloc _ _⟩
      · have q : (s.gen == x) = false := by simp [hxy]
        have HXY := hide hxy
        clear hxy
        go_wp2
        go_round
        case rel =>
          refine ⟨k + 1, by omega, by go_num, hide (fun i z hi hz => ?_)⟩
          by_cases e : i = k
          · subst e
            rw [unhide HX] at hz
            cases hz
            exact unhide HXY
          · exact unhide HA i z (by omega) hz
        case measure => simp [intOf]; omega
    · have HR : Hid (Z.find L x = none) := zfind_not (fun s hm => by
        obtain ⟨i, hi⟩ := List.mem_iff_getElem?.1 hm
        exact unhide HA i s (by have := (List.getElem?_eq_some_iff.1 hi).1; omega) hi)
      go_wp2
      rw [unhide HR]
      exact bodyPost_ret (v := .tuple #[zv Z.zero, .bool false]) (by simp [results, Try.results26, go_sem, zv, Z.zero]) rfl ⟨rfl, below_alloc _ _⟩

set_option maxHeartbeats 1000000 in
theorem ztables_any (v u : Value) (T : List (List Int)) (w : World) (hl : Tl w v T) (hb : Tl w u T) :
    Calls Try.prog 10 #[v, u] w fun e w' => e = .returned (.bool true) ∧ Below w.heap.size w w' := by
  have HG := hl
  have HB := hb
  obtain ⟨a, cap, rfl, h1, h2, -⟩ := hl.at
  obtain ⟨a2, cap2, rfl, h3, h4, -⟩ := hb.at
  clear hl hb
  have hne : ((T.length : Int) != (T.length : Int)) = false := by simp
  go_enter Try.func10, Try.ntmps10
  go_wp2
  go_loopw [5] (fun iv wr => ∃ k : Nat, k ≤ T.length ∧ iv = .int .i64 k ∧ Below w.heap.size w wr) (fun iv _ => T.length - (intOf iv).toNat)
  case atStart => exact ⟨0, Nat.zero_le _, rfl, Below.refl _ _⟩
  case round =>
    obtain ⟨k, hk, rfl, hbel⟩ := hrel
    by_cases hlt : k < T.length
    · obtain ⟨a', c', hv', -, -, ho⟩ := (HG.below hbel).at
      simp only [Value.slice.injEq, true_and] at hv'
      obtain ⟨rfl, rfl⟩ := hv'
      obtain ⟨b, off, rfl, hb, hc⟩ := ho (by omega)
      obtain ⟨a', c', hv', -, -, ho2⟩ := (HB.below hbel).at
      simp only [Value.slice.injEq, true_and] at hv'
      obtain ⟨rfl, rfl⟩ := hv'
      obtain ⟨b2, off2, rfl, hb2, hc2⟩ := ho2 (by omega)
      obtain ⟨t, hx⟩ : ∃ x, T[k]? = some x := ⟨_, List.getElem?_eq_getElem hlt⟩
      obtain ⟨xa, xc, c0, g0⟩ := hc k t hx
      obtain ⟨ya, yc, d0, g1⟩ := hc2 k t hx
      have CI := ints_b _ _ t t wr.drew ((Il.sl g0).below (Below.refl _ _).drew) ((Il.sl g1).below (Below.refl _ _).drew) true (by simp)
      have KB : ∀ w' : World, Below wr.heap.size wr w' → w'.cell? ⟨b, off + k, none⟩ = some (.slice xa t.length xc) ∧ w'.cell? ⟨b2, off2 + k, none⟩ = some (.slice ya t.length yc) := fun w' hb => ⟨cellK10 c0 hb, cellK10 d0 hb⟩
      have HKB := hide KB
      clear hc hc2 ho ho2 hx g0 g1 KB
      go_wp2
      go_region_held3 (fun w' => w'.cell? ⟨b, off + k, none⟩ = some (.slice xa t.length xc) ∧ w'.cell? ⟨b2, off2 + k, none⟩ = some (.slice ya t.length yc))
        (first | with_reducible assumption | exact unhide HKB _ (Below.refl _ _).drew)
        ((go_at_call 28; refine CI.mono ?_; rintro e w9 ⟨rfl, B9⟩; have K9 := unhide HKB w9 (below_trans' (Below.refl _ _).drew B9)))
      have BB := below_trans' hbel (below_trans' (Below.refl _ _).drew B9)
      clear B9 K9
      go_wp2
      go_roundw
      case rel => exact ⟨k + 1, by omega, by go_num, BB⟩
      case measure => simp [intOf]; omega
    · go_wp2
      go_ret
      exact ⟨rfl, hbel⟩

set_option maxHeartbeats 1000000 in
theorem rsame_any (v u : Value) (T : List Sz) (w : World) (hl : Zl w v T) (hb : Zl w u T) :
    Calls Try.prog 27 #[v, u] w fun e w' => e = .returned (.bool true) ∧ Below w.heap.size w w' := by
  have HG := hl
  have HB := hb
  obtain ⟨a, cap, rfl, h1, h2, -, -⟩ := hl.open
  obtain ⟨a2, cap2, rfl, h3, h4, -, -⟩ := hb.open
  clear hl hb
  have hne : ((T.length : Int) != (T.length : Int)) = false := by simp
  go_enter Try.func27, Try.ntmps27
  go_wp2
  go_loopw [5] (fun iv wr => ∃ k : Nat, k ≤ T.length ∧ iv = .int .i64 k ∧ Below w.heap.size w wr) (fun iv _ => T.length - (intOf iv).toNat)
  case atStart => exact ⟨0, Nat.zero_le _, rfl, Below.refl _ _⟩
  case round =>
    obtain ⟨k, hk, rfl, hbel⟩ := hrel
    by_cases hlt : k < T.length
    · obtain ⟨a', c', hv', -, -, -, ho⟩ := Zl.open (Kl.below HG hbel)
      simp only [Value.slice.injEq, true_and] at hv'
      obtain ⟨rfl, rfl⟩ := hv'
      obtain ⟨b, off, rfl, hb, hc⟩ := ho (by omega)
      obtain ⟨a', c', hv', -, -, -, ho2⟩ := Zl.open (Kl.below HB hbel)
      simp only [Value.slice.injEq, true_and] at hv'
      obtain ⟨rfl, rfl⟩ := hv'
      obtain ⟨b2, off2, rfl, hb2, hc2⟩ := ho2 (by omega)
      obtain ⟨s, hx⟩ : ∃ x, T[k]? = some x := ⟨_, List.getElem?_eq_getElem hlt⟩
      obtain ⟨c0, c1, c2, c3⟩ := hc k s hx
      obtain ⟨d0, d1, d2, d3⟩ := hc2 k s hx
      clear hc hc2 ho ho2 hx
      go_wp2
      go_quiet (fail)
      have BB := below_dr' hbel nq
      go_wp2
      go_roundw
      case rel => exact ⟨k + 1, by omega, by go_num, BB⟩
      case measure => simp [intOf]; omega
    · go_wp2
      go_ret
      exact ⟨rfl, hbel⟩
end Go.Proofs.Ytfniphaehggcgaa
