/-
  Texts put together: Mays12, Clos12, Rows12, Lib12, DelF12, Repl12.
-/
import Derived.Test.YtfniphaehggcgaaQ11
import Derived.Test.YtfniphaehggcgaaQ12
import Derived.BigQuiet
import Derived.Lib.SliceRun
/-
  The contracts of maySize, mayTier, maySegs and mostlyDead.
-/
namespace Go.Proofs.Ytfniphaehggcgaa
set_option maxRecDepth 100000
open Go.RowKit

theorem maySize_any (s : Sz) (w : World) (r : Bool) (hr : r = true ↔ Z.Ok s) : Calls Try.prog 33 #[zv s] w fun e w' => e = .returned (.bool r) ∧ Below w.heap.size w w' := by
  obtain ⟨g, d, x, b⟩ := s
  unfold Z.Ok at hr
  simp only at hr
  unfold zv
  simp only
  obtain ⟨r1, hr1⟩ : ∃ r1 : Bool, r1 = true ↔ 1 ≤ g ∧ g ≤ 34359738367 := ⟨decide (1 ≤ g ∧ g ≤ 34359738367), by simp⟩
  obtain ⟨r2, hr2⟩ : ∃ r1 : Bool, r1 = true ↔ 0 ≤ d ∧ d ≤ 64 := ⟨decide (0 ≤ d ∧ d ≤ 64), by simp⟩
  obtain ⟨r3, hr3⟩ : ∃ r1 : Bool, r1 = true ↔ 0 ≤ x ∧ x ≤ d := ⟨decide (0 ≤ x ∧ x ≤ d), by simp⟩
  have C1 := fun w => zwithin_any g 1 34359738367 w r1 hr1
  have C2 := fun w => zwithin_any d 0 64 w r2 hr2
  have C3 := fun w => zwithin_any x 0 d w r3 hr3
  have HR : Hid (r = (r1 && (r2 && r3))) := by
    show _ = _
    rw [Bool.eq_iff_iff, hr, Bool.and_eq_true, Bool.and_eq_true, hr1, hr2, hr3]
  clear hr hr1 hr2 hr3
  obtain ⟨W, hW⟩ : ∃ W, W = w.alloc (.cells #[.int .i64 g, .int .i64 d, .int .i64 x, .bool b] 36) := ⟨_, rfl⟩
  have BW : Below w.heap.size w W := by rw [hW]; exact below_alloc _ _
  obtain ⟨c0, c1, c2, -⟩ := box4 (s := ⟨g, d, x, b⟩) (w := W) (g := w.heap.size) (fr := (0, 0)) (T := 36) (by rw [hW]; exact heap_alloc_new w _)
  simp only at c0 c1 c2
  have HW := hide hW
  clear hW
  go_enter Try.func33, Try.ntmps33
  go_wp2_with fail
  rw [← unhide HW]
  go_wp2_with fail
  refine (C1 _).mono ?_
  rintro e w1 ⟨rfl, rfl⟩
  cases r1 with
  | false =>
    go_wp2
    go_ret
    exact ⟨by rw [unhide HR]; rfl, BW⟩
  | true =>
    go_wp2_with fail
    refine (C2 _).mono ?_
    rintro e w1 ⟨rfl, rfl⟩
    cases r2 with
    | false =>
      go_wp2
      go_ret
      exact ⟨by rw [unhide HR]; rfl, BW⟩
    | true =>
      go_wp2_with fail
      refine (C3 _).mono ?_
      rintro e w1 ⟨rfl, rfl⟩
      go_wp2
      go_ret
      exact ⟨by rw [unhide HR]; rfl, BW⟩

/-- The bounds, as they are handed on. -/
def bv (per most segs : Int) : Value := .agg #[.int .i64 per, .int .i64 most, .int .i64 segs]
theorem maySegs_any (per most segs : Int) (w : World) : Calls Try.prog 59 #[bv per most segs] w fun e w' => e = .returned (.bool (decide (1 ≤ segs))) ∧ Below w.heap.size w w' := by
  unfold bv
  go_enter Try.func59, Try.ntmps59
  go_wp2
  go_ret
  exact ⟨rfl, below_alloc _ _⟩

theorem mayTier_any (per most segs : Int) (w : World) (r : Bool) (hr : r = true ↔ Z.Pol per most) : Calls Try.prog 36 #[bv per most segs] w fun e w' => e = .returned (.bool r) ∧ Below w.heap.size w w' := by
  unfold Z.Pol at hr
  unfold bv
  obtain ⟨r1, hr1⟩ : ∃ r1 : Bool, r1 = true ↔ 2 ≤ per ∧ per ≤ 8 := ⟨decide (2 ≤ per ∧ per ≤ 8), by simp⟩
  obtain ⟨r2, hr2⟩ : ∃ r1 : Bool, r1 = true ↔ 1 ≤ most ∧ most ≤ 64 := ⟨decide (1 ≤ most ∧ most ≤ 64), by simp⟩
  have C1 := fun w => zwithin_any per 2 8 w r1 hr1
  have C2 := fun w => zwithin_any most 1 64 w r2 hr2
  have HR : Hid (r = (r1 && r2)) := by
    show _ = _
    rw [Bool.eq_iff_iff, hr, Bool.and_eq_true, hr1, hr2]
  clear hr hr1 hr2
  obtain ⟨W, hW⟩ : ∃ W, W = w.alloc (.cells #[.int .i64 per, .int .i64 most, .int .i64 segs] 52) := ⟨_, rfl⟩
  have BW : Below w.heap.size w W := by rw [hW]; exact below_alloc _ _
  have c0 : W.cell? ⟨w.heap.size, 0, none⟩ = some (.int .i64 per) := by rw [hW]; exact box_cell (heap_alloc_new w _) rfl
  have c1 : W.cell? ⟨w.heap.size, 1, none⟩ = some (.int .i64 most) := by rw [hW]; exact box_cell (heap_alloc_new w _) rfl
  have HW := hide hW
  clear hW
  go_enter Try.func36, Try.ntmps36
  go_wp2_with fail
  rw [← unhide HW]
  go_wp2_with fail
  refine (C1 _).mono ?_
  rintro e w1 ⟨rfl, rfl⟩
  cases r1 with
  | false =>
    go_wp2
    go_ret
    exact ⟨by rw [unhide HR]; rfl, BW⟩
  | true =>
    go_wp2_with fail
    refine (C2 _).mono ?_
    rintro e w1 ⟨rfl, rfl⟩
    go_wp2
    go_ret
    exact ⟨by rw [unhide HR]; rfl, BW⟩
end Go.Proofs.Ytfniphaehggcgaa

/-
  The contracts of mostlyDead, and of the closures of ofLevels and alike.
-/
namespace Go.Proofs.Ytfniphaehggcgaa
set_option maxRecDepth 100000
open Go.RowKit

theorem zlevelI_any (m per : Int) (w : World) (hm : 0 ≤ m ∧ m ≤ 64) (hp : 2 ≤ per ∧ per ≤ 8) (r : Nat) (hr : Z.lev per.toNat m.toNat = r) : Calls Try.prog 64 #[.int .i64 m, .int .i64 per] w fun e w' => e = .returned (.int .i64 (r : Int)) ∧ Below w.heap.size w w' := by
  have h := zlevel_any m.toNat per.toNat w (by omega) (by omega) (by omega)
  rw [show ((m.toNat : Nat) : Int) = m by omega, show ((per.toNat : Nat) : Int) = per by omega, hr] at h
  exact h.mono fun e w' ⟨h1, h2⟩ => ⟨h1, by rw [h2]; exact Below.refl _ _⟩

theorem mostlyDead_any (s : Sz) (w : World) (hO : Z.Ok s) : Calls Try.prog 57 #[zv s] w fun e w' => e = .returned (.bool (Z.crit true s)) ∧ Below w.heap.size w w' := by
  have CL := fun w => living_any s w hO
  obtain ⟨n, hn⟩ : ∃ n, Z.live s = n := ⟨_, rfl⟩
  have HR : Hid (Z.crit true s = decide (n < s.dead)) := by show _ = _; rw [← hn]; rfl
  rw [hn] at CL
  clear hn hO
  obtain ⟨g, d, x, b⟩ := s
  unfold zv
  unfold zv at CL
  simp only at CL ⊢
  obtain ⟨W, hW⟩ : ∃ W, W = w.alloc (.cells #[.int .i64 g, .int .i64 d, .int .i64 x, .bool b] 36) := ⟨_, rfl⟩
  have BW : Below w.heap.size w W := by rw [hW]; exact below_alloc _ _
  obtain ⟨c0, c1, c2, c3⟩ := box4 (s := ⟨g, d, x, b⟩) (w := W) (g := w.heap.size) (fr := (0, 0)) (T := 36) (by rw [hW]; exact heap_alloc_new w _)
  simp only at c0 c1 c2 c3
  have f0 := fun w' (hb : Below W.heap.size W w') => cell_keep c0 hb
  have f1 := fun w' (hb : Below W.heap.size W w') => cell_keep c1 hb
  have f2 := fun w' (hb : Below W.heap.size W w') => cell_keep c2 hb
  have f3 := fun w' (hb : Below W.heap.size W w') => cell_keep c3 hb
  have HW := hide hW
  clear hW c0 c1 c2 c3
  go_enter Try.func57, Try.ntmps57
  go_wp2_with fail
  rw [← unhide HW]
  refine region_below (by kernel_rfl) (by kernel_rfl) ?_
  repeat
    (first
      | go_big_quiet_skip
      | (go_big_quiet_want; go_big_quiet_op
         first
           | go_big_quiet_on
           | (apply Exists.intro
              refine ⟨fun w' hw' => ?_, ?_⟩
              · first
               | exact rfl
               | (rw [f2 w' hw']; exact ⟨rfl, rfl⟩)
               | (rw [f0 w' hw']; dsimp only [Result.andThen]; rw [f1 w' hw']; dsimp only [Result.andThen]; rw [f2 w' hw']; dsimp only [Result.andThen]; rw [f3 w' hw']; exact ⟨rfl, rfl⟩)
               | (go_at_call 49; exact (CL _).mono fun e w'' ⟨h1, h2⟩ => ⟨h1, below_trans' hw' h2⟩)
              go_big_quiet_on)))
  refine wpQuiet_nil ?_
  intro w9 hb9
  go_wp2
  go_ret
  exact ⟨by rw [unhide HR]; rfl, below_trans' BW hb9⟩

/-- Of one level, and idle. -/
theorem cloLv_any (s : Sz) (P N : Nat) (per : Int) (k : Nat) (w : World) (hP : w.cell? ⟨P, 0, none⟩ = some (.int .i64 per)) (hN : w.cell? ⟨N, 0, none⟩ = some (.int .i64 (k : Int))) (hO : Z.Ok s) (hp : 2 ≤ per ∧ per ≤ 8) :
    Calls Try.prog 65 #[zv s, .pointer (some ⟨P, 0, none⟩), .pointer (some ⟨N, 0, none⟩)] w fun e w' => e = .returned (.bool (Z.ofLv per.toNat k s)) ∧ Below w.heap.size w w' := by
  have CL := fun w => living_any s w hO
  have CV := fun w r => zlevelI_any (Z.live s) per w hO.live hp r
  have CI := fun w => idle_any s w
  obtain ⟨n, hn⟩ : ∃ n, Z.live s = n := ⟨_, rfl⟩
  obtain ⟨r, hr⟩ : ∃ r, Z.lev per.toNat n.toNat = r := ⟨_, rfl⟩
  have HR : Hid (Z.ofLv per.toNat k s = (!s.busy && decide (r = k))) := by show _ = _; rw [← hr, ← hn]; rfl
  rw [hn] at CL CV
  replace CV := fun w => CV w r hr
  clear hn hO hr hp
  obtain ⟨g, d, x, b⟩ := s
  unfold zv
  unfold zv at CL CI
  simp only at CL CI ⊢
  obtain ⟨W, hW⟩ : ∃ W, W = w.alloc (.cells #[.int .i64 g, .int .i64 d, .int .i64 x, .bool b] 36) := ⟨_, rfl⟩
  have BW : Below w.heap.size w W := by rw [hW]; exact below_alloc _ _
  obtain ⟨c0, c1, c2, c3⟩ := box4 (s := ⟨g, d, x, b⟩) (w := W) (g := w.heap.size) (fr := (0, 0)) (T := 36) (by rw [hW]; exact heap_alloc_new w _)
  simp only at c0 c1 c2 c3
  have f0 := fun w' (hb : Below W.heap.size W w') => cell_keep c0 hb
  have f1 := fun w' (hb : Below W.heap.size W w') => cell_keep c1 hb
  have f2 := fun w' (hb : Below W.heap.size W w') => cell_keep c2 hb
  have f3 := fun w' (hb : Below W.heap.size W w') => cell_keep c3 hb
  have fp := fun w' (hb : Below W.heap.size W w') => cell_keep (cell_keep hP BW) hb
  have fn := fun w' (hb : Below W.heap.size W w') => cell_keep (cell_keep hN BW) hb
  have HW := hide hW
  clear hW c0 c1 c2 c3 hP hN
  cases b with
  | true =>
    replace CI : ∀ w, Calls Try.prog 46 #[.agg #[.int .i64 g, .int .i64 d, .int .i64 x, .bool true]] w fun e w' => e = .returned (.bool false) ∧ Below w.heap.size w w' := CI
    go_enter Try.func65, Try.ntmps65
    go_wp2_with fail
    rw [← unhide HW]
    refine region_below (by kernel_rfl) (by kernel_rfl) ?_
    repeat
      (first
        | go_big_quiet_skip
        | (go_big_quiet_want; go_big_quiet_op
           first
             | go_big_quiet_on
             | (apply Exists.intro
                refine ⟨fun w' hw' => ?_, ?_⟩
                · first
                 | exact rfl
                 | (rw [fp w' hw']; exact ⟨rfl, rfl⟩)
                 | (rw [fn w' hw']; exact ⟨rfl, rfl⟩)
                 | (rw [f0 w' hw']; dsimp only [Result.andThen]; rw [f1 w' hw']; dsimp only [Result.andThen]; rw [f2 w' hw']; dsimp only [Result.andThen]; rw [f3 w' hw']; exact ⟨rfl, rfl⟩)
                 | (go_at_call 46; exact (CI _).mono fun e w'' ⟨h1, h2⟩ => ⟨h1, below_trans' hw' h2⟩)
                 | (go_at_call 49; exact (CL _).mono fun e w'' ⟨h1, h2⟩ => ⟨h1, below_trans' hw' h2⟩)
                 | (go_at_call 64; exact (CV _).mono fun e w'' ⟨h1, h2⟩ => ⟨h1, below_trans' hw' h2⟩)
                go_big_quiet_on)))
    refine wpQuiet_nil ?_
    intro w9 hb9
    go_wp2
    go_ret
    exact ⟨by rw [unhide HR]; rfl, below_trans' BW hb9⟩
  | false =>
    replace CI : ∀ w, Calls Try.prog 46 #[.agg #[.int .i64 g, .int .i64 d, .int .i64 x, .bool false]] w fun e w' => e = .returned (.bool true) ∧ Below w.heap.size w w' := CI
    go_enter Try.func65, Try.ntmps65
    go_wp2_with fail
    rw [← unhide HW]
    refine region_below (by kernel_rfl) (by kernel_rfl) ?_
    repeat
      (first
        | go_big_quiet_skip
        | (go_big_quiet_want; go_big_quiet_op
           first
             | go_big_quiet_on
             | (apply Exists.intro
                refine ⟨fun w' hw' => ?_, ?_⟩
                · first
                 | exact rfl
                 | (rw [fp w' hw']; exact ⟨rfl, rfl⟩)
                 | (rw [fn w' hw']; exact ⟨rfl, rfl⟩)
                 | (rw [f0 w' hw']; dsimp only [Result.andThen]; rw [f1 w' hw']; dsimp only [Result.andThen]; rw [f2 w' hw']; dsimp only [Result.andThen]; rw [f3 w' hw']; exact ⟨rfl, rfl⟩)
                 | (go_at_call 46; exact (CI _).mono fun e w'' ⟨h1, h2⟩ => ⟨h1, below_trans' hw' h2⟩)
                 | (go_at_call 49; exact (CL _).mono fun e w'' ⟨h1, h2⟩ => ⟨h1, below_trans' hw' h2⟩)
                 | (go_at_call 64; exact (CV _).mono fun e w'' ⟨h1, h2⟩ => ⟨h1, below_trans' hw' h2⟩)
                go_big_quiet_on)))
    refine wpQuiet_nil ?_
    intro w9 hb9
    go_wp2
    go_ret
    refine ⟨?_, below_trans' BW hb9⟩
    rw [unhide HR]
    have e : ((r : Int) == (k : Int)) = decide (r = k) := eq_num r k
    simp only [Bool.not_false, Bool.true_and]
    rw [← e]
    rfl

set_option maxHeartbeats 1000000 in
/-- Not idle, or of another level than the first. -/
theorem cloAl_any (s y : Sz) (P Q b off n c : Nat) (per : Int) (w : World) (hP : w.cell? ⟨P, 0, none⟩ = some (.int .i64 per)) (hQ : w.cell? ⟨Q, 0, none⟩ = some (.slice (some ⟨b, off, none⟩) n c)) (hn0 : 0 < n)
    (y0 : w.cell? ⟨b, off, none⟩ = some (.int .i64 y.gen)) (y1 : w.cell? ⟨b, off + 1, none⟩ = some (.int .i64 y.docs)) (y2 : w.cell? ⟨b, off + 2, none⟩ = some (.int .i64 y.dead)) (y3 : w.cell? ⟨b, off + 3, none⟩ = some (.bool y.busy)) (hO : Z.Ok s) (hY : Z.Ok y) (hp : 2 ≤ per ∧ per ≤ 8) :
    Calls Try.prog 69 #[zv s, .pointer (some ⟨P, 0, none⟩), .pointer (some ⟨Q, 0, none⟩)] w fun e w' => e = .returned (.bool (!(!s.busy && decide (Z.lv per.toNat s = Z.lv per.toNat y)))) ∧ Below w.heap.size w w' := by
  have CL := fun w => living_any s w hO
  have CM := fun w => living_any y w hY
  have CV := fun w r => zlevelI_any (Z.live s) per w hO.live hp r
  have CU := fun w r => zlevelI_any (Z.live y) per w hY.live hp r
  obtain ⟨m, hm⟩ : ∃ n, Z.live s = n := ⟨_, rfl⟩
  obtain ⟨r, hr⟩ : ∃ r, Z.lev per.toNat m.toNat = r := ⟨_, rfl⟩
  obtain ⟨m2, hm2⟩ : ∃ n, Z.live y = n := ⟨_, rfl⟩
  obtain ⟨r2, hr2⟩ : ∃ r, Z.lev per.toNat m2.toNat = r := ⟨_, rfl⟩
  have HR : Hid (Z.lv per.toNat s = r ∧ Z.lv per.toNat y = r2) := by show _ ∧ _; rw [← hr, ← hm, ← hr2, ← hm2]; exact ⟨rfl, rfl⟩
  rw [hm] at CL CV
  rw [hm2] at CM CU
  replace CV := fun w => CV w r hr
  replace CU := fun w => CU w r2 hr2
  rw [(unhide HR).1, (unhide HR).2]
  clear hm hm2 hO hY hr hr2 hp HR
  obtain ⟨g, d, x, bu⟩ := s
  obtain ⟨yg, yd, yx, yb⟩ := y
  unfold zv
  unfold zv at CL CM
  simp only at CL CM y0 y1 y2 y3 ⊢
  obtain ⟨W, hW⟩ : ∃ W, W = w.alloc (.cells #[.int .i64 g, .int .i64 d, .int .i64 x, .bool bu] 36) := ⟨_, rfl⟩
  have BW : Below w.heap.size w W := by rw [hW]; exact below_alloc _ _
  obtain ⟨c0, c1, c2, c3⟩ := box4 (s := ⟨g, d, x, bu⟩) (w := W) (g := w.heap.size) (fr := (0, 0)) (T := 36) (by rw [hW]; exact heap_alloc_new w _)
  simp only at c0 c1 c2 c3
  have f0 := fun w' (hb : Below W.heap.size W w') => cell_keep c0 hb
  have f1 := fun w' (hb : Below W.heap.size W w') => cell_keep c1 hb
  have f2 := fun w' (hb : Below W.heap.size W w') => cell_keep c2 hb
  have f3 := fun w' (hb : Below W.heap.size W w') => cell_keep c3 hb
  have fp := fun w' (hb : Below W.heap.size W w') => cell_keep (cell_keep hP BW) hb
  have fq := fun w' (hb : Below W.heap.size W w') => cell_keep (cell_keep hQ BW) hb
  have h0 := fun w' (hb : Below W.heap.size W w') => cell_keep (cell_keep y0 BW) hb
  have h1 := fun w' (hb : Below W.heap.size W w') => cell_keep (cell_keep y1 BW) hb
  have h2 := fun w' (hb : Below W.heap.size W w') => cell_keep (cell_keep y2 BW) hb
  have h3 := fun w' (hb : Below W.heap.size W w') => cell_keep (cell_keep y3 BW) hb
  have HW := hide hW
  clear hW c0 c1 c2 c3 hP hQ y0 y1 y2 y3
  cases bu with
  | true =>
    go_enter Try.func69, Try.ntmps69
    go_wp2_with fail
    rw [← unhide HW]
    refine region_below (by kernel_rfl) (by kernel_rfl) ?_
    repeat
      (first
        | go_big_quiet_skip
        | (go_big_quiet_want; go_big_quiet_op
           first
             | go_big_quiet_on
             | (apply Exists.intro
                refine ⟨fun w' hw' => ?_, ?_⟩
                · first
                 | exact rfl
                 | (rw [f3 w' hw']; exact ⟨rfl, rfl⟩)
                 | (rw [fp w' hw']; exact ⟨rfl, rfl⟩)
                 | (rw [fq w' hw']; exact ⟨rfl, rfl⟩)
                 | (rw [f0 w' hw']; dsimp only [Result.andThen]; rw [f1 w' hw']; dsimp only [Result.andThen]; rw [f2 w' hw']; dsimp only [Result.andThen]; rw [f3 w' hw']; exact ⟨rfl, rfl⟩)
                 | (rw [h0 w' hw']; dsimp only [Result.andThen]; rw [h1 w' hw']; dsimp only [Result.andThen]; rw [h2 w' hw']; dsimp only [Result.andThen]; rw [h3 w' hw']; exact ⟨rfl, rfl⟩)
                go_big_quiet_on)))
    refine wpQuiet_nil ?_
    intro w9 hb9
    go_wp2
    go_ret
    exact ⟨rfl, below_trans' BW hb9⟩
  | false =>
    go_enter Try.func69, Try.ntmps69
    go_wp2_with fail
    rw [← unhide HW]
    refine region_below (by kernel_rfl) (by kernel_rfl) ?_
    repeat
      (first
        | go_big_quiet_skip
        | (go_big_quiet_want; go_big_quiet_op
           first
             | go_big_quiet_on
             | (apply Exists.intro
                refine ⟨fun w' hw' => ?_, ?_⟩
                · first
                 | exact rfl
                 | (rw [f3 w' hw']; exact ⟨rfl, rfl⟩)
                 | (rw [fp w' hw']; exact ⟨rfl, rfl⟩)
                 | (rw [fq w' hw']; exact ⟨rfl, rfl⟩)
                 | (rw [f0 w' hw']; dsimp only [Result.andThen]; rw [f1 w' hw']; dsimp only [Result.andThen]; rw [f2 w' hw']; dsimp only [Result.andThen]; rw [f3 w' hw']; exact ⟨rfl, rfl⟩)
                 | (rw [h0 w' hw']; dsimp only [Result.andThen]; rw [h1 w' hw']; dsimp only [Result.andThen]; rw [h2 w' hw']; dsimp only [Result.andThen]; rw [h3 w' hw']; exact ⟨rfl, rfl⟩)
                 | (go_at_call_of 49 (Value.agg #[Value.int IntKind.i64 g, Value.int IntKind.i64 d, Value.int IntKind.i64 x, Value.bool false]); exact (CL _).mono fun e w'' ⟨h1, h2⟩ => ⟨h1, below_trans' hw' h2⟩)
                 | (go_at_call 49; exact (CM _).mono fun e w'' ⟨h1, h2⟩ => ⟨h1, below_trans' hw' h2⟩)
                 | (go_at_call_of 64 (Value.int IntKind.i64 m); exact (CV _).mono fun e w'' ⟨h1, h2⟩ => ⟨h1, below_trans' hw' h2⟩)
                 | (go_at_call 64; exact (CU _).mono fun e w'' ⟨h1, h2⟩ => ⟨h1, below_trans' hw' h2⟩)
                go_big_quiet_on)))
    refine wpQuiet_nil ?_
    intro w9 hb9
    go_wp2
    go_ret
    refine ⟨?_, below_trans' BW hb9⟩
    have e : ((r : Int) == (r2 : Int)) = decide (r = r2) := eq_num r r2
    have e2 : ((r : Int) != (r2 : Int)) = !decide (r = r2) := by rw [← e]; rfl
    simp only [Bool.not_false, Bool.true_and]
    rw [← e2]
    rfl
end Go.Proofs.Ytfniphaehggcgaa

/-
  The contracts of gens, lives, slices.Index and slices.Contains at numbers, slices.Max, greatest, and of only, whatever function it is handed.
-/
namespace Go.Proofs.Ytfniphaehggcgaa
set_option maxRecDepth 100000
open Go.RowKit

theorem take_snoc12 {α : Type} {l : List α} {k : Nat} {x : α} (h : l[k]? = some x) : l.take (k + 1) = l.take k ++ [x] := by
  rw [List.take_add_one, h]
  rfl

set_option maxHeartbeats 1000000 in
theorem gens_any (v : Value) (L : List Sz) (w : World) (h : Zl w v L) (hl : L.length ≤ 1000000) :
    Calls Try.prog 35 #[v] w fun e w' => ∃ v', e = .returned v' ∧ w'.ownsRow w.heap.size 3 1 v' (Z.gens L).length ((Z.gens L).map (Value.int .i64)) ∧ Below w.heap.size w w' := by
  obtain ⟨i0, hi, hz0, hz1, hz2⟩ := info_parts Try.infoI10
  obtain ⟨a, cap, rfl, h1, h2, hna, ho⟩ := h.open
  clear h
  go_enter Try.func35, Try.ntmps35
  go_wp2
  go_loopw [3, 8] (fun ov iv wr => ∃ (k : Nat) (X : List Int), k ≤ L.length ∧ iv = .int .i64 k ∧ X.length = k ∧ Hid (X = Z.gens (L.take k)) ∧ wr.ownsRow w.heap.size 3 1 ov X.length (X.map (Value.int .i64)) ∧ Below w.heap.size w wr) (fun _ iv _ => L.length - (intOf iv).toNat)
  case atStart => exact ⟨0, [], Nat.zero_le _, rfl, rfl, rfl, World.ownsRow_nil _ _ _ _, Below.refl _ _⟩
  case round =>
    obtain ⟨k, X, hk, rfl, hX, HX, hown, hbel⟩ := hrel
    have hxl : X.length ≤ 1000000 := by omega
    have HL := hide hX
    clear hX
    by_cases hlt : k < L.length
    · obtain ⟨b, off, rfl, hb, hc⟩ := ho (by omega)
      obtain ⟨s, hx⟩ : ∃ x, L[k]? = some x := ⟨L[k], List.getElem?_eq_getElem hlt⟩
      obtain ⟨e0, e1, e2, e3⟩ := hc k s hx
      have c0 := (hbel.cell (p := ⟨b, off + k * 4, none⟩) hb).trans e0
      have c1 := (hbel.cell (p := ⟨b, off + k * 4 + 1, none⟩) hb).trans e1
      have c2 := (hbel.cell (p := ⟨b, off + k * 4 + 2, none⟩) hb).trans e2
      have c3 := (hbel.cell (p := ⟨b, off + k * 4 + 3, none⟩) hb).trans e3
      have HX2 : Hid (X ++ [s.gen] = Z.gens (L.take (k + 1))) := by
        show _ = _
        rw [take_snoc12 hx, unhide HX]
        simp [Z.gens]
      have hown1 := hown.alloc (.cells #[.int .i64 s.gen, .int .i64 s.docs, .int .i64 s.dead, .bool s.busy] 36)
      have hbel1 := below_all hbel (.cells #[.int .i64 s.gen, .int .i64 s.docs, .int .i64 s.dead, .bool s.busy] 36)
      have hBs := hbel1.size
      clear hc ho hx e0 e1 e2 e3 hown hbel
      go_wp2_with (at_builtin; refine append_oneL (f := Value.int .i64) rfl _ _ 47 rfl Try.underlying47 hi hz0 hz1 hz2 rfl (fun _ => rfl) (pre := X) s.gen rfl rfl (by simp) hown1 (by omega) (by omega) (by omega) ?_; intro g9 c9 w9 O9 g9' l9)
      have B9 := hbel1.grown g9' (by omega) (fun j hj => (hown1.lt j hj).1)
      go_roundw
      case rel => exact ⟨k + 1, X ++ [s.gen], by omega, by go_num, by simp [unhide HL], HX2, O9, B9⟩
      case measure => simp [intOf]; omega
    · go_wp2
      go_ret
      have hF := unhide HX
      rw [List.take_of_length_le (by omega)] at hF
      rw [← hF]
      exact ⟨_, rfl, hown, hbel⟩

set_option maxHeartbeats 1000000 in
theorem lives_any (v : Value) (L : List Sz) (w : World) (h : Zl w v L) (hO : Z.Fit L) :
    Calls Try.prog 38 #[v] w fun e w' => e = .returned (.int .i64 (Z.lives L)) ∧ Below w.heap.size w w' := by
  obtain ⟨a, cap, rfl, h1, h2, hna, ho⟩ := h.open
  clear h
  obtain ⟨hll, hok⟩ := hO
  have HO := hide hok
  clear hok
  go_enter Try.func38, Try.ntmps38
  go_wp2
  go_loopw [3, 8] (fun nv iv wr => ∃ (k : Nat) (n : Int), k ≤ L.length ∧ iv = .int .i64 k ∧ nv = .int .i64 n ∧ (0 ≤ n ∧ n ≤ k * 64) ∧ Hid (n = Z.lives (L.take k)) ∧ Below w.heap.size w wr) (fun _ iv _ => L.length - (intOf iv).toNat)
  case atStart => exact ⟨0, 0, Nat.zero_le _, rfl, rfl, by omega, rfl, Below.refl _ _⟩
  case round =>
    obtain ⟨k, n, hk, rfl, rfl, ⟨hn0, hn1⟩, HN, hbel⟩ := hrel
    by_cases hlt : k < L.length
    · obtain ⟨b, off, rfl, hb, hc⟩ := ho (by omega)
      obtain ⟨s, hx⟩ : ∃ x, L[k]? = some x := ⟨L[k], List.getElem?_eq_getElem hlt⟩
      obtain ⟨e0, e1, e2, e3⟩ := hc k s hx
      have c0 := (hbel.cell (p := ⟨b, off + k * 4, none⟩) hb).trans e0
      have c1 := (hbel.cell (p := ⟨b, off + k * 4 + 1, none⟩) hb).trans e1
      have c2 := (hbel.cell (p := ⟨b, off + k * 4 + 2, none⟩) hb).trans e2
      have c3 := (hbel.cell (p := ⟨b, off + k * 4 + 3, none⟩) hb).trans e3
      have hOs := unhide HO s (List.mem_of_getElem? hx)
      obtain ⟨m, hm⟩ : ∃ m, Z.live s = m := ⟨_, rfl⟩
      obtain ⟨hm0, hm1⟩ := hOs.live
      have CL := fun w => living_any s w hOs
      rw [hm] at hm0 hm1 CL
      have HN2 : Hid (n + m = Z.lives (L.take (k + 1))) := by
        show _ = _
        rw [Z.lives_take hx, hm, unhide HN]
      have hbel1 := below_all hbel (.cells #[.int .i64 s.gen, .int .i64 s.docs, .int .i64 s.dead, .bool s.busy] 36)
      clear hc ho hx e0 e1 e2 e3 hbel hm hOs
      go_wp2_with fail
      refine (CL _).mono ?_
      rintro e w2 ⟨rfl, B2⟩
      have BB := below_trans' hbel1 B2
      clear B2 CL hbel1
      go_wp2
      go_roundw
      case rel => exact ⟨k + 1, n + m, by omega, by go_num, by go_num, by omega, HN2, BB⟩
      case measure => simp [intOf]; omega
    · go_wp2
      go_ret
      have hF := unhide HN
      rw [List.take_of_length_le (by omega)] at hF
      exact ⟨by rw [hF]; rfl, hbel⟩

/-- Where a number stands first; -1, if it does not. -/
def Z.ix (l : List Int) (x : Int) : Int := if x ∈ l then ((l.idxOf x : Nat) : Int) else -1
theorem zix_not {l : List Int} {x : Int} (h : x ∉ l) : Z.ix l x = -1 := if_neg h
theorem zix_at {l : List Int} {x : Int} {k : Nat} (h : l[k]? = some x) (hn : ∀ i y, i < k → l[i]? = some y → x ≠ y) : Z.ix l x = (k : Int) := by
  have hk := (List.getElem?_eq_some_iff.1 h).1
  have hm : x ∈ l := List.mem_of_getElem? h
  rw [Z.ix, if_pos hm]
  have h1 : l.idxOf x < l.length := List.idxOf_lt_length_iff.2 hm
  have h2 : l[l.idxOf x] = x := List.getElem_idxOf h1
  rcases Nat.lt_trichotomy (l.idxOf x) k with h3 | h3 | h3
  · exact absurd h2.symm (hn _ _ h3 (List.getElem?_eq_getElem h1))
  · rw [h3]
  · have e1 : l[k]'hk = x := (List.getElem?_eq_some_iff.1 h).2
    have h4 := List.not_of_lt_findIdx (p := (· == x)) (xs := l) (i := k) h3
    simp [e1] at h4

set_option maxHeartbeats 1000000 in
theorem zindex_any (v : Value) (l : List Int) (x : Int) (w : World) (h : Il w v l) (hl : l.length ≤ 1000000) :
    Calls Try.prog 48 #[v, .int .i64 x] w fun e w' => e = .returned (.int .i64 (Z.ix l x)) ∧ w' = w := by
  obtain ⟨a, cap, rfl, h1, h2, hna, ho⟩ := h.open
  clear h
  go_enter Try.func48, Try.ntmps48
  go_wp2
  go_loop [8] (fun iv => ∃ k : Nat, k ≤ l.length ∧ iv = .int .i64 k ∧ Hid (∀ i y, i < k → l[i]? = some y → x ≠ y)) (fun iv => l.length - (intOf iv).toNat)
  case atStart => exact ⟨0, Nat.zero_le _, rfl, hide (fun i y hi => by omega)⟩
  case round =>
    obtain ⟨k, hk, rfl, HA⟩ := hrel
    by_cases hlt : k < l.length
    · obtain ⟨b, off, rfl, hb, hc⟩ := ho (by omega)
      obtain ⟨y, hx⟩ : ∃ x, l[k]? = some x := ⟨l[k], List.getElem?_eq_getElem hlt⟩
      have c0 := hc k y hx
      have HX := hide hx
      clear hc ho hx
      by_cases hxy : x = y
      · have q : (x == y) = true := by simp [hxy]
        have HR : Hid (Z.ix l x = (k : Int)) := zix_at (by rw [hxy]; exact unhide HX) (unhide HA)
        clear hxy
        go_wp2
        go_ret
        exact ⟨by rw [unhide HR]; rfl, rfl⟩
      · have q : (x == y) = false := by simp [hxy]
        have HXY := hide hxy
        clear hxy
        go_wp2
        go_round
        case rel =>
          refine ⟨k + 1, by omega, by go_num, hide (fun i z hi hz => ?_)⟩
          by_cases e : i = k
          · subst e
            rw [unhide HX] at hz
            cases hz
            exact unhide HXY
          · exact unhide HA i z (by omega) hz
        case measure => simp [intOf]; omega
    · have HR : Hid (Z.ix l x = -1) := zix_not (fun hm => by
        obtain ⟨i, hi⟩ := List.mem_iff_getElem?.1 hm
        exact unhide HA i x (by have := (List.getElem?_eq_some_iff.1 hi).1; omega) hi rfl)
      go_wp2
      go_ret
      exact ⟨by rw [unhide HR]; rfl, rfl⟩

theorem zcontains_any (v : Value) (l : List Int) (x : Int) (w : World) (h : Il w v l) (hl : l.length ≤ 1000000) :
    Calls Try.prog 34 #[v, .int .i64 x] w fun e w' => e = .returned (.bool (decide (x ∈ l))) ∧ w' = w := by
  have CI := zindex_any v l x w h hl
  obtain ⟨k, hk⟩ : ∃ k, Z.ix l x = k := ⟨_, rfl⟩
  have HR : Hid (decide (x ∈ l) = decide (0 ≤ k)) := by
    show _ = _
    rw [← hk, Z.ix]
    by_cases hm : x ∈ l
    · rw [if_pos hm]; simp [hm]
    · rw [if_neg hm]; simp [hm]
  rw [hk] at CI
  obtain ⟨a, cap, rfl, -⟩ := h.open
  clear h hk
  go_enter Try.func34, Try.ntmps34
  go_wp2_with fail
  refine CI.mono ?_
  rintro e w' ⟨rfl, rfl⟩
  clear CI
  go_wp2
  go_ret
  exact ⟨by rw [unhide HR]; rfl, rfl⟩

theorem isOf1_any (s : Sz) (P : Nat) (v : Value) (F : List Int) (w : World) (hP : w.cell? ⟨P, 0, none⟩ = some v) (hF : Il w v F) (hl : F.length ≤ 1000000) :
    Calls Try.prog 52 #[zv s, .pointer (some ⟨P, 0, none⟩)] w fun e w' => e = .returned (.bool (decide (s.gen ∈ F))) ∧ Below w.heap.size w w' := by
  obtain ⟨g, d, x, b⟩ := s
  unfold zv
  simp only
  obtain ⟨W, hW⟩ : ∃ W, W = w.alloc (.cells #[.int .i64 g, .int .i64 d, .int .i64 x, .bool b] 36) := ⟨_, rfl⟩
  have BW : Below w.heap.size w W := by rw [hW]; exact below_alloc _ _
  have CC := zcontains_any v F g W (hF.below BW) hl
  have c0 : W.cell? ⟨w.heap.size, 0, none⟩ = some (.int .i64 g) := by rw [hW]; exact box_cell (heap_alloc_new w _) rfl
  obtain ⟨r, hr⟩ : ∃ r, decide (g ∈ F) = r := ⟨_, rfl⟩
  rw [hr] at CC ⊢
  obtain ⟨a, cap, rfl, -⟩ := hF.open
  have cp := cell_keep hP BW
  have q1 : P < w.heap.size := World.block_lt_of_cell? w _ hP
  have q2 : P ≠ w.heap.size := by omega
  rw [hW] at cp
  have HW := hide hW
  clear hW hF hr
  go_enter Try.func52, Try.ntmps52
  go_wp2_with fail
  rw [← unhide HW]
  refine CC.mono ?_
  rintro e w' ⟨rfl, rfl⟩
  clear CC
  go_wp2
  go_ret
  exact ⟨rfl, BW⟩

set_option maxHeartbeats 1000000 in
theorem only_any (f : Nat) (eg : ∀ args w, (callFunc f args).run Try.prog w = .ok (.enter f args) w) (lb : Array Value) (so : Sz → Bool) (v : Value) (L : List Sz) (w : World) (h : Zl w v L) (hl : L.length ≤ 1000000)
    (hcall : ∀ s ∈ L, ∀ w1, Below w.heap.size w w1 → Calls Try.prog f (#[zv s] ++ lb) w1 fun e w2 => e = .returned (.bool (so s)) ∧ Below w1.heap.size w1 w2) :
    Calls Try.prog 41 #[v, .func (.func f) #[] lb] w fun e w' => ∃ v', e = .returned v' ∧ w'.ownsRow w.heap.size 36 4 v' (L.filter so).length ((L.filter so).flatMap encZ) ∧ Below w.heap.size w w' := by
  obtain ⟨i0, hi, hz0, hz1, hz2⟩ := info_parts Try.infoZ
  obtain ⟨a, cap, rfl, h1, h2, hna, ho⟩ := h.open
  have HC := hide hcall
  clear h hcall
  go_enter Try.func41, Try.ntmps41
  go_wp2
  go_loopw [5, 10] (fun ov iv wr => ∃ (k : Nat) (X : List Sz), k ≤ L.length ∧ iv = .int .i64 k ∧ X.length ≤ k ∧ Hid (X = (L.take k).filter so) ∧ wr.ownsRow w.heap.size 36 4 ov X.length (X.flatMap encZ) ∧ Below w.heap.size w wr) (fun _ iv _ => L.length - (intOf iv).toNat)
  case atStart => exact ⟨0, [], Nat.zero_le _, rfl, Nat.le_refl _, rfl, World.ownsRow_nil _ _ _ _, Below.refl _ _⟩
  case round =>
    obtain ⟨k, X, hk, rfl, hX, HX, hown, hbel⟩ := hrel
    by_cases hlt : k < L.length
    · obtain ⟨b, off, rfl, hb, hc⟩ := ho (by omega)
      obtain ⟨s, hx⟩ : ∃ x, L[k]? = some x := ⟨L[k], List.getElem?_eq_getElem hlt⟩
      obtain ⟨e0, e1, e2, e3⟩ := hc k s hx
      have c0 := (hbel.cell (p := ⟨b, off + k * 4, none⟩) hb).trans e0
      have c1 := (hbel.cell (p := ⟨b, off + k * 4 + 1, none⟩) hb).trans e1
      have c2 := (hbel.cell (p := ⟨b, off + k * 4 + 2, none⟩) hb).trans e2
      have c3 := (hbel.cell (p := ⟨b, off + k * 4 + 3, none⟩) hb).trans e3
      have HS := hide (take_snoc12 hx)
      obtain ⟨W, hW⟩ : ∃ W, W = wr.alloc (.cells #[.int .i64 s.gen, .int .i64 s.docs, .int .i64 s.dead, .bool s.busy] 36) := ⟨_, rfl⟩
      have hown1 : W.ownsRow w.heap.size 36 4 u5 X.length (X.flatMap encZ) := by rw [hW]; exact hown.alloc _
      have hbel1 : Below w.heap.size w W := by rw [hW]; exact below_all hbel _
      obtain ⟨d0, d1, d2, d3⟩ := box4 (s := s) (w := W) (g := wr.heap.size) (fr := (0, 0)) (T := 36) (by rw [hW]; exact heap_alloc_new wr _)
      have CC := unhide HC s (List.mem_of_getElem? hx) W hbel1
      have HW := hide hW
      have HO := hide hown1
      clear hc ho hx e0 e1 e2 e3 hown hbel hW hown1
      unfold zv at CC
      cases hs : so s with
      | true =>
        have HF : Hid (X ++ [s] = (L.take (k + 1)).filter so) := by show _ = _; rw [unhide HS, List.filter_append, unhide HX]; simp [hs]
        rw [hs] at CC
        clear hs
        go_wp2_with fail
        rw [← unhide HW]
        go_wp2_with fail
        refine CC.mono ?_
        rintro e w2 ⟨rfl, B2⟩
        have BB := below_trans' hbel1 B2
        have O2 := own_below (unhide HO) B2
        have d0 := cell_keep d0 B2
        have d1 := cell_keep d1 B2
        have d2 := cell_keep d2 B2
        have d3 := cell_keep d3 B2
        have hBs := BB.size
        clear B2 CC hbel1 c0 c1 c2 c3
        go_wp2_with (at_builtin; refine append_oneF rfl _ _ 22 rfl Try.underlying22 hi hz0 hz1 hz2 rfl (by decide) encZ_len encZ_one (pre := X) s rfl rfl rfl (by simp) O2 (by omega) (by omega) (by decide) ?_; intro g9 c9 w9 O9 g9' l9)
        have B9 := BB.grown g9' (by omega) (fun j hj => (O2.lt j hj).1)
        have hle : (X ++ [s]).length ≤ k + 1 := by simp; omega
        have HE : Hid ((X ++ [s]).length = X.length + 1) := by show _ = _; simp
        go_roundw
        case rel => exact ⟨k + 1, X ++ [s], by omega, by go_num, hle, HF, O9, B9⟩
        case measure => simp [intOf]; omega
      | false =>
        have HF : Hid (X = (L.take (k + 1)).filter so) := by show _ = _; rw [unhide HS, List.filter_append, unhide HX]; simp [hs]
        rw [hs] at CC
        clear hs
        go_wp2_with fail
        rw [← unhide HW]
        go_wp2_with fail
        refine CC.mono ?_
        rintro e w2 ⟨rfl, B2⟩
        have BB := below_trans' hbel1 B2
        have O2 := own_below (unhide HO) B2
        clear B2 CC hbel1 c0 c1 c2 c3
        go_wp2
        go_roundw
        case rel => exact ⟨k + 1, X, by omega, by go_num, by omega, HF, O2, BB⟩
        case measure => simp [intOf]; omega
    · go_wp2
      go_ret
      have hF := unhide HX
      rw [List.take_of_length_le (by omega)] at hF
      rw [← hF]
      exact ⟨_, rfl, hown, hbel⟩
end Go.Proofs.Ytfniphaehggcgaa

/-
  The contracts of slices.Clone, slices.IndexFunc and slices.ContainsFunc at sizes, whatever function they are handed; of alike; of slices.Max at numbers, and of greatest.
-/
namespace Go.Proofs.Ytfniphaehggcgaa
set_option maxRecDepth 100000
open Go.RowKit

set_option maxHeartbeats 1000000 in
theorem cloneZ_any (v : Value) (L : List Sz) (w : World) (h : Zl w v L) (hll : L.length ≤ 1000000) :
    Calls Try.prog 37 #[v] w fun e w' => ∃ v', e = .returned v' ∧ w'.ownsRow w.heap.size 36 4 v' L.length (L.flatMap encZ) ∧ Below w.heap.size w w' := by
  obtain ⟨i0, hi, hz0, hz1, hz2⟩ := info_parts Try.infoZ
  have H := h
  obtain ⟨a, cap, rfl, hl, hm, hna, -⟩ := h
  have q : ∀ (w : World) (a : Option Addr) (n c n' c' : Nat), (binOp .eql 22 (.slice a n c) (.slice none n' c')).run Try.prog w = .ok (.bool a.isNone) w := fun w a n c n' c' => Lib.run_eql_slice_nil w _ _ a n c n' c' Try.underlying22
  cases a with
  | none =>
    have hl0 : L = [] := List.eq_nil_of_length_eq_zero (by have := hna rfl; omega)
    subst hl0
    clear H
    go_enter Try.func37, Try.ntmps37
    go_wp2
    go_ret
    exact ⟨_, rfl, World.ownsRow_nil _ _ _ _, Below.refl _ _⟩
  | some x =>
    have H1 := H.below (below_alloc w (.cells #[] 36))
    have O1 := World.ownsRow_made (base := w.heap.size) (e := 36) (size := 4) w #[] 0 (Nat.le_refl _) (Nat.zero_le _) rfl
    have HK1 := hide H1
    clear H H1
    go_enter Try.func37, Try.ntmps37
    go_wp2_with (at_builtin; refine append_allF rfl _ _ 22 rfl Try.underlying22 hi hz0 hz1 hz2 rfl (by decide) encZ_len encZ_one (pre := []) rfl rfl (unhide HK1) O1 (by simp) (by simp; omega) (by decide) ?_; intro v1 w1 O2 g2)
    go_ret
    exact ⟨_, rfl, by simpa using O2, (below_alloc _ _).grown g2 (by simp) (fun j hj => (O1.lt j hj).1)⟩

/-- Where the first one is of which something is so; -1, if there is none. -/
def Z.fi (so : Sz → Bool) (l : List Sz) : Int := if l.any so = true then ((l.findIdx so : Nat) : Int) else -1
theorem zfi_not {so : Sz → Bool} {l : List Sz} (h : ∀ s ∈ l, so s = false) : Z.fi so l = -1 := by
  rw [Z.fi, if_neg]
  rw [List.any_eq_true]
  rintro ⟨s, h1, h2⟩
  rw [h s h1] at h2
  cases h2
theorem zfi_at {so : Sz → Bool} {l : List Sz} {k : Nat} {s : Sz} (h : l[k]? = some s) (hs : so s = true) (hn : ∀ i y, i < k → l[i]? = some y → so y = false) : Z.fi so l = (k : Int) := by
  have hk := (List.getElem?_eq_some_iff.1 h).1
  have he := (List.getElem?_eq_some_iff.1 h).2
  rw [Z.fi, if_pos (List.any_eq_true.2 ⟨s, List.mem_of_getElem? h, hs⟩)]
  congr 1
  rw [List.findIdx_eq hk]
  refine ⟨by rw [he]; exact hs, fun j hj => hn j _ hj (List.getElem?_eq_getElem (by omega))⟩

set_option maxHeartbeats 1000000 in
theorem indexFuncZ_any (f : Nat) (eg : ∀ args w, (callFunc f args).run Try.prog w = .ok (.enter f args) w) (lb : Array Value) (so : Sz → Bool) (v : Value) (L : List Sz) (w : World) (h : Zl w v L) (hl : L.length ≤ 1000000)
    (hcall : ∀ s ∈ L, ∀ w1, Below w.heap.size w w1 → Calls Try.prog f (#[zv s] ++ lb) w1 fun e w2 => e = .returned (.bool (so s)) ∧ Below w1.heap.size w1 w2) :
    Calls Try.prog 53 #[v, .func (.func f) #[] lb] w fun e w' => e = .returned (.int .i64 (Z.fi so L)) ∧ Below w.heap.size w w' := by
  obtain ⟨a, cap, rfl, h1, h2, hna, ho⟩ := h.open
  have HC := hide hcall
  clear h hcall
  go_enter Try.func53, Try.ntmps53
  go_wp2
  go_loopw [8] (fun iv wr => ∃ k : Nat, k ≤ L.length ∧ iv = .int .i64 k ∧ Hid (∀ i y, i < k → L[i]? = some y → so y = false) ∧ Below w.heap.size w wr) (fun iv _ => L.length - (intOf iv).toNat)
  case atStart => exact ⟨0, Nat.zero_le _, rfl, hide (fun i y hi => by omega), Below.refl _ _⟩
  case round =>
    obtain ⟨k, hk, rfl, HA, hbel⟩ := hrel
    by_cases hlt : k < L.length
    · obtain ⟨b, off, rfl, hb, hc⟩ := ho (by omega)
      obtain ⟨s, hx⟩ : ∃ x, L[k]? = some x := ⟨L[k], List.getElem?_eq_getElem hlt⟩
      obtain ⟨e0, e1, e2, e3⟩ := hc k s hx
      have c0 := (hbel.cell (p := ⟨b, off + k * 4, none⟩) hb).trans e0
      have c1 := (hbel.cell (p := ⟨b, off + k * 4 + 1, none⟩) hb).trans e1
      have c2 := (hbel.cell (p := ⟨b, off + k * 4 + 2, none⟩) hb).trans e2
      have c3 := (hbel.cell (p := ⟨b, off + k * 4 + 3, none⟩) hb).trans e3
      have CC := unhide HC s (List.mem_of_getElem? hx) wr hbel
      have HX := hide hx
      clear hc ho hx e0 e1 e2 e3
      unfold zv at CC
      cases hs : so s with
      | true =>
        have HR : Hid (Z.fi so L = (k : Int)) := zfi_at (unhide HX) hs (unhide HA)
        rw [hs] at CC
        clear hs
        go_wp2_with fail
        refine CC.mono ?_
        rintro e w2 ⟨rfl, B2⟩
        have BB := below_trans' hbel B2
        clear B2 CC c0 c1 c2 c3
        go_wp2
        go_ret
        exact ⟨by rw [unhide HR]; rfl, BB⟩
      | false =>
        have HS := hide hs
        rw [hs] at CC
        clear hs
        go_wp2_with fail
        refine CC.mono ?_
        rintro e w2 ⟨rfl, B2⟩
        have BB := below_trans' hbel B2
        clear B2 CC c0 c1 c2 c3
        go_wp2
        go_roundw
        case rel =>
          refine ⟨k + 1, by omega, by go_num, hide (fun i z hi hz => ?_), BB⟩
          by_cases e : i = k
          · subst e
            rw [unhide HX] at hz
            cases hz
            exact unhide HS
          · exact unhide HA i z (by omega) hz
        case measure => simp [intOf]; omega
    · have HR : Hid (Z.fi so L = -1) := zfi_not (fun s hm => by
        obtain ⟨i, hi⟩ := List.mem_iff_getElem?.1 hm
        exact unhide HA i s (by have := (List.getElem?_eq_some_iff.1 hi).1; omega) hi)
      go_wp2
      go_ret
      exact ⟨by rw [unhide HR]; rfl, hbel⟩

theorem containsFuncZ_any (f : Nat) (eg : ∀ args w, (callFunc f args).run Try.prog w = .ok (.enter f args) w) (lb : Array Value) (so : Sz → Bool) (v : Value) (L : List Sz) (w : World) (h : Zl w v L) (hl : L.length ≤ 1000000)
    (hcall : ∀ s ∈ L, ∀ w1, Below w.heap.size w w1 → Calls Try.prog f (#[zv s] ++ lb) w1 fun e w2 => e = .returned (.bool (so s)) ∧ Below w1.heap.size w1 w2) :
    Calls Try.prog 68 #[v, .func (.func f) #[] lb] w fun e w' => e = .returned (.bool (L.any so)) ∧ Below w.heap.size w w' := by
  have CI := indexFuncZ_any f eg lb so v L w h hl hcall
  obtain ⟨k, hk⟩ : ∃ k, Z.fi so L = k := ⟨_, rfl⟩
  have HR : Hid (L.any so = decide (0 ≤ k)) := by
    show _ = _
    rw [← hk, Z.fi]
    cases hm : L.any so with
    | true => rw [if_pos rfl]; simp
    | false => rw [if_neg (by simp)]; simp
  rw [hk] at CI
  obtain ⟨a, cap, rfl, -⟩ := h.open
  clear h hk hcall
  go_enter Try.func68, Try.ntmps68
  go_wp2_with fail
  refine CI.mono ?_
  rintro e w' ⟨rfl, B1⟩
  clear CI
  go_wp2
  go_ret
  exact ⟨by rw [unhide HR]; rfl, B1⟩

theorem alike_z (v : Value) (L : List Sz) (per : Int) (w : World) (h : Zl w v L) (h0 : 0 < L.length) (hF : Z.Fit L) (hp : 2 ≤ per ∧ per ≤ 8) (r : Bool) (hr : Z.alk per.toNat L = r) :
    Calls Try.prog 66 #[v, .int .i64 per] w fun e w' => e = .returned (.bool r) ∧ Below w.heap.size w w' := by
  obtain ⟨a, cap, rfl, h1, h2, hna, ho⟩ := h.open
  obtain ⟨b, off, rfl, hb, hc⟩ := ho h0
  obtain ⟨y, l, rfl⟩ : ∃ y l, L = y :: l := by
    cases L with
    | nil => simp at h0
    | cons y l => exact ⟨y, l, rfl⟩
  obtain ⟨y0, y1, y2, y3⟩ := hc 0 y rfl
  simp only [Nat.zero_mul, Nat.add_zero] at y0 y1 y2 y3
  obtain ⟨W, hW⟩ : ∃ W, W = (w.alloc (.cells #[.slice (some ⟨b, off, none⟩) (y :: l).length cap] 22)).alloc (.cells #[.int .i64 per] 3) := ⟨_, rfl⟩
  have BW : Below w.heap.size w W := by rw [hW]; exact below_all (below_alloc _ _) _
  have cq : W.cell? ⟨w.heap.size, 0, none⟩ = some (.slice (some ⟨b, off, none⟩) (y :: l).length cap) := by rw [hW]; simp [go_sem]
  have cp : W.cell? ⟨w.heap.size + 1, 0, none⟩ = some (.int .i64 per) := by rw [hW]; simp [go_sem]
  have eg : ∀ args w, (callFunc 69 args).run Try.prog w = .ok (.enter 69 args) w := enters_of Try.func69 (by kernel_rfl) rfl
  have CC := containsFuncZ_any 69 eg #[.pointer (some ⟨w.heap.size + 1, 0, none⟩), .pointer (some ⟨w.heap.size, 0, none⟩)] (fun s => !(!s.busy && decide (Z.lv per.toNat s = Z.lv per.toNat y))) _ (y :: l) W (h.below BW) (by have := hF.1; omega)
    (fun s hs w1 hb1 => cloAl_any s y (w.heap.size + 1) w.heap.size b off (y :: l).length cap per w1 (cell_keep cp hb1) (cell_keep cq hb1) h0 (cell_keep (cell_keep y0 BW) hb1) (cell_keep (cell_keep y1 BW) hb1) (cell_keep (cell_keep y2 BW) hb1) (cell_keep (cell_keep y3 BW) hb1) (hF.2 s hs) (hF.2 y (by simp)) hp)
  obtain ⟨q, hq⟩ : ∃ q, (y :: l).any (fun s => !(!s.busy && decide (Z.lv per.toNat s = Z.lv per.toNat y))) = q := ⟨_, rfl⟩
  have HR : Hid (r = !q) := by
    show _ = _
    rw [← hr, ← hq, Z.alk]
    rw [List.all_eq_not_any_not]
  rw [hq] at CC
  have HW := hide hW
  clear hW hq hr ho hc y0 y1 y2 y3 h hF eg
  obtain ⟨n, hn⟩ : ∃ n, (y :: l).length = n := ⟨_, rfl⟩
  rw [hn] at CC cq h0 h1 HW ⊢
  clear hn hna
  go_enter Try.func66, Try.ntmps66
  go_wp2_with fail
  rw [← unhide HW]
  refine CC.mono ?_
  rintro e w' ⟨rfl, B1⟩
  clear CC
  go_wp2
  go_ret
  exact ⟨by rw [unhide HR]; rfl, below_trans' BW B1⟩

/-- The greatest of numbers, the first of which is x. -/
def Z.mx (l : List Int) : Int := match l with | [] => 0 | x :: r => r.foldl max x
theorem zmx_snoc (l : List Int) (y : Int) (h : l ≠ []) : Z.mx (l ++ [y]) = max (Z.mx l) y := by
  cases l with
  | nil => exact absurd rfl h
  | cons x r => simp [Z.mx]
theorem zmx_le {l : List Int} {m : Int} (h : ∀ y ∈ l, y ≤ m) (hm : 0 ≤ m) : Z.mx l ≤ m := by
  cases l with
  | nil => exact hm
  | cons x r =>
    show r.foldl max x ≤ m
    have h1 : x ≤ m := h x (by simp)
    have h2 : ∀ y ∈ r, y ≤ m := fun y hy => h y (by simp [hy])
    clear h
    induction r generalizing x with
    | nil => exact h1
    | cons z r ih => exact ih (max x z) (by have := h2 z (by simp); omega) (fun y hy => h2 y (by simp [hy]))
theorem zfold_ge (r : List Int) : ∀ x : Int, x ≤ r.foldl max x ∧ ∀ y ∈ r, y ≤ r.foldl max x := by
  induction r with
  | nil => intro x; simp
  | cons z r ih =>
    intro x
    have h := ih (max x z)
    simp only [List.foldl_cons, List.mem_cons]
    refine ⟨by omega, fun y hy => ?_⟩
    rcases hy with rfl | hy
    · omega
    · exact h.2 y hy
theorem zmx_ge {l : List Int} {y : Int} (h : y ∈ l) : y ≤ Z.mx l := by
  cases l with
  | nil => cases h
  | cons x r =>
    have := zfold_ge r x
    rcases List.mem_cons.1 h with rfl | h
    · exact this.1
    · exact this.2 y h

set_option maxHeartbeats 1000000 in
theorem zmax_any (v : Value) (l : List Int) (w : World) (h : Il w v l) (h0 : 0 < l.length) (hl : l.length ≤ 1000000) :
    Calls Try.prog 51 #[v] w fun e w' => e = .returned (.int .i64 (Z.mx l)) ∧ w' = w := by
  obtain ⟨a, cap, rfl, h1, h2, hna, ho⟩ := h.open
  obtain ⟨b, off, rfl, hb, hc⟩ := ho h0
  obtain ⟨y, hy⟩ : ∃ x, l[0]? = some x := ⟨l[0], List.getElem?_eq_getElem h0⟩
  have c0 := hc 0 y hy
  simp only [Nat.add_zero] at c0
  have hm0 : Z.mx (l.take 1) = y := by
    cases l with
    | nil => simp at h0
    | cons x r => simp at hy; subst hy; rfl
  have HM := hide hm0
  have HCC := hide hc
  have hn1 : ¬ ((l.length : Int) < 1) := by omega
  clear h ho hm0 hy hc
  go_enter Try.func51, Try.ntmps51
  go_wp2
  go_loop [3, 4] (fun mv iv => ∃ (k : Nat) (m : Int), 1 ≤ k ∧ k ≤ l.length ∧ iv = .int .i64 k ∧ mv = .int .i64 m ∧ Hid (m = Z.mx (l.take k))) (fun _ iv => l.length - (intOf iv).toNat)
  case atStart => exact ⟨1, y, Nat.le_refl _, h0, rfl, rfl, (unhide HM).symm⟩
  case round =>
    obtain ⟨k, m, hk1, hk, rfl, rfl, HA⟩ := hrel
    by_cases hlt : k < l.length
    · obtain ⟨x, hx⟩ : ∃ x, l[k]? = some x := ⟨l[k], List.getElem?_eq_getElem hlt⟩
      have c1 := unhide HCC k x hx
      have HB : Hid (max m x = Z.mx (l.take (k + 1))) := by
        show _ = _
        rw [take_snoc12 hx, zmx_snoc _ _ (by intro e; have := congrArg List.length e; rw [List.length_take, List.length_nil] at this; omega), unhide HA]
      clear hx
      obtain ⟨q, hq⟩ : ∃ q, max m x = q := ⟨_, rfl⟩
      rw [hq] at HB
      go_wp2
      go_round
      case rel => exact ⟨k + 1, q, by omega, by omega, by go_num, by first | rfl | rw [← hq] | (rw [← hq]; rfl) | simp [hq], HB⟩
      case measure => simp [intOf]; omega
    · have HR : Hid (m = Z.mx l) := by
        have := unhide HA
        rw [List.take_of_length_le (by omega)] at this
        exact this
      go_wp2
      go_ret
      exact ⟨by rw [unhide HR]; rfl, rfl⟩

/-- The greatest Gen; 0, if there is none. -/
def Z.great (L : List Sz) : Int := Z.mx (Z.gens L ++ [0])
theorem zgreat_ge {L : List Sz} {s : Sz} (h : s ∈ L) : s.gen ≤ Z.great L := zmx_ge (List.mem_append_left _ (List.mem_map_of_mem h))
theorem zgreat_pos (L : List Sz) : 0 ≤ Z.great L := zmx_ge (List.mem_append_right _ (by simp))
theorem zgreat_le {L : List Sz} {m : Int} (h : ∀ s ∈ L, s.gen ≤ m) (hm : 0 ≤ m) : Z.great L ≤ m := zmx_le (fun y hy => by
  rcases List.mem_append.1 hy with hy | hy
  · obtain ⟨s, hs, rfl⟩ := List.mem_map.1 hy
    exact h s hs
  · simp at hy; omega) hm

theorem greatest_any (v : Value) (L : List Sz) (w : World) (h : Zl w v L) (hl : L.length ≤ 100000) :
    Calls Try.prog 40 #[v] w fun e w' => e = .returned (.int .i64 (Z.great L)) ∧ Below w.heap.size w w' := by
  obtain ⟨i0, hi, hz0, hz1, hz2⟩ := info_parts Try.infoI10
  have CG := gens_any v L w h (by omega)
  obtain ⟨a, cap, rfl, -⟩ := h.open
  have hgl : (Z.gens L).length ≤ 100000 := by simpa [Z.gens] using hl
  have HR : Hid (Z.great L = Z.mx (Z.gens L ++ [0])) := rfl
  clear h
  obtain ⟨G, hG⟩ : ∃ G, Z.gens L = G := ⟨_, rfl⟩
  rw [hG] at CG hgl HR
  clear hG
  go_enter Try.func40, Try.ntmps40
  go_wp2_with fail
  refine CG.mono ?_
  rintro e w1 ⟨v', rfl, O1, B1⟩
  clear CG
  have hBs := B1.size
  go_wp2_with (at_builtin; refine append_oneL (f := Value.int .i64) rfl _ _ 47 rfl Try.underlying47 hi hz0 hz1 hz2 rfl (fun _ => rfl) (pre := G) 0 rfl rfl (by simp) O1 (by omega) (by omega) (by omega) ?_; intro g9 c9 w9 O9 g9' l9)
  have B9 := B1.grown g9' (by omega) (fun j hj => (O1.lt j hj).1)
  have CM := zmax_any _ (G ++ [0]) w9 (Gl.owned O9) (by simp) (by simp; omega)
  have e9 : (G ++ [(0 : Int)]).length = G.length + 1 := by simp
  obtain ⟨m, hm⟩ : ∃ m, Z.mx (G ++ [0]) = m := ⟨_, rfl⟩
  rw [hm] at CM HR
  clear hm O9 g9' l9 O1 B1 e9
  go_wp2_with fail
  refine CM.mono ?_
  rintro e w2 ⟨rfl, rfl⟩
  clear CM
  go_wp2
  go_ret
  exact ⟨by rw [unhide HR]; rfl, B9⟩
end Go.Proofs.Ytfniphaehggcgaa

/-
  The contract of slices.DeleteFunc at sizes, in a row of the call's own, whatever function it is handed.
-/
namespace Go.Proofs.Ytfniphaehggcgaa
set_option maxRecDepth 100000
open Go.RowKit

theorem zflat_set : ∀ (D : List Sz) (i : Nat) (s : Sz), ((((D.flatMap encZ).set (i * 4) (.int .i64 s.gen)).set (i * 4 + 1) (.int .i64 s.docs)).set (i * 4 + 2) (.int .i64 s.dead)).set (i * 4 + 3) (.bool s.busy) = (D.set i s).flatMap encZ
  | [], i, s => by simp
  | x :: r, 0, s => by simp [encZ]
  | x :: r, i + 1, s => by
    have ih := zflat_set r i s
    have e : ∀ k, (i + 1) * 4 + k = (i * 4 + k) + 4 := fun k => by omega
    have e0 : (i + 1) * 4 = (i * 4) + 4 := by omega
    rw [List.set_cons_succ, List.flatMap_cons, List.flatMap_cons, ← ih, e 1, e 2, e 3, e0]
    simp only [encZ, List.cons_append, List.nil_append, List.set_cons_succ]

def set4 (w : World) (g p : Nat) (s : Sz) : World := (((w.setCell ⟨g, p, none⟩ (.int .i64 s.gen)).setCell ⟨g, p + 1, none⟩ (.int .i64 s.docs)).setCell ⟨g, p + 2, none⟩ (.int .i64 s.dead)).setCell ⟨g, p + 3, none⟩ (.bool s.busy)
theorem own4_set {w : World} {B g n cap : Nat} {D : List Sz} (h : w.ownsRow B 36 4 (.slice (some ⟨g, 0, none⟩) n cap) n (D.flatMap encZ)) (i : Nat) (s : Sz) :
    (set4 w g (i * 4) s).ownsRow B 36 4 (.slice (some ⟨g, 0, none⟩) n cap) n ((D.set i s).flatMap encZ) := by
  have h1 := (h.stored (i * 4) (.int .i64 s.gen)).1
  have h2 := (h1.stored (i * 4 + 1) (.int .i64 s.docs)).1
  have h3 := (h2.stored (i * 4 + 2) (.int .i64 s.dead)).1
  have h4 := (h3.stored (i * 4 + 3) (.bool s.busy)).1
  rw [zflat_set] at h4
  exact h4
theorem set4_grown (w : World) (g p : Nat) (s : Sz) : w.grownBy (set4 w g p s) (some g) :=
  (((grown_set w ⟨g, p, none⟩ _).trans (grown_set _ ⟨g, p + 1, none⟩ _)).trans (grown_set _ ⟨g, p + 2, none⟩ _)).trans (grown_set _ ⟨g, p + 3, none⟩ _)
theorem own4_at {w : World} {B g n cap : Nat} {D : List Sz} (h : w.ownsRow B 36 4 (.slice (some ⟨g, 0, none⟩) n cap) n (D.flatMap encZ)) {i : Nat} {s : Sz} (hi : D[i]? = some s) :
    (w.cell? ⟨g, i * 4, none⟩ = some (.int .i64 s.gen) ∧ w.cell? ⟨g, i * 4 + 1, none⟩ = some (.int .i64 s.docs) ∧ w.cell? ⟨g, i * 4 + 2, none⟩ = some (.int .i64 s.dead) ∧ w.cell? ⟨g, i * 4 + 3, none⟩ = some (.bool s.busy)) ∧
      ∀ j, w.frozen? ⟨g, j, none⟩ = false := by
  obtain ⟨-, m2, m3, -⟩ := own_room h
  exact ⟨⟨m3 _ _ ((flat_at encZ_len hi 0 (by decide)).trans rfl), m3 _ _ ((flat_at encZ_len hi 1 (by decide)).trans rfl), m3 _ _ ((flat_at encZ_len hi 2 (by decide)).trans rfl), m3 _ _ ((flat_at encZ_len hi 3 (by decide)).trans rfl)⟩, m2⟩

theorem ztake4 : ∀ (D : List Sz) (i : Nat), (D.flatMap encZ).take (i * 4) = (D.take i).flatMap encZ
  | [], i => by simp
  | x :: r, 0 => by simp
  | x :: r, i + 1 => by
    rw [List.take_succ_cons, List.flatMap_cons, List.flatMap_cons, ← ztake4 r i, List.take_append, encZ_len, List.take_of_length_le (by rw [encZ_len]; omega), show (i + 1) * 4 - 4 = i * 4 by omega]

/-- The first ones of a row that is one's own. -/
theorem own_less {w : World} {B : Nat} {e : TypeId} {K g n cap : Nat} {xs : List Value} (h : w.ownsRow B e K (.slice (some ⟨g, 0, none⟩) n cap) n xs) {m : Nat} (hm : m ≤ n) : w.ownsRow B e K (.slice (some ⟨g, 0, none⟩) m cap) m (xs.take (m * K)) := by
  obtain ⟨hl, h2⟩ := h
  have hk : m * K ≤ n * K := Nat.mul_le_mul_right K hm
  rcases h2 with ⟨h', _⟩ | ⟨g', cap', cur, h', hb, hg, hnc, hcm, hcs, htake⟩
  · simp at h'
  · simp only [Value.slice.injEq, Option.some.injEq, Addr.mk.injEq, and_true, true_and] at h'
    obtain ⟨rfl, rfl⟩ := h'
    refine ⟨by rw [List.length_take, hl]; omega, .inr ⟨g, cap, cur, rfl, hb, hg, by omega, hcm, hcs, ?_⟩⟩
    rw [← htake, List.take_take, Nat.min_eq_left hk]

theorem run_clear_z (w : World) (ty : TypeId) (b o n c : Nat) (hn : 0 < n) (hc : ∀ j, j < n * 4 → (w.cell? ⟨b, o + j, none⟩).isSome = true) (hf : ∀ j, w.frozen? ⟨b, j, none⟩ = false) :
    ∃ zs : List Value, zs.length = n * 4 ∧ (Builtin.clear_ #[22] ty #[.slice (some ⟨b, o, none⟩) n c]).run Try.prog w = .ok (.tuple #[]) (w.setCells b o zs) := by
  obtain ⟨Z0, hZ0⟩ : ∃ z : Array Value, z = #[.int .i64 0, .int .i64 0, .int .i64 0, .bool false] := ⟨_, rfl⟩
  have hv : ∀ w, (zeroValue 36).run Try.prog w = .ok (.agg Z0) w := fun w => by rw [hZ0]; kernel_rfl
  have hcz : (Value.agg Z0).cells = Z0 := by rw [hZ0]; rfl
  have hzs : Z0.size = 4 := by rw [hZ0]; rfl
  refine ⟨(Builtin.zeroCells Z0 n).toList, by simp [Builtin.zeroCells, hzs], ?_⟩
  have hst := run_storeCells_cells (P := Try.prog) b o (Builtin.zeroCells Z0 n).toList 0 w (fun j hj => by simpa using hc j (by simpa [Builtin.zeroCells, hzs] using hj)) (fun j _ => hf _) (fun v hv' => by
    simp only [Builtin.zeroCells, Array.toList_map, List.mem_map, Array.toList_range] at hv'
    obtain ⟨i, -, rfl⟩ := hv'
    have h4 : i % Z0.size < 4 := by rw [hzs]; omega
    obtain ⟨j, hj⟩ : ∃ j, i % Z0.size = j := ⟨_, rfl⟩
    rw [hj] at h4 ⊢
    subst hZ0
    have : j = 0 ∨ j = 1 ∨ j = 2 ∨ j = 3 := by omega
    rcases this with rfl | rfl | rfl | rfl <;> rfl)
  simp only [Nat.add_zero] at hst
  obtain ⟨m, rfl⟩ : ∃ m, n = m + 1 := ⟨n - 1, by omega⟩
  simp [Builtin.clear_, run_underlying Try.underlying22, hv, hcz, hst]

/-- How far DeleteFunc has come: what is kept of the first j stands in the first i places. -/
structure Kept12 (so : Sz → Bool) (L D : List Sz) (i j : Nat) : Prop where
  len : D.length = L.length
  lt : i < j
  le : j ≤ L.length
  low : D.take i = (L.take j).filter (fun s => !so s)
  high : ∀ k, j ≤ k → D[k]? = L[k]?
theorem Kept12.skip {so : Sz → Bool} {L D : List Sz} {i j : Nat} (h : Kept12 so L D i j) {s : Sz} (hs : L[j]? = some s) (hq : so s = true) : Kept12 so L D i (j + 1) where
  len := h.len
  lt := by have := h.lt; omega
  le := (List.getElem?_eq_some_iff.1 hs).1
  low := by rw [h.low, take_snoc12 hs, List.filter_append]; simp [hq]
  high k hk := h.high k (by omega)
theorem Kept12.keep {so : Sz → Bool} {L D : List Sz} {i j : Nat} (h : Kept12 so L D i j) {s : Sz} (hs : L[j]? = some s) (hq : so s = false) : Kept12 so L (D.set i s) (i + 1) (j + 1) where
  len := by rw [List.length_set, h.len]
  lt := by have := h.lt; omega
  le := (List.getElem?_eq_some_iff.1 hs).1
  low := by
    have hi : i < D.length := by have := h.lt; have := h.le; have := h.len; omega
    rw [List.take_add_one, List.take_set_of_le (Nat.le_refl _), h.low, take_snoc12 hs, List.filter_append, List.getElem?_set_self hi]
    simp [hq]
  high k hk := by rw [List.getElem?_set_ne (by have := h.lt; omega)]; exact h.high k (by omega)
theorem Kept12.start {so : Sz → Bool} {L : List Sz} {i : Nat} {s : Sz} (hs : L[i]? = some s) (hq : so s = true) (hn : ∀ k y, k < i → L[k]? = some y → so y = false) : Kept12 so L L i (i + 1) where
  len := rfl
  lt := by omega
  le := (List.getElem?_eq_some_iff.1 hs).1
  low := by
    rw [take_snoc12 hs, List.filter_append]
    have : (L.take i).filter (fun s => !so s) = L.take i := List.filter_eq_self.2 (fun y hy => by
      obtain ⟨k, hk⟩ := List.mem_iff_getElem?.1 hy
      rw [List.getElem?_take] at hk
      split at hk
      · rename_i h1
        simp [hn k y h1 hk]
      · cases hk)
    rw [this]
    simp [hq]
  high k _ := rfl

theorem zfi_cases (so : Sz → Bool) (L : List Sz) : (Z.fi so L = -1 ∧ ∀ s ∈ L, so s = false) ∨ ∃ (k : Nat) (s : Sz), Z.fi so L = (k : Int) ∧ L[k]? = some s ∧ so s = true ∧ ∀ i y, i < k → L[i]? = some y → so y = false := by
  by_cases h : L.any so = true
  · refine .inr ?_
    have hk : L.findIdx so < L.length := by
      rw [List.findIdx_lt_length]
      obtain ⟨s, h1, h2⟩ := List.any_eq_true.1 h
      exact ⟨s, h1, h2⟩
    refine ⟨L.findIdx so, L[L.findIdx so], by rw [Z.fi, if_pos h], List.getElem?_eq_getElem hk, List.findIdx_getElem, fun i y hi hy => ?_⟩
    have := List.not_of_lt_findIdx hi
    have e := (List.getElem?_eq_some_iff.1 hy).2
    rw [← e]
    simpa using this
  · refine .inl ⟨by rw [Z.fi, if_neg h], fun s hs => ?_⟩
    cases hq : so s with
    | false => rfl
    | true => exact absurd (List.any_eq_true.2 ⟨s, hs, hq⟩) h

set_option maxRecDepth 100000 in
set_option maxHeartbeats 2000000 in
theorem delFuncZ_any (f : Nat) (eg : ∀ args w, (callFunc f args).run Try.prog w = .ok (.enter f args) w) (lb : Array Value) (so : Sz → Bool) (v : Value) (L : List Sz) (B : Nat) (w : World) (h : w.ownsRow B 36 4 v L.length (L.flatMap encZ)) (hB : B ≤ w.heap.size) (hl : L.length ≤ 1000000)
    (hcall : ∀ s ∈ L, ∀ w1, Below B w w1 → Calls Try.prog f (#[zv s] ++ lb) w1 fun e w2 => e = .returned (.bool (so s)) ∧ Below w1.heap.size w1 w2) :
    Calls Try.prog 54 #[v, .func (.func f) #[] lb] w fun e w' => ∃ v', e = .returned v' ∧ w'.ownsRow B 36 4 v' (L.filter fun s => !so s).length ((L.filter fun s => !so s).flatMap encZ) ∧ Below B w w' := by
  have KV : Zl w v L := Kl.owned encZ_len (by decide) h
  have CI := indexFuncZ_any f eg lb so v L w KV hl (fun s hs w1 hb => hcall s hs w1 (hb.mono hB))
  rcases zfi_cases so L with ⟨h1, h2⟩ | ⟨i0, s0, h1, h2, h3, h4⟩
  · have HF : Hid (L.filter (fun s => !so s) = L) := List.filter_eq_self.2 (fun s hs => by simp [h2 s hs])
    rw [h1] at CI
    obtain ⟨a, cap, rfl, -⟩ := KV.open
    have HO := hide h
    clear h1 h2 hcall h
    go_enter Try.func54, Try.ntmps54
    go_wp2_with fail
    refine CI.mono ?_
    rintro e w' ⟨rfl, B1⟩
    clear CI
    go_wp2
    go_ret
    rw [unhide HF]
    exact ⟨_, rfl, own_below (unhide HO) B1, B1.mono hB⟩
  · rw [h1] at CI
    obtain ⟨g, cap, rfl, hnc, hcm, hgs, hBg⟩ : ∃ g cap, v = .slice (some ⟨g, 0, none⟩) L.length cap ∧ L.length ≤ cap ∧ cap ≤ 9223372036854775807 ∧ g < w.heap.size ∧ B ≤ g := by
      rcases own_form h with ⟨rfl, h9⟩ | h9
      · rw [List.eq_nil_of_length_eq_zero h9] at h2
        simp at h2
      · exact h9
    have hi0 := (List.getElem?_eq_some_iff.1 h2).1
    have hne1 : ((i0 : Int) == -1) = false := beq_eq_false_iff_ne.2 (by omega)
    have HK0 := hide (Kept12.start h2 h3 h4)
    have HO := hide h
    have HC := hide hcall
    clear h1 h2 h3 h4 hcall h KV
    go_enter Try.func54, Try.ntmps54
    go_wp2_with fail
    refine CI.mono ?_
    rintro e w1 ⟨rfl, B1⟩
    have O1 := hide (own_below (unhide HO) B1)
    have BB1 : Below B w w1 := B1.mono hB
    clear CI HO B1
    go_wp2
    go_loopw [5, 6] (fun iv jv wr => ∃ (i j : Nat) (D : List Sz), iv = .int .i64 i ∧ jv = .int .i64 j ∧ i < j ∧ j ≤ L.length ∧ Hid (Kept12 so L D i j) ∧ Hid (wr.ownsRow B 36 4 (.slice (some ⟨g, 0, none⟩) L.length cap) L.length (D.flatMap encZ)) ∧ Below B w wr) (fun _ jv _ => L.length - (intOf jv).toNat)
    case atStart => exact ⟨i0, i0 + 1, L, rfl, by go_num, by omega, by omega, HK0, O1, BB1⟩
    case round =>
      clear O1 BB1 HK0
      obtain ⟨i, j, D, rfl, rfl, hij, hjl, HK, HO, hbel⟩ := hrel
      have hbs := hbel.size
      by_cases hlt : j < L.length
      · obtain ⟨s, hx⟩ : ∃ x, L[j]? = some x := ⟨L[j], List.getElem?_eq_getElem hlt⟩
        have hDj : D[j]? = some s := by rw [(unhide HK).high j (Nat.le_refl _)]; exact hx
        obtain ⟨⟨c0, c1, c2, c3⟩, hfr⟩ := own4_at (unhide HO) hDj
        obtain ⟨W, hW⟩ : ∃ W, W = wr.alloc (.cells #[.int .i64 s.gen, .int .i64 s.docs, .int .i64 s.dead, .bool s.busy] 36) := ⟨_, rfl⟩
        have hO1 := hide (hW ▸ (unhide HO).alloc (.cells #[.int .i64 s.gen, .int .i64 s.docs, .int .i64 s.dead, .bool s.busy] 36) : W.ownsRow B 36 4 (.slice (some ⟨g, 0, none⟩) L.length cap) L.length (D.flatMap encZ))
        have hbel1 : Below B w W := by rw [hW]; exact hbel.alloc (by omega) _
        obtain ⟨d0, d1, d2, d3⟩ := box4 (s := s) (w := W) (g := wr.heap.size) (fr := (0, 0)) (T := 36) (by rw [hW]; exact heap_alloc_new wr _)
        have CC := unhide HC s (List.mem_of_getElem? hx) W hbel1
        have hgw : g < wr.heap.size := by omega
        have HW := hide hW
        have HX := hide hx
        clear hx hDj hW HO hbel hfr
        unfold zv at CC
        cases hs : so s with
        | true =>
          have HK2 := hide ((unhide HK).skip (unhide HX) hs)
          rw [hs] at CC
          clear hs
          go_wp2_with fail
          rw [← unhide HW]
          go_wp2_with fail
          refine CC.mono ?_
          rintro e w2 ⟨rfl, B2⟩
          have BB : Below B w w2 := hbel1.trans (B2.mono (Nat.le_trans hB hbel1.size))
          have O2 := hide (own_below (unhide hO1) B2)
          clear B2 CC c0 c1 c2 c3 d0 d1 d2 d3 hbel1 hO1
          go_wp2
          go_roundw
          case rel => exact ⟨i, j + 1, D, rfl, by go_num, by omega, by omega, HK2, O2, BB⟩
          case measure => simp [intOf]; omega
        | false =>
          have HK2 := hide ((unhide HK).keep (unhide HX) hs)
          rw [hs] at CC
          clear hs
          go_wp2_with fail
          rw [← unhide HW]
          go_wp2_with fail
          refine CC.mono ?_
          rintro e w2 ⟨rfl, B2⟩
          have BB : Below B w w2 := hbel1.trans (B2.mono (Nat.le_trans hB hbel1.size))
          have O2 := own_below (unhide hO1) B2
          have d0 := cell_keep d0 B2
          have d1 := cell_keep d1 B2
          have d2 := cell_keep d2 B2
          have d3 := cell_keep d3 B2
          obtain ⟨y, hy⟩ : ∃ y, D[i]? = some y := ⟨D[i]'(by rw [(unhide HK).len]; omega), List.getElem?_eq_getElem _⟩
          obtain ⟨⟨y0, y1, y2, y3⟩, hfr⟩ := own4_at O2 hy
          have f0 := hfr (i * 4)
          have f1 := hfr (i * 4 + 1)
          have f2 := hfr (i * 4 + 2)
          have f3 := hfr (i * 4 + 3)
          have O3 := hide (own4_set O2 i s)
          have BB3 : Below B w (set4 w2 g (i * 4) s) := BB.grown (set4_grown _ _ _ _) (Nat.le_trans hB BB.size) (fun k hk => by simp at hk; omega)
          have hl3 : g ≠ wr.heap.size := by omega
          clear B2 CC c0 c1 c2 c3 hbel1 hO1 hy hfr O2 BB
          unfold set4 at O3 BB3
          go_wp2
          go_roundw
          case rel => exact ⟨i + 1, j + 1, D.set i s, by go_num, by go_num, by omega, by omega, HK2, O3, BB3⟩
          case measure => simp [intOf]; omega
      · obtain rfl : j = L.length := by omega
        have R1 := Try.zfrom (some ⟨g, 0, none⟩) L.length cap i i rfl (by omega)
        have R2 := Try.zto (some ⟨g, 0, none⟩) L.length cap i i rfl (by omega) (fun p hp => by cases hp; rfl)
        have hS : sliced (some ⟨g, 0, none⟩) i L.length cap 4 = .slice (some ⟨g, 0 + i * 4, none⟩) (L.length - i) (cap - i) := by
          have : ¬ cap = i := by omega
          simp [sliced, this, Addr.add_lit]
        rw [hS] at R1
        obtain ⟨m1, m2, -, -⟩ := own_room (unhide HO)
        obtain ⟨zs, hzl, hcl⟩ : ∃ zs : List Value, zs.length = (L.length - i) * 4 ∧ ∀ ty, (Builtin.clear_ #[22] ty #[.slice (some ⟨g, 0 + i * 4, none⟩) (L.length - i) (cap - i)]).run Try.prog wr = .ok (.tuple #[]) (wr.setCells g (0 + i * 4) zs) := by
          obtain ⟨zs, h1, h2⟩ := run_clear_z wr 22 g (0 + i * 4) (L.length - i) (cap - i) (by omega) (fun j hj => m1 _ (by omega)) m2
          exact ⟨zs, h1, fun ty => h2⟩
        have hDl := (unhide HK).len
        have hfl : (D.flatMap encZ).length = L.length * 4 := by rw [flat_len encZ_len, hDl]
        have O2 := own_setCells zs (0 + i * 4) wr _ (unhide HO) (by rw [hzl, hfl]; omega)
        have O3 := own_less O2 (m := i) (by omega)
        have BB3 : Below B w (wr.setCells g (0 + i * 4) zs) := hbel.grown (grown_setCells _ _ _ _) (Nat.le_trans hB hbs) (fun k hk => by simp at hk; omega)
        have hX : ((D.flatMap encZ).take (0 + i * 4) ++ zs ++ (D.flatMap encZ).drop (0 + i * 4 + zs.length)).take (i * 4) = (L.filter fun s => !so s).flatMap encZ := by
          have hlow := (unhide HK).low
          rw [List.take_length] at hlow
          rw [← hlow, Nat.zero_add, List.append_assoc, List.take_append_of_le_length (by rw [List.length_take, hfl]; omega), List.take_take, Nat.min_self]
          exact ztake4 D i
        rw [hX] at O3
        have hm : i = (L.filter fun s => !so s).length := by
          have hlow := congrArg List.length (unhide HK).low
          rw [List.take_length, List.length_take] at hlow
          omega
        have HO3 := O3
        have HM := hide hm
        simp only [Nat.zero_add] at hcl BB3 HO3
        replace HO3 := hide HO3
        clear O2 O3 hX hm hDl hfl m1 m2 hS HO
        go_wp2
        go_ret
        rw [← unhide HM]
        exact ⟨_, rfl, unhide HO3, BB3⟩
end Go.Proofs.Ytfniphaehggcgaa

/-
  The contract of replaced, whatever function it is handed.
-/
namespace Go.Proofs.Ytfniphaehggcgaa
set_option maxRecDepth 100000
open Go.RowKit

theorem zdrop4 : ∀ (D : List Sz) (i : Nat), (D.flatMap encZ).drop (i * 4) = (D.drop i).flatMap encZ
  | [], i => by simp
  | x :: r, 0 => by simp
  | x :: r, i + 1 => by
    rw [List.drop_succ_cons, List.flatMap_cons, ← zdrop4 r i, List.drop_append, encZ_len, List.drop_eq_nil_of_le (by rw [encZ_len]; omega), List.nil_append, show (i + 1) * 4 - 4 = i * 4 by omega]

/-- Those of which something is so, gone, and, if it has documents, one in the place of the first. -/
def Z.repl (so : Sz → Bool) (m : Sz) (l : List Sz) : List Sz :=
  if m.docs = 0 then l.filter (fun s => !so s) else (l.filter (fun s => !so s)).take (l.findIdx so) ++ [m] ++ (l.filter (fun s => !so s)).drop (l.findIdx so)

theorem zfirst_le {so : Sz → Bool} {L : List Sz} {k : Nat} (hk : k ≤ L.length) (hn : ∀ i y, i < k → L[i]? = some y → so y = false) : k ≤ (L.filter fun s => !so s).length := by
  have h1 : (L.take k).filter (fun s => !so s) = L.take k := List.filter_eq_self.2 (fun y hy => by
    obtain ⟨i, hi⟩ := List.mem_iff_getElem?.1 hy
    rw [List.getElem?_take] at hi
    split at hi
    · rename_i h
      simp [hn i y h hi]
    · cases hi)
  have h2 : ((L.take k).filter (fun s => !so s)).length ≤ (L.filter fun s => !so s).length := ((List.take_sublist k L).filter _).length_le
  rw [h1, List.length_take] at h2
  omega

set_option maxHeartbeats 1000000 in
theorem replaced_any (f : Nat) (eg : ∀ args w, (callFunc f args).run Try.prog w = .ok (.enter f args) w) (lb : Array Value) (so : Sz → Bool) (v : Value) (L : List Sz) (m : Sz) (w : World) (h : Zl w v L) (hl : L.length ≤ 100000) (hso : L.any so = true)
    (hcall : ∀ s ∈ L, ∀ w1, Below w.heap.size w w1 → Calls Try.prog f (#[zv s] ++ lb) w1 fun e w2 => e = .returned (.bool (so s)) ∧ Below w1.heap.size w1 w2) :
    Calls Try.prog 43 #[v, .func (.func f) #[] lb, zv m] w fun e w' => ∃ v', e = .returned v' ∧ w'.ownsRow w.heap.size 36 4 v' (Z.repl so m L).length ((Z.repl so m L).flatMap encZ) ∧ Below w.heap.size w w' := by
  obtain ⟨k, s0, hk, hks, hs0, hkn⟩ : ∃ (k : Nat) (s : Sz), Z.fi so L = (k : Int) ∧ L[k]? = some s ∧ so s = true ∧ ∀ i y, i < k → L[i]? = some y → so y = false := by
    rcases zfi_cases so L with ⟨-, h2⟩ | h2
    · obtain ⟨s, h3, h4⟩ := List.any_eq_true.1 hso
      rw [h2 s h3] at h4
      cases h4
    · exact h2
  have hkf : L.findIdx so = k := by
    rw [Z.fi, if_pos hso] at hk
    omega
  have hkl := zfirst_le (Nat.le_of_lt (List.getElem?_eq_some_iff.1 hks).1) hkn
  obtain ⟨F, hF⟩ : ∃ F, L.filter (fun s => !so s) = F := ⟨_, rfl⟩
  have HREP : Hid (Z.repl so m L = if m.docs = 0 then F else F.take k ++ [m] ++ F.drop k) := by show _ = _; rw [Z.repl, hF, hkf]
  have hFl : F.length ≤ 100000 := by rw [← hF]; exact Nat.le_trans (List.length_filter_le _ _) hl
  rw [hF] at hkl
  obtain ⟨mg, md, mx, mb⟩ := m
  simp only at HREP
  unfold zv
  simp only
  obtain ⟨W, hW⟩ : ∃ W, W = w.alloc (.cells #[.int .i64 mg, .int .i64 md, .int .i64 mx, .bool mb] 36) := ⟨_, rfl⟩
  have BW : Below w.heap.size w W := by rw [hW]; exact below_alloc _ _
  obtain ⟨c0, c1, c2, c3⟩ := box4 (s := ⟨mg, md, mx, mb⟩) (w := W) (g := w.heap.size) (fr := (0, 0)) (T := 36) (by rw [hW]; exact heap_alloc_new w _)
  simp only at c0 c1 c2 c3
  have CI := indexFuncZ_any f eg lb so v L W (h.below BW) (by omega) (fun s hs w1 hb => hcall s hs w1 (below_trans' BW hb))
  rw [hk] at CI
  have H := h
  obtain ⟨a, cap, rfl, -⟩ := h.open
  have HW := hide hW
  have HC := hide hcall
  clear hW hk hks hs0 hkn hkf hso h hcall
  go_enter Try.func43, Try.ntmps43
  go_wp2_with fail
  rw [← unhide HW]
  refine CI.mono ?_
  rintro e w1 ⟨rfl, B1⟩
  have BB1 := below_trans' BW B1
  have c0 := cell_keep c0 B1
  have c1 := cell_keep c1 B1
  have c2 := cell_keep c2 B1
  have c3 := cell_keep c3 B1
  clear CI B1
  have CL := cloneZ_any _ L w1 (H.below BB1) (by omega)
  go_wp2_with fail
  refine CL.mono ?_
  rintro e w2 ⟨v2, rfl, O2, B2⟩
  have BB2 := below_trans' BB1 B2
  have c0 := cell_keep c0 B2
  have c1 := cell_keep c1 B2
  have c2 := cell_keep c2 B2
  have c3 := cell_keep c3 B2
  clear CL
  have CD := delFuncZ_any f eg lb so v2 L w1.heap.size w2 O2 B2.size (by omega) (fun s hs w3 hb => unhide HC s hs w3 (BB2.trans (hb.mono BB1.size)))
  rw [hF] at CD
  go_wp2_with fail
  refine CD.mono ?_
  rintro e w3 ⟨v3, rfl, O3, B3⟩
  have BB3 : Below w.heap.size w w3 := BB2.trans (B3.mono BB1.size)
  have hb1 : w.heap.size < w1.heap.size := by have := World.block_lt_of_cell? w1 _ (by exact (show w1.cell? ⟨w.heap.size, 0, none⟩ = some (.int .i64 mg) from by assumption)); exact this
  have c0 := cell10 c0 B3 hb1
  have c1 := cell10 c1 B3 hb1
  have c2 := cell10 c2 B3 hb1
  have c3 := cell10 c3 B3 hb1
  have O3' := own_mono O3 BB1.size
  have hs3 := BB3.size
  obtain ⟨a3, n3, cap3, rfl⟩ : ∃ a n c, v3 = .slice a n c := by
    rcases own_form O3 with ⟨rfl, -⟩ | ⟨g, c, rfl, -⟩
    · exact ⟨_, _, _, rfl⟩
    · exact ⟨_, _, _, rfl⟩
  clear CD O2 B2 B3 O3 HC H
  by_cases hd : md = 0
  · have q : (md == 0) = true := by simp [hd]
    have HR := unhide HREP
    rw [if_pos hd] at HR
    have HR2 := hide HR
    clear HR hd
    go_wp2
    go_ret
    rw [unhide HR2]
    exact ⟨_, rfl, O3', BB3⟩
  · have q : (md == 0) = false := by simp [hd]
    have HR := unhide HREP
    rw [if_neg hd] at HR
    have HR2 := hide HR
    have hO4 := O3'.alloc (.cells #[.int .i64 mg, .int .i64 md, .int .i64 mx, .bool mb] 36)
    have hne : (Value.slice a3 n3 cap3).ownBlock ≠ some w3.heap.size := fun e => by have := (O3'.lt _ e).2; omega
    have CN := ins_anyZ (.slice a3 n3 cap3) F.length k (F.flatMap encZ) (encZ ⟨mg, md, mx, mb⟩) w3.heap.size (w3.alloc (.cells #[.int .i64 mg, .int .i64 md, .int .i64 mx, .bool mb] 36)) w.heap.size hO4 (heap_alloc_new w3 _) rfl
      (fun u hu => by obtain ⟨y, _, hy⟩ := List.mem_flatMap.1 hu; exact encZ_one y u hy) (encZ_one _) (by simp; omega) hne hkl (by omega)
    have HO3 := hide O3'
    clear HR hd
    go_wp2_with fail
    refine CN.mono ?_
    rintro e w5 ⟨v5, rfl, O5, G5⟩
    have BB5 := (below_all BB3 (.cells #[.int .i64 mg, .int .i64 md, .int .i64 mx, .bool mb] 36)).grown G5 (by simp; omega) (fun j hj => (hO4.lt j hj).1)
    rw [ztake4, zdrop4] at O5
    have O6 : w5.ownsRow w.heap.size 36 4 v5 (Z.repl so ⟨mg, md, mx, mb⟩ L).length ((Z.repl so ⟨mg, md, mx, mb⟩ L).flatMap encZ) := by
      rw [unhide HR2]
      have e1 : (F.take k ++ [(⟨mg, md, mx, mb⟩ : Sz)] ++ F.drop k).length = F.length + 1 := by simp; omega
      rw [e1]
      simpa using O5
    have HO6 := hide O6
    clear CN O5 O6 G5 hO4
    obtain ⟨a5, n5, c5, rfl⟩ : ∃ a n c, v5 = .slice a n c := by
      rcases own_form (unhide HO6) with ⟨rfl, -⟩ | ⟨g, c, rfl, -⟩
      · exact ⟨_, _, _, rfl⟩
      · exact ⟨_, _, _, rfl⟩
    go_wp2
    go_ret
    exact ⟨_, rfl, unhide HO6, BB5⟩
end Go.Proofs.Ytfniphaehggcgaa
