/-
  The chapter's example holds: the contract of the statements' own 'awake' (seg).
-/
import Derived.Test.YtonhehhmnobciaaEx8
import Derived.Test.YtonhehhmnobciaaSegA8
import Derived.Test.YtonhehhmnobciaaSameS8
import Derived.Test.YtonhehhmnobciaaHas8
import Derived.Test.YtonhehhmnobciaaRSame8
import Derived.Test.YtonhehhmnobciaaSame6
import Derived.Test.YtonhehhmnobciaaTexts7
import Derived.Test.YtonhehhmnobciaaSmall8
namespace Go.Proofs.Ytonhehhmnobciaa
set_option maxRecDepth 100000
open Go.RowKit

/-- A segment in its box. -/
structure SB (w : World) (b : Nat) (ia ka lna ta : Option Addr) (ic kc lnc tc : Nat) (s : Sg) (so : Bool) : Prop where
  box : w.heap[b]? = some (.cells #[.slice ia s.ids.length ic, .slice ka s.keys.length kc, .slice lna s.lens.length lnc, .slice ta s.ts.length tc, .bool so] 31 (0, 0))
  sv : Sv w (.slice ia s.ids.length ic) (.slice ka s.keys.length kc) (.slice lna s.lens.length lnc) (.slice ta s.ts.length tc) s
theorem SB.below {w w' : World} {b : Nat} {ia ka lna ta : Option Addr} {ic kc lnc tc : Nat} {s : Sg} {so : Bool} (h : SB w b ia ka lna ta ic kc lnc tc s so) (hb : Below w.heap.size w w') : SB w' b ia ka lna ta ic kc lnc tc s so := ⟨box_below h.box hb, h.sv.below hb⟩
theorem SB.c0 {w : World} {b : Nat} {ia ka lna ta : Option Addr} {ic kc lnc tc : Nat} {s : Sg} {so : Bool} (h : SB w b ia ka lna ta ic kc lnc tc s so) : w.cell? ⟨b, 0, none⟩ = some (.slice ia s.ids.length ic) := box_cell h.box rfl
theorem SB.c1 {w : World} {b : Nat} {ia ka lna ta : Option Addr} {ic kc lnc tc : Nat} {s : Sg} {so : Bool} (h : SB w b ia ka lna ta ic kc lnc tc s so) : w.cell? ⟨b, 1, none⟩ = some (.slice ka s.keys.length kc) := box_cell h.box rfl
theorem SB.c2 {w : World} {b : Nat} {ia ka lna ta : Option Addr} {ic kc lnc tc : Nat} {s : Sg} {so : Bool} (h : SB w b ia ka lna ta ic kc lnc tc s so) : w.cell? ⟨b, 2, none⟩ = some (.slice lna s.lens.length lnc) := box_cell h.box rfl
theorem SB.c3 {w : World} {b : Nat} {ia ka lna ta : Option Addr} {ic kc lnc tc : Nat} {s : Sg} {so : Bool} (h : SB w b ia ka lna ta ic kc lnc tc s so) : w.cell? ⟨b, 3, none⟩ = some (.slice ta s.ts.length tc) := box_cell h.box rfl
theorem SB.c4 {w : World} {b : Nat} {ia ka lna ta : Option Addr} {ic kc lnc tc : Nat} {s : Sg} {so : Bool} (h : SB w b ia ka lna ta ic kc lnc tc s so) : w.cell? ⟨b, 4, none⟩ = some (.bool so) := box_cell h.box rfl
theorem SB.new {w : World} {ia ka lna ta : Option Addr} {ic kc lnc tc : Nat} {s : Sg} {so : Bool} (h : Sv w (.slice ia s.ids.length ic) (.slice ka s.keys.length kc) (.slice lna s.lens.length lnc) (.slice ta s.ts.length tc) s) :
    SB (w.alloc (.cells #[.slice ia s.ids.length ic, .slice ka s.keys.length kc, .slice lna s.lens.length lnc, .slice ta s.ts.length tc, .bool so] 31)) w.heap.size ia ka lna ta ic kc lnc tc s so := ⟨heap_alloc_new w _, h.below (below_alloc _ _)⟩

theorem lits_i (w : World) : Gl .string (w.alloc (.cells #[.string ⟨#[121]⟩, .string ⟨#[120]⟩] 9)) (.slice (some ⟨w.heap.size, 0, none⟩) 2 2) [⟨#[121]⟩, ⟨#[120]⟩] := Gl.lit _ rfl rfl (by decide) rfl

theorem takeH {P : Program} {md : Region.Mode} {ops : Array Oper} {Q : Exit → Act → World → Prop} {S : World → Prop} {i : Nat} {oi : Oper} {d : Option Tmp} {v : Value} {fuel : Nat} {listed : Array Bool} {a : Act} {w : World} (hi : ops[i]? = some oi) (hd : oi.dst = d)
    (hs : Region.noSelect ops = true) (hf : Region.free md ops listed i = true) (hr : (Region.ready md ops listed).contains i = true)
    (hQ : ∀ c a w, Q (.panic c) (a.put d v) w → Q (.panic c) a w) (hy : YieldsIf P ops S oi v a) (hS : S w)
    (h : wpAnyH P md ops Q S fuel (listed.setIfInBounds i true) (a.put d v) w) : wpAnyH P md ops Q S (fuel + 1) listed a w := by
  subst hd
  exact wpAnyH_take hi hs hf hr hQ hy hS h

theorem cutH {P : Program} {md : Region.Mode} {ops : Array Oper} {Q : Exit → Act → World → Prop} {S : World → Prop} {fuel : Nat} {listed : Array Bool} {a : Act} {w : World} (G : Act → Act → Prop) (fuel' : Nat) (listed' : Array Bool)
    (hA : (∀ a' w', G a a' → S w' → wpAnyH P md ops Q S fuel' listed' a' w') → wpAnyH P md ops Q S fuel listed a w)
    (hB : ∀ a' w', G a a' → S w' → wpAnyH P md ops Q S fuel' listed' a' w') : wpAnyH P md ops Q S fuel listed a w := hA hB
theorem listH {P : Program} {md : Region.Mode} {ops : Array Oper} {Q : Exit → Act → World → Prop} {S : World → Prop} {fuel fuel' : Nat} {listed listed' : Array Bool} {a : Act} {w : World} (hf : fuel = fuel') (hl : listed = listed') (h : wpAnyH P md ops Q S fuel' listed' a w) : wpAnyH P md ops Q S fuel listed a w := by
  subst hf hl
  exact h

theorem ex_words (ia ka lna ta : Option Addr) (ic kc lnc tc : Nat) (s : Sg) (w : World) (h : Sv w (.slice ia s.ids.length ic) (.slice ka s.keys.length kc) (.slice lna s.lens.length lnc) (.slice ta s.ts.length tc) s) (hV : Valid s exC false) :
    Calls Try.prog 25 #[.agg #[.slice ia s.ids.length ic, .slice ka s.keys.length kc, .slice lna s.lens.length lnc, .slice ta s.ts.length tc, .bool false], .int .i64 0] w fun e w' => ∃ a c, e = .returned (.slice a 3 c) ∧ Below w.heap.size w w' :=
  (words8_any ia ka lna ta ic kc lnc tc s false exC 0 xC w h hV rfl).mono fun e w' ⟨v, h1, h2, h3⟩ => by
    obtain ⟨a, c, rfl, -⟩ := id h2
    exact ⟨a, c, h1, h3⟩
theorem ex_cards (ia ka lna ta : Option Addr) (ic kc lnc tc : Nat) (s : Sg) (w : World) (h : Sv w (.slice ia s.ids.length ic) (.slice ka s.keys.length kc) (.slice lna s.lens.length lnc) (.slice ta s.ts.length tc) s) (hV : Valid s exC false) :
    Calls Try.prog 26 #[.agg #[.slice ia s.ids.length ic, .slice ka s.keys.length kc, .slice lna s.lens.length lnc, .slice ta s.ts.length tc, .bool false]] w fun e w' => ∃ a c, e = .returned (.slice a 2 c) ∧ Below w.heap.size w w' :=
  (cards_any ia ka lna ta ic kc lnc tc s false exC w h hV).mono fun e w' ⟨v, h1, h2, h3⟩ => by
    obtain ⟨a, c, rfl, -⟩ := h2.open
    exact ⟨a, c, h1, h3⟩
theorem ex_find (ia ka lna ta : Option Addr) (ic kc lnc tc : Nat) (s : Sg) (w : World) (h : Sv w (.slice ia s.ids.length ic) (.slice ka s.keys.length kc) (.slice lna s.lens.length lnc) (.slice ta s.ts.length tc) s) (hV : Valid s exD true) :
    Calls Try.prog 23 #[.agg #[.slice ia s.ids.length ic, .slice ka s.keys.length kc, .slice lna s.lens.length lnc, .slice ta s.ts.length tc, .bool true], .string ⟨#[120]⟩] w fun e w' => e = .returned (.int .i64 1) ∧ Below w.heap.size w w' :=
  find8_any ia ka lna ta ic kc lnc tc s true exD 1 xC w h hV rfl
theorem ex_before (q1 q2 : Nat) (w : World) : Calls Try.prog 12 #[.agg #[.string ⟨#[121]⟩, .int .i64 1, .slice (some ⟨q2, 0, none⟩) 1 1], .agg #[.string ⟨#[120]⟩, .int .i64 2, .slice (some ⟨q1, 0, none⟩) 3 3]] w fun e w' => e = .returned (.bool true) ∧ Below w.heap.size w w' :=
  before_b yC xC _ _ _ _ _ _ w true ex_bef
theorem ex_hasA (ia ka lna ta : Option Addr) (ic kc lnc tc : Nat) (s : Sg) (w : World) (h : Sv w (.slice ia s.ids.length ic) (.slice ka s.keys.length kc) (.slice lna s.lens.length lnc) (.slice ta s.ts.length tc) s) (hV : Valid s exC false) :
    Calls Try.prog 21 #[.agg #[.slice ia s.ids.length ic, .slice ka s.keys.length kc, .slice lna s.lens.length lnc, .slice ta s.ts.length tc, .bool false], .string ⟨#[97]⟩] w fun e w' => ∃ v', e = .returned v' ∧ Pl w' v' [⟨0, [0, 2]⟩] ∧ Below w.heap.size w w' := by
  have := has_any ia ka lna ta ic kc lnc tc s false exC ⟨#[97]⟩ w h hV
  rw [ex_pa] at this
  exact this
theorem ex_hasB (ia ka lna ta : Option Addr) (ic kc lnc tc : Nat) (s : Sg) (w : World) (h : Sv w (.slice ia s.ids.length ic) (.slice ka s.keys.length kc) (.slice lna s.lens.length lnc) (.slice ta s.ts.length tc) s) (hV : Valid s exC false) :
    Calls Try.prog 21 #[.agg #[.slice ia s.ids.length ic, .slice ka s.keys.length kc, .slice lna s.lens.length lnc, .slice ta s.ts.length tc, .bool false], .string ⟨#[98]⟩] w fun e w' => ∃ v', e = .returned v' ∧ Pl w' v' [⟨0, [1]⟩, ⟨1, [0]⟩] ∧ Below w.heap.size w w' := by
  have := has_any ia ka lna ta ic kc lnc tc s false exC ⟨#[98]⟩ w h hV
  rw [ex_pb] at this
  exact this
theorem sl_one (w : World) (x : Int) : Sl .i64 (w.alloc (.cells #[.int .i64 x] 3)) (.slice (some ⟨w.heap.size, 0, none⟩) 1 1) [x] := Sl.lit (n := 1) [x] rfl rfl (by decide)
theorem sl_two (w : World) : Sl .i64 (w.alloc (.cells #[.int .i64 0, .int .i64 2] 3)) (.slice (some ⟨w.heap.size, 0, none⟩) 2 2) [0, 2] := Sl.lit (n := 2) [0, 2] rfl rfl (by decide)
theorem pl_one (w : World) (b : Nat) (h : Sl .i64 w (.slice (some ⟨b, 0, none⟩) 2 2) [0, 2]) : Pl (w.alloc (.cells #[.int .i64 0, .slice (some ⟨b, 0, none⟩) 2 2] 51)) (.slice (some ⟨w.heap.size, 0, none⟩) 1 1) [⟨0, [0, 2]⟩] := by
  refine Pl.lits [(⟨0, [0, 2]⟩, (some ⟨b, 0, none⟩, 2, 2))] rfl rfl (fun p hp => ?_) rfl (by decide) rfl
  simp only [List.mem_cons, List.not_mem_nil, or_false] at hp
  subst hp
  exact h
theorem pl_two (w : World) (b c : Nat) (h : Sl .i64 w (.slice (some ⟨b, 0, none⟩) 1 1) [1]) (k : Sl .i64 w (.slice (some ⟨c, 0, none⟩) 1 1) [0]) : Pl (w.alloc (.cells #[.int .i64 0, .slice (some ⟨b, 0, none⟩) 1 1, .int .i64 1, .slice (some ⟨c, 0, none⟩) 1 1] 51)) (.slice (some ⟨w.heap.size, 0, none⟩) 2 2) [⟨0, [1]⟩, ⟨1, [0]⟩] := by
  refine Pl.lits [(⟨0, [1]⟩, (some ⟨b, 0, none⟩, 1, 1)), (⟨1, [0]⟩, (some ⟨c, 0, none⟩, 1, 1))] rfl rfl (fun p hp => ?_) rfl (by decide) rfl
  simp only [List.mem_cons, List.not_mem_nil, or_false] at hp
  rcases hp with rfl | rfl
  · exact h
  · exact k

set_option linter.unusedSimpArgs false in
set_option maxRecDepth 100000 in
set_option maxHeartbeats 8000000 in
theorem awake_any (w : World) : Calls Try.prog 7 #[] w fun e w' => e = .returned (.bool true) ∧ Below w.heap.size w w' := by
  obtain ⟨s, hs⟩ : ∃ s, S.seg exC = s := ⟨_, rfl⟩
  obtain ⟨t, ht⟩ : ∃ t, S.seg exD = t := ⟨_, rfl⟩
  have V1 := hide ex_v1
  have V2 := hide ex_v2
  have E1 := hide ex_b1
  have E2 := hide ex_b2
  have EI := hide ex_ids
  rw [hs] at V1 E1
  rw [ht] at V2 E2 EI
  clear hs ht
  have BB := lit_below w
  have C0 := lit_cs w
  have X0 := lit_box w
  obtain ⟨W, hW⟩ : ∃ W, W = litW w := ⟨_, rfl⟩
  rw [← hW] at BB C0 X0
  unfold litW at hW
  have HW := hide hW
  clear hW
  go_enter Try.func7, Try.ntmps7
  go_wp2_with fail
  rw [← unhide HW]
  obtain ⟨g, hg⟩ : ∃ g, w.heap.size + 2 = g := ⟨_, rfl⟩
  have hg' : w.heap.size + 1 + 1 = g := hg
  try rw [hg']
  try rw [hg]
  rw [hg] at C0 X0
  obtain ⟨q1, hq1⟩ : ∃ q1, w.heap.size = q1 := ⟨_, rfl⟩
  have HQ := hide hq1
  rw [hq1] at X0
  obtain ⟨q2, hq2⟩ : ∃ q2, q1 + 1 = q2 := ⟨_, rfl⟩
  rw [hq2] at X0
  clear hg hg' hq1 hq2 HW
  refine (build_any _ exC false W C0 (by decide) _ (unhide E1)).mono ?_
  rintro e w1 ⟨iv, kv, lv, tv, rfl, S1, B1⟩
  obtain ⟨ia, ka, lna, ta, ic, kc, lnc, tc, rfl, rfl, rfl, rfl⟩ := S1.shape
  have BB1 := below_trans' BB B1
  have C1 := C0.below B1
  have X1 := box_below X0 B1
  have Z1 := SB.new (so := false) S1
  clear BB C0 X0 B1 S1
  obtain ⟨W1, hW1⟩ : ∃ W1, W1 = w1.alloc (.cells #[.slice ia s.ids.length ic, .slice ka s.keys.length kc, .slice lna s.lens.length lnc, .slice ta s.ts.length tc, .bool false] 31) := ⟨_, rfl⟩
  have BW1 : Below w1.heap.size w1 W1 := by rw [hW1]; exact below_alloc _ _
  rw [← hW1] at Z1
  have HW1 := hide hW1
  clear hW1
  go_wp2_with fail
  rw [← unhide HW1]
  obtain ⟨p1, hp1⟩ : ∃ p1, w1.heap.size = p1 := ⟨_, rfl⟩
  rw [hp1] at Z1 ⊢
  replace C1 := C1.below BW1
  replace X1 := box_below X1 BW1
  replace BB1 := below_trans' BB1 BW1
  clear BW1 HW1 hp1
  refine (build_any _ exC true W1 C1 (by decide) _ (unhide E2)).mono ?_
  rintro e w2 ⟨iv2, kv2, lv2, tv2, rfl, S2, B2⟩
  obtain ⟨ia2, ka2, lna2, ta2, ic2, kc2, lnc2, tc2, rfl, rfl, rfl, rfl⟩ := S2.shape
  have BB2 := below_trans' BB1 B2
  have X2 := box_below X1 B2
  replace Z1 := Z1.below B2
  have Z2 := SB.new (so := true) S2
  clear BB1 C1 X1 B2 S2
  obtain ⟨W2, hW2⟩ : ∃ W2, W2 = w2.alloc (.cells #[.slice ia2 t.ids.length ic2, .slice ka2 t.keys.length kc2, .slice lna2 t.lens.length lnc2, .slice ta2 t.ts.length tc2, .bool true] 31) := ⟨_, rfl⟩
  have BW2 : Below w2.heap.size w2 W2 := by rw [hW2]; exact below_alloc _ _
  rw [← hW2] at Z2
  obtain ⟨p2, hp2⟩ : ∃ p2, w2.heap.size = p2 := ⟨_, rfl⟩
  replace Z1 := Z1.below BW2
  have X := box_below X2 BW2
  have BB := below_trans' BB2 BW2
  have A0 := Z1.c0
  have A1 := Z1.c1
  have A2 := Z1.c2
  have A3 := Z1.c3
  have A4 := Z1.c4
  have HW2 := hide hW2
  clear hW2 BB2 X2 BW2
  rw [hp2] at Z2
  have T0 := Z2.c0
  have T1 := Z2.c1
  have T2 := Z2.c2
  have T3 := Z2.c3
  have T4 := Z2.c4
  have D0 := box_cell X (j := 0) rfl
  have D1 := box_cell X (j := 1) rfl
  have D2 := box_cell X (j := 2) rfl
  have D3 := box_cell X (j := 3) rfl
  have D4 := box_cell X (j := 4) rfl
  have D5 := box_cell X (j := 5) rfl
  have HK : ∀ w', Below W2.heap.size W2 w' → Below W2.heap.size W2 w' ∧ w'.cell? ⟨p1, 0, none⟩ = some (.slice ia s.ids.length ic) ∧ w'.cell? ⟨p1, 1, none⟩ = some (.slice ka s.keys.length kc) ∧ w'.cell? ⟨p1, 2, none⟩ = some (.slice lna s.lens.length lnc) ∧ w'.cell? ⟨p1, 3, none⟩ = some (.slice ta s.ts.length tc) ∧ w'.cell? ⟨p1, 4, none⟩ = some (.bool false) ∧ w'.cell? ⟨p2, 0, none⟩ = some (.slice ia2 t.ids.length ic2) ∧ w'.cell? ⟨p2, 1, none⟩ = some (.slice ka2 t.keys.length kc2) ∧ w'.cell? ⟨p2, 2, none⟩ = some (.slice lna2 t.lens.length lnc2) ∧ w'.cell? ⟨p2, 3, none⟩ = some (.slice ta2 t.ts.length tc2) ∧ w'.cell? ⟨p2, 4, none⟩ = some (.bool true) ∧ w'.cell? ⟨g, 0, none⟩ = some (.string ⟨#[120]⟩) ∧ w'.cell? ⟨g, 1, none⟩ = some (.int .i64 2) ∧ w'.cell? ⟨g, 2, none⟩ = some (.slice (some ⟨q1, 0, none⟩) 3 3) ∧ w'.cell? ⟨g, 3, none⟩ = some (.string ⟨#[121]⟩) ∧ w'.cell? ⟨g, 4, none⟩ = some (.int .i64 1) ∧ w'.cell? ⟨g, 5, none⟩ = some (.slice (some ⟨q2, 0, none⟩) 1 1) := fun w' hb => ⟨hb, cell_keep A0 hb, cell_keep A1 hb, cell_keep A2 hb, cell_keep A3 hb, cell_keep A4 hb, cell_keep T0 hb, cell_keep T1 hb, cell_keep T2 hb, cell_keep T3 hb, cell_keep T4 hb, cell_keep D0 hb, cell_keep D1 hb, cell_keep D2 hb, cell_keep D3 hb, cell_keep D4 hb, cell_keep D5 hb⟩
  have HKK := hide HK
  clear HK A0 A1 A2 A3 A4 T0 T1 T2 T3 T4 D0 D1 D2 D3 D4 D5
  go_wp2_with fail
  rw [← unhide HW2]
  refine wp_region_held_drew (S := fun w' => Below W2.heap.size W2 w' ∧ w'.cell? ⟨p1, 0, none⟩ = some (.slice ia s.ids.length ic) ∧ w'.cell? ⟨p1, 1, none⟩ = some (.slice ka s.keys.length kc) ∧ w'.cell? ⟨p1, 2, none⟩ = some (.slice lna s.lens.length lnc) ∧ w'.cell? ⟨p1, 3, none⟩ = some (.slice ta s.ts.length tc) ∧ w'.cell? ⟨p1, 4, none⟩ = some (.bool false) ∧ w'.cell? ⟨p2, 0, none⟩ = some (.slice ia2 t.ids.length ic2) ∧ w'.cell? ⟨p2, 1, none⟩ = some (.slice ka2 t.keys.length kc2) ∧ w'.cell? ⟨p2, 2, none⟩ = some (.slice lna2 t.lens.length lnc2) ∧ w'.cell? ⟨p2, 3, none⟩ = some (.slice ta2 t.ts.length tc2) ∧ w'.cell? ⟨p2, 4, none⟩ = some (.bool true) ∧ w'.cell? ⟨g, 0, none⟩ = some (.string ⟨#[120]⟩) ∧ w'.cell? ⟨g, 1, none⟩ = some (.int .i64 2) ∧ w'.cell? ⟨g, 2, none⟩ = some (.slice (some ⟨q1, 0, none⟩) 3 3) ∧ w'.cell? ⟨g, 3, none⟩ = some (.string ⟨#[121]⟩) ∧ w'.cell? ⟨g, 4, none⟩ = some (.int .i64 1) ∧ w'.cell? ⟨g, 5, none⟩ = some (.slice (some ⟨q2, 0, none⟩) 1 1)) (by kernel_rfl) (unhide HKK _ (Below.refl _ _).drew) (fun hH => ?_)
  refine takeH (i := 0) (d := some 21) (v := .int .i64 0) rfl rfl (by kernel_rfl) (by kernel_rfl) (by kernel_rfl) (fun _ _ _ h => h) (Or.inl ⟨by rfl, fun w9 hSw => ?_⟩) hH ?_
  · (try dsimp only at hSw); go_simp
  conv => arg 8; simp only [Act.put, List.setIfInBounds_toArray, List.set_cons_zero, List.set_cons_succ]
  refine takeH (i := 1) (d := some 22) (v := .bool true) rfl rfl (by kernel_rfl) (by kernel_rfl) (by kernel_rfl) (fun _ _ _ h => h) (Or.inl ⟨by rfl, fun w9 hSw => ?_⟩) hH ?_
  · (try dsimp only at hSw); go_simp
  conv => arg 8; simp only [Act.put, List.setIfInBounds_toArray, List.set_cons_zero, List.set_cons_succ]
  refine takeH (i := 2) (d := some 23) (v := .bool true) rfl rfl (by kernel_rfl) (by kernel_rfl) (by kernel_rfl) (fun _ _ _ h => h) (Or.inl ⟨by rfl, fun w9 hSw => ?_⟩) hH ?_
  · (try dsimp only at hSw); go_simp
  conv => arg 8; simp only [Act.put, List.setIfInBounds_toArray, List.set_cons_zero, List.set_cons_succ]
  refine takeH (i := 3) (d := some 24) (v := .int .i64 0) rfl rfl (by kernel_rfl) (by kernel_rfl) (by kernel_rfl) (fun _ _ _ h => h) (Or.inl ⟨by rfl, fun w9 hSw => ?_⟩) hH ?_
  · (try dsimp only at hSw); go_simp
  conv => arg 8; simp only [Act.put, List.setIfInBounds_toArray, List.set_cons_zero, List.set_cons_succ]
  refine takeH (i := 4) (d := some 25) (v := .bool true) rfl rfl (by kernel_rfl) (by kernel_rfl) (by kernel_rfl) (fun _ _ _ h => h) (Or.inl ⟨by rfl, fun w9 hSw => ?_⟩) hH ?_
  · (try dsimp only at hSw); go_simp
  conv => arg 8; simp only [Act.put, List.setIfInBounds_toArray, List.set_cons_zero, List.set_cons_succ]
  refine takeH (i := 5) (d := some 26) (v := .bool true) rfl rfl (by kernel_rfl) (by kernel_rfl) (by kernel_rfl) (fun _ _ _ h => h) (Or.inl ⟨by rfl, fun w9 hSw => ?_⟩) hH ?_
  · (try dsimp only at hSw); go_simp
  conv => arg 8; simp only [Act.put, List.setIfInBounds_toArray, List.set_cons_zero, List.set_cons_succ]
  refine takeH (i := 6) (d := some 27) (v := .bool true) rfl rfl (by kernel_rfl) (by kernel_rfl) (by kernel_rfl) (fun _ _ _ h => h) (Or.inl ⟨by rfl, fun w9 hSw => ?_⟩) hH ?_
  · (try dsimp only at hSw); go_simp
  conv => arg 8; simp only [Act.put, List.setIfInBounds_toArray, List.set_cons_zero, List.set_cons_succ]
  refine takeH (i := 7) (d := some 28) (v := .agg #[.slice ia s.ids.length ic, .slice ka s.keys.length kc, .slice lna s.lens.length lnc, .slice ta s.ts.length tc, .bool false]) rfl rfl (by kernel_rfl) (by kernel_rfl) (by kernel_rfl) (fun _ _ _ h => h) (Or.inl ⟨by rfl, fun w9 hSw => ?_⟩) hH ?_
  · (try dsimp only at hSw); go_simp
  conv => arg 8; simp only [Act.put, List.setIfInBounds_toArray, List.set_cons_zero, List.set_cons_succ]
  refine wpAnyH_ready (rs := [8]) (by kernel_rfl) (by simp) ?_
  refine AllReadyH.cons rfl (fun K hK => ?_) AllReadyH.nil
  go_simp
  refine (segMay_any ia ka lna ta ic kc lnc tc s false exC _ (Z1.sv.below hH.1) (unhide V1)).mono ?_
  rintro e9 u1 ⟨rfl, B2⟩
  refine hK.out _ _ (unhide HKK _ (below_trans' hH.1 B2)) (fun hH9 => ?_)
  clear hH
  have hH := hH9
  clear hH9 hK K
  clear B2
  refine takeH (i := 9) (d := some 30) (v := .bool true) rfl rfl (by kernel_rfl) (by kernel_rfl) (by kernel_rfl) (fun _ _ _ h => h) (Or.inl ⟨by rfl, fun w9 hSw => ?_⟩) hH ?_
  · (try dsimp only at hSw); go_simp
  conv => arg 8; simp only [Act.put, List.setIfInBounds_toArray, List.set_cons_zero, List.set_cons_succ]
  refine takeH (i := 10) (d := some 31) (v := .bool true) rfl rfl (by kernel_rfl) (by kernel_rfl) (by kernel_rfl) (fun _ _ _ h => h) (Or.inl ⟨by rfl, fun w9 hSw => ?_⟩) hH ?_
  · (try dsimp only at hSw); go_simp
  conv => arg 8; simp only [Act.put, List.setIfInBounds_toArray, List.set_cons_zero, List.set_cons_succ]
  refine takeH (i := 11) (d := some 32) (v := .agg #[.slice ia s.ids.length ic, .slice ka s.keys.length kc, .slice lna s.lens.length lnc, .slice ta s.ts.length tc, .bool false]) rfl rfl (by kernel_rfl) (by kernel_rfl) (by kernel_rfl) (fun _ _ _ h => h) (Or.inl ⟨by rfl, fun w9 hSw => ?_⟩) hH ?_
  · (try dsimp only at hSw); go_simp
  conv => arg 8; simp only [Act.put, List.setIfInBounds_toArray, List.set_cons_zero, List.set_cons_succ]
  refine cutH (fun a0 a9 => ∃ x33 x34 x35 x36 : Value, a9 = (((((((a0.put (some 33) x33).put (some 34) x34).put (some 35) x35).put (some 36) x36).put (some 37) (.bool true)).put (some 38) (.bool true)).put (some 39) (.bool true))) 47 (Array.replicate 19 true ++ Array.replicate 47 false) (fun KA => ?_) ?_
  · replace KA := hide KA
    refine wpAnyH_ready (rs := [12, 13]) (by kernel_rfl) (by simp) ?_
    refine AllReadyH.cons rfl (fun K hK => ?_) ?_
    · skip
      go_simp
      refine (ex_hasA ia ka lna ta ic kc lnc tc s _ (Z1.sv.below hH.1) (unhide V1)).mono ?_
      rintro e9 u5 ⟨v4, rfl, P3, B6⟩
      refine hK.out _ _ (unhide HKK _ (below_trans' hH.1 B6)) (fun hH9 => ?_)
      clear hH
      have hH := hH9
      clear hH9 hK K
      clear B6
      refine wpAnyH_ready (rs := [13]) (by kernel_rfl) (by simp) ?_
      refine AllReadyH.cons rfl (fun K hK => ?_) AllReadyH.nil
      go_simp
      have L7 := sl_two u5
      have B9 := below_alloc u5 (.cells #[.int .i64 0, .int .i64 2] 3)
      obtain ⟨u8, hw11⟩ : ∃ u8, u8 = u5.alloc (.cells #[.int .i64 0, .int .i64 2] 3) := ⟨_, rfl⟩
      rw [← hw11] at L7 B9 ⊢
      obtain ⟨k10, hk12⟩ : ∃ k10, u5.heap.size = k10 := ⟨_, rfl⟩
      rw [hk12] at L7
      simp only [hk12]
      replace P3 := P3.below B9
      refine hK.out _ _ (unhide HKK _ (below_trans' hH.1 B9)) (fun hH9 => ?_)
      clear hH
      have hH := hH9
      clear hH9 hK K
      clear hw11 hk12 B9
      refine takeH (i := 14) (d := some 35) (v := .agg #[.int .i64 0, .slice (some ⟨k10, 0, none⟩) 2 2]) rfl rfl (by kernel_rfl) (by kernel_rfl) (by kernel_rfl) (fun _ _ _ h => h) (Or.inl ⟨by rfl, fun w9 hSw => ?_⟩) hH ?_
      · (try dsimp only at hSw); go_simp
      conv => arg 8; simp only [Act.put, List.setIfInBounds_toArray, List.set_cons_zero, List.set_cons_succ]
      refine wpAnyH_ready (rs := [15]) (by kernel_rfl) (by simp) ?_
      refine AllReadyH.cons rfl (fun K hK => ?_) AllReadyH.nil
      go_simp
      have L13 := pl_one u8 k10 L7
      have B15 := below_alloc u8 (.cells #[.int .i64 0, .slice (some ⟨k10, 0, none⟩) 2 2] 51)
      obtain ⟨u14, hw17⟩ : ∃ u14, u14 = u8.alloc (.cells #[.int .i64 0, .slice (some ⟨k10, 0, none⟩) 2 2] 51) := ⟨_, rfl⟩
      rw [← hw17] at L13 B15 ⊢
      obtain ⟨k16, hk18⟩ : ∃ k16, u8.heap.size = k16 := ⟨_, rfl⟩
      rw [hk18] at L13
      simp only [hk18]
      replace P3 := P3.below B15
      replace L7 := L7.below B15
      refine hK.out _ _ (unhide HKK _ (below_trans' hH.1 B15)) (fun hH9 => ?_)
      clear hH
      have hH := hH9
      clear hH9 hK K
      clear hw17 hk18 B15
      refine wpAnyH_ready (rs := [16]) (by kernel_rfl) (by simp) ?_
      refine AllReadyH.cons rfl (fun K hK => ?_) AllReadyH.nil
      go_simp
      refine (rsame_any _ _ [⟨0, [0, 2]⟩] [⟨0, [0, 2]⟩] _ P3 L13).mono ?_
      rintro e9 u19 ⟨rfl, B20⟩
      rw [Pt.eqs_refl]
      refine hK.out _ _ (unhide HKK _ (below_trans' hH.1 B20)) (fun hH9 => ?_)
      clear hH
      have hH := hH9
      clear hH9 hK K
      clear B20
      refine takeH (i := 17) (d := some 38) (v := .bool true) rfl rfl (by kernel_rfl) (by kernel_rfl) (by kernel_rfl) (fun _ _ _ h => h) (Or.inl ⟨by rfl, fun w9 hSw => ?_⟩) hH ?_
      · (try dsimp only at hSw); go_simp
      conv => arg 8; simp only [Act.put, List.setIfInBounds_toArray, List.set_cons_zero, List.set_cons_succ]
      refine takeH (i := 18) (d := some 39) (v := .bool true) rfl rfl (by kernel_rfl) (by kernel_rfl) (by kernel_rfl) (fun _ _ _ h => h) (Or.inl ⟨by rfl, fun w9 hSw => ?_⟩) hH ?_
      · (try dsimp only at hSw); go_simp
      conv => arg 8; simp only [Act.put, List.setIfInBounds_toArray, List.set_cons_zero, List.set_cons_succ]
      exact listH (by kernel_rfl) (by kernel_rfl) (unhide KA _ _ ⟨v4, .slice (some ⟨k10, 0, none⟩) 2 2, .agg #[.int .i64 0, .slice (some ⟨k10, 0, none⟩) 2 2], .slice (some ⟨k16, 0, none⟩) 1 1, by kernel_rfl⟩ hH)
    refine AllReadyH.cons rfl (fun K hK => ?_) AllReadyH.nil
    go_simp
    have L21 := sl_two u1
    have B23 := below_alloc u1 (.cells #[.int .i64 0, .int .i64 2] 3)
    obtain ⟨u22, hw25⟩ : ∃ u22, u22 = u1.alloc (.cells #[.int .i64 0, .int .i64 2] 3) := ⟨_, rfl⟩
    rw [← hw25] at L21 B23 ⊢
    obtain ⟨k24, hk26⟩ : ∃ k24, u1.heap.size = k24 := ⟨_, rfl⟩
    rw [hk26] at L21
    simp only [hk26]
    refine hK.out _ _ (unhide HKK _ (below_trans' hH.1 B23)) (fun hH9 => ?_)
    clear hH
    have hH := hH9
    clear hH9 hK K
    clear hw25 hk26 B23
    refine takeH (i := 14) (d := some 35) (v := .agg #[.int .i64 0, .slice (some ⟨k24, 0, none⟩) 2 2]) rfl rfl (by kernel_rfl) (by kernel_rfl) (by kernel_rfl) (fun _ _ _ h => h) (Or.inl ⟨by rfl, fun w9 hSw => ?_⟩) hH ?_
    · (try dsimp only at hSw); go_simp
    conv => arg 8; simp only [Act.put, List.setIfInBounds_toArray, List.set_cons_zero, List.set_cons_succ]
    refine wpAnyH_ready (rs := [12, 15]) (by kernel_rfl) (by simp) ?_
    refine AllReadyH.cons rfl (fun K hK => ?_) ?_
    · skip
      go_simp
      refine (ex_hasA ia ka lna ta ic kc lnc tc s _ (Z1.sv.below hH.1) (unhide V1)).mono ?_
      rintro e9 u29 ⟨v28, rfl, P27, B30⟩
      replace L21 := L21.below B30
      refine hK.out _ _ (unhide HKK _ (below_trans' hH.1 B30)) (fun hH9 => ?_)
      clear hH
      have hH := hH9
      clear hH9 hK K
      clear B30
      refine wpAnyH_ready (rs := [15]) (by kernel_rfl) (by simp) ?_
      refine AllReadyH.cons rfl (fun K hK => ?_) AllReadyH.nil
      go_simp
      have L31 := pl_one u29 k24 L21
      have B33 := below_alloc u29 (.cells #[.int .i64 0, .slice (some ⟨k24, 0, none⟩) 2 2] 51)
      obtain ⟨u32, hw35⟩ : ∃ u32, u32 = u29.alloc (.cells #[.int .i64 0, .slice (some ⟨k24, 0, none⟩) 2 2] 51) := ⟨_, rfl⟩
      rw [← hw35] at L31 B33 ⊢
      obtain ⟨k34, hk36⟩ : ∃ k34, u29.heap.size = k34 := ⟨_, rfl⟩
      rw [hk36] at L31
      simp only [hk36]
      replace L21 := L21.below B33
      replace P27 := P27.below B33
      refine hK.out _ _ (unhide HKK _ (below_trans' hH.1 B33)) (fun hH9 => ?_)
      clear hH
      have hH := hH9
      clear hH9 hK K
      clear hw35 hk36 B33
      refine wpAnyH_ready (rs := [16]) (by kernel_rfl) (by simp) ?_
      refine AllReadyH.cons rfl (fun K hK => ?_) AllReadyH.nil
      go_simp
      refine (rsame_any _ _ [⟨0, [0, 2]⟩] [⟨0, [0, 2]⟩] _ P27 L31).mono ?_
      rintro e9 u37 ⟨rfl, B38⟩
      rw [Pt.eqs_refl]
      refine hK.out _ _ (unhide HKK _ (below_trans' hH.1 B38)) (fun hH9 => ?_)
      clear hH
      have hH := hH9
      clear hH9 hK K
      clear B38
      refine takeH (i := 17) (d := some 38) (v := .bool true) rfl rfl (by kernel_rfl) (by kernel_rfl) (by kernel_rfl) (fun _ _ _ h => h) (Or.inl ⟨by rfl, fun w9 hSw => ?_⟩) hH ?_
      · (try dsimp only at hSw); go_simp
      conv => arg 8; simp only [Act.put, List.setIfInBounds_toArray, List.set_cons_zero, List.set_cons_succ]
      refine takeH (i := 18) (d := some 39) (v := .bool true) rfl rfl (by kernel_rfl) (by kernel_rfl) (by kernel_rfl) (fun _ _ _ h => h) (Or.inl ⟨by rfl, fun w9 hSw => ?_⟩) hH ?_
      · (try dsimp only at hSw); go_simp
      conv => arg 8; simp only [Act.put, List.setIfInBounds_toArray, List.set_cons_zero, List.set_cons_succ]
      exact listH (by kernel_rfl) (by kernel_rfl) (unhide KA _ _ ⟨v28, .slice (some ⟨k24, 0, none⟩) 2 2, .agg #[.int .i64 0, .slice (some ⟨k24, 0, none⟩) 2 2], .slice (some ⟨k34, 0, none⟩) 1 1, by kernel_rfl⟩ hH)
    refine AllReadyH.cons rfl (fun K hK => ?_) AllReadyH.nil
    go_simp
    have L39 := pl_one u22 k24 L21
    have B41 := below_alloc u22 (.cells #[.int .i64 0, .slice (some ⟨k24, 0, none⟩) 2 2] 51)
    obtain ⟨u40, hw43⟩ : ∃ u40, u40 = u22.alloc (.cells #[.int .i64 0, .slice (some ⟨k24, 0, none⟩) 2 2] 51) := ⟨_, rfl⟩
    rw [← hw43] at L39 B41 ⊢
    obtain ⟨k42, hk44⟩ : ∃ k42, u22.heap.size = k42 := ⟨_, rfl⟩
    rw [hk44] at L39
    simp only [hk44]
    replace L21 := L21.below B41
    refine hK.out _ _ (unhide HKK _ (below_trans' hH.1 B41)) (fun hH9 => ?_)
    clear hH
    have hH := hH9
    clear hH9 hK K
    clear hw43 hk44 B41
    refine wpAnyH_ready (rs := [12]) (by kernel_rfl) (by simp) ?_
    refine AllReadyH.cons rfl (fun K hK => ?_) AllReadyH.nil
    go_simp
    refine (ex_hasA ia ka lna ta ic kc lnc tc s _ (Z1.sv.below hH.1) (unhide V1)).mono ?_
    rintro e9 u47 ⟨v46, rfl, P45, B48⟩
    replace L21 := L21.below B48
    replace L39 := L39.below B48
    refine hK.out _ _ (unhide HKK _ (below_trans' hH.1 B48)) (fun hH9 => ?_)
    clear hH
    have hH := hH9
    clear hH9 hK K
    clear B48
    refine wpAnyH_ready (rs := [16]) (by kernel_rfl) (by simp) ?_
    refine AllReadyH.cons rfl (fun K hK => ?_) AllReadyH.nil
    go_simp
    refine (rsame_any _ _ [⟨0, [0, 2]⟩] [⟨0, [0, 2]⟩] _ P45 L39).mono ?_
    rintro e9 u49 ⟨rfl, B50⟩
    rw [Pt.eqs_refl]
    refine hK.out _ _ (unhide HKK _ (below_trans' hH.1 B50)) (fun hH9 => ?_)
    clear hH
    have hH := hH9
    clear hH9 hK K
    clear B50
    refine takeH (i := 17) (d := some 38) (v := .bool true) rfl rfl (by kernel_rfl) (by kernel_rfl) (by kernel_rfl) (fun _ _ _ h => h) (Or.inl ⟨by rfl, fun w9 hSw => ?_⟩) hH ?_
    · (try dsimp only at hSw); go_simp
    conv => arg 8; simp only [Act.put, List.setIfInBounds_toArray, List.set_cons_zero, List.set_cons_succ]
    refine takeH (i := 18) (d := some 39) (v := .bool true) rfl rfl (by kernel_rfl) (by kernel_rfl) (by kernel_rfl) (fun _ _ _ h => h) (Or.inl ⟨by rfl, fun w9 hSw => ?_⟩) hH ?_
    · (try dsimp only at hSw); go_simp
    conv => arg 8; simp only [Act.put, List.setIfInBounds_toArray, List.set_cons_zero, List.set_cons_succ]
    exact listH (by kernel_rfl) (by kernel_rfl) (unhide KA _ _ ⟨v46, .slice (some ⟨k24, 0, none⟩) 2 2, .agg #[.int .i64 0, .slice (some ⟨k24, 0, none⟩) 2 2], .slice (some ⟨k42, 0, none⟩) 1 1, by kernel_rfl⟩ hH)
  · rintro a9 u ⟨x33, x34, x35, x36, rfl⟩ hH
    conv => arg 8; simp only [Act.put, List.setIfInBounds_toArray, List.set_cons_zero, List.set_cons_succ]
    refine takeH (i := 19) (d := some 40) (v := .agg #[.slice ia s.ids.length ic, .slice ka s.keys.length kc, .slice lna s.lens.length lnc, .slice ta s.ts.length tc, .bool false]) rfl rfl (by kernel_rfl) (by kernel_rfl) (by kernel_rfl) (fun _ _ _ h => h) (Or.inl ⟨by rfl, fun w9 hSw => ?_⟩) hH ?_
    · (try dsimp only at hSw); go_simp
    conv => arg 8; simp only [Act.put, List.setIfInBounds_toArray, List.set_cons_zero, List.set_cons_succ]
    refine cutH (fun a0 a9 => ∃ x41 x42 x43 x44 x45 x46 : Value, a9 = (((((((((a0.put (some 41) x41).put (some 42) x42).put (some 43) x43).put (some 44) x44).put (some 45) x45).put (some 46) x46).put (some 47) (.bool true)).put (some 48) (.bool true)).put (some 49) (.bool true))) 37 (Array.replicate 29 true ++ Array.replicate 37 false) (fun KA => ?_) ?_
    · replace KA := hide KA
      refine wpAnyH_ready (rs := [20, 21, 23]) (by kernel_rfl) (by simp) ?_
      refine AllReadyH.cons rfl (fun K hK => ?_) ?_
      · skip
        go_simp
        refine (ex_hasB ia ka lna ta ic kc lnc tc s _ (Z1.sv.below hH.1) (unhide V1)).mono ?_
        rintro e9 u53 ⟨v52, rfl, P51, B54⟩
        refine hK.out _ _ (unhide HKK _ (below_trans' hH.1 B54)) (fun hH9 => ?_)
        clear hH
        have hH := hH9
        clear hH9 hK K
        clear B54
        refine wpAnyH_ready (rs := [21, 23]) (by kernel_rfl) (by simp) ?_
        refine AllReadyH.cons rfl (fun K hK => ?_) ?_
        · skip
          go_simp
          have L55 := sl_one u53 1
          have B57 := below_alloc u53 (.cells #[.int .i64 1] 3)
          obtain ⟨u56, hw59⟩ : ∃ u56, u56 = u53.alloc (.cells #[.int .i64 1] 3) := ⟨_, rfl⟩
          rw [← hw59] at L55 B57 ⊢
          obtain ⟨k58, hk60⟩ : ∃ k58, u53.heap.size = k58 := ⟨_, rfl⟩
          rw [hk60] at L55
          simp only [hk60]
          replace P51 := P51.below B57
          refine hK.out _ _ (unhide HKK _ (below_trans' hH.1 B57)) (fun hH9 => ?_)
          clear hH
          have hH := hH9
          clear hH9 hK K
          clear hw59 hk60 B57
          refine takeH (i := 22) (d := some 43) (v := .agg #[.int .i64 0, .slice (some ⟨k58, 0, none⟩) 1 1]) rfl rfl (by kernel_rfl) (by kernel_rfl) (by kernel_rfl) (fun _ _ _ h => h) (Or.inl ⟨by rfl, fun w9 hSw => ?_⟩) hH ?_
          · (try dsimp only at hSw); go_simp
          conv => arg 8; simp only [Act.put, List.setIfInBounds_toArray, List.set_cons_zero, List.set_cons_succ]
          refine wpAnyH_ready (rs := [23]) (by kernel_rfl) (by simp) ?_
          refine AllReadyH.cons rfl (fun K hK => ?_) AllReadyH.nil
          go_simp
          have L61 := sl_one u56 0
          have B63 := below_alloc u56 (.cells #[.int .i64 0] 3)
          obtain ⟨u62, hw65⟩ : ∃ u62, u62 = u56.alloc (.cells #[.int .i64 0] 3) := ⟨_, rfl⟩
          rw [← hw65] at L61 B63 ⊢
          obtain ⟨k64, hk66⟩ : ∃ k64, u56.heap.size = k64 := ⟨_, rfl⟩
          rw [hk66] at L61
          simp only [hk66]
          replace P51 := P51.below B63
          replace L55 := L55.below B63
          refine hK.out _ _ (unhide HKK _ (below_trans' hH.1 B63)) (fun hH9 => ?_)
          clear hH
          have hH := hH9
          clear hH9 hK K
          clear hw65 hk66 B63
          refine takeH (i := 24) (d := some 45) (v := .agg #[.int .i64 1, .slice (some ⟨k64, 0, none⟩) 1 1]) rfl rfl (by kernel_rfl) (by kernel_rfl) (by kernel_rfl) (fun _ _ _ h => h) (Or.inl ⟨by rfl, fun w9 hSw => ?_⟩) hH ?_
          · (try dsimp only at hSw); go_simp
          conv => arg 8; simp only [Act.put, List.setIfInBounds_toArray, List.set_cons_zero, List.set_cons_succ]
          refine wpAnyH_ready (rs := [25]) (by kernel_rfl) (by simp) ?_
          refine AllReadyH.cons rfl (fun K hK => ?_) AllReadyH.nil
          go_simp
          have L67 := pl_two u62 k58 k64 L55 L61
          have B69 := below_alloc u62 (.cells #[.int .i64 0, .slice (some ⟨k58, 0, none⟩) 1 1, .int .i64 1, .slice (some ⟨k64, 0, none⟩) 1 1] 51)
          obtain ⟨u68, hw71⟩ : ∃ u68, u68 = u62.alloc (.cells #[.int .i64 0, .slice (some ⟨k58, 0, none⟩) 1 1, .int .i64 1, .slice (some ⟨k64, 0, none⟩) 1 1] 51) := ⟨_, rfl⟩
          rw [← hw71] at L67 B69 ⊢
          obtain ⟨k70, hk72⟩ : ∃ k70, u62.heap.size = k70 := ⟨_, rfl⟩
          rw [hk72] at L67
          simp only [hk72]
          replace P51 := P51.below B69
          replace L55 := L55.below B69
          replace L61 := L61.below B69
          refine hK.out _ _ (unhide HKK _ (below_trans' hH.1 B69)) (fun hH9 => ?_)
          clear hH
          have hH := hH9
          clear hH9 hK K
          clear hw71 hk72 B69
          refine wpAnyH_ready (rs := [26]) (by kernel_rfl) (by simp) ?_
          refine AllReadyH.cons rfl (fun K hK => ?_) AllReadyH.nil
          go_simp
          refine (rsame_any _ _ [⟨0, [1]⟩, ⟨1, [0]⟩] [⟨0, [1]⟩, ⟨1, [0]⟩] _ P51 L67).mono ?_
          rintro e9 u73 ⟨rfl, B74⟩
          rw [Pt.eqs_refl]
          refine hK.out _ _ (unhide HKK _ (below_trans' hH.1 B74)) (fun hH9 => ?_)
          clear hH
          have hH := hH9
          clear hH9 hK K
          clear B74
          refine takeH (i := 27) (d := some 48) (v := .bool true) rfl rfl (by kernel_rfl) (by kernel_rfl) (by kernel_rfl) (fun _ _ _ h => h) (Or.inl ⟨by rfl, fun w9 hSw => ?_⟩) hH ?_
          · (try dsimp only at hSw); go_simp
          conv => arg 8; simp only [Act.put, List.setIfInBounds_toArray, List.set_cons_zero, List.set_cons_succ]
          refine takeH (i := 28) (d := some 49) (v := .bool true) rfl rfl (by kernel_rfl) (by kernel_rfl) (by kernel_rfl) (fun _ _ _ h => h) (Or.inl ⟨by rfl, fun w9 hSw => ?_⟩) hH ?_
          · (try dsimp only at hSw); go_simp
          conv => arg 8; simp only [Act.put, List.setIfInBounds_toArray, List.set_cons_zero, List.set_cons_succ]
          exact listH (by kernel_rfl) (by kernel_rfl) (unhide KA _ _ ⟨v52, .slice (some ⟨k58, 0, none⟩) 1 1, .agg #[.int .i64 0, .slice (some ⟨k58, 0, none⟩) 1 1], .slice (some ⟨k64, 0, none⟩) 1 1, .agg #[.int .i64 1, .slice (some ⟨k64, 0, none⟩) 1 1], .slice (some ⟨k70, 0, none⟩) 2 2, by kernel_rfl⟩ hH)
        refine AllReadyH.cons rfl (fun K hK => ?_) AllReadyH.nil
        go_simp
        have L75 := sl_one u53 0
        have B77 := below_alloc u53 (.cells #[.int .i64 0] 3)
        obtain ⟨u76, hw79⟩ : ∃ u76, u76 = u53.alloc (.cells #[.int .i64 0] 3) := ⟨_, rfl⟩
        rw [← hw79] at L75 B77 ⊢
        obtain ⟨k78, hk80⟩ : ∃ k78, u53.heap.size = k78 := ⟨_, rfl⟩
        rw [hk80] at L75
        simp only [hk80]
        replace P51 := P51.below B77
        refine hK.out _ _ (unhide HKK _ (below_trans' hH.1 B77)) (fun hH9 => ?_)
        clear hH
        have hH := hH9
        clear hH9 hK K
        clear hw79 hk80 B77
        refine takeH (i := 24) (d := some 45) (v := .agg #[.int .i64 1, .slice (some ⟨k78, 0, none⟩) 1 1]) rfl rfl (by kernel_rfl) (by kernel_rfl) (by kernel_rfl) (fun _ _ _ h => h) (Or.inl ⟨by rfl, fun w9 hSw => ?_⟩) hH ?_
        · (try dsimp only at hSw); go_simp
        conv => arg 8; simp only [Act.put, List.setIfInBounds_toArray, List.set_cons_zero, List.set_cons_succ]
        refine wpAnyH_ready (rs := [21]) (by kernel_rfl) (by simp) ?_
        refine AllReadyH.cons rfl (fun K hK => ?_) AllReadyH.nil
        go_simp
        have L81 := sl_one u76 1
        have B83 := below_alloc u76 (.cells #[.int .i64 1] 3)
        obtain ⟨u82, hw85⟩ : ∃ u82, u82 = u76.alloc (.cells #[.int .i64 1] 3) := ⟨_, rfl⟩
        rw [← hw85] at L81 B83 ⊢
        obtain ⟨k84, hk86⟩ : ∃ k84, u76.heap.size = k84 := ⟨_, rfl⟩
        rw [hk86] at L81
        simp only [hk86]
        replace P51 := P51.below B83
        replace L75 := L75.below B83
        refine hK.out _ _ (unhide HKK _ (below_trans' hH.1 B83)) (fun hH9 => ?_)
        clear hH
        have hH := hH9
        clear hH9 hK K
        clear hw85 hk86 B83
        refine takeH (i := 22) (d := some 43) (v := .agg #[.int .i64 0, .slice (some ⟨k84, 0, none⟩) 1 1]) rfl rfl (by kernel_rfl) (by kernel_rfl) (by kernel_rfl) (fun _ _ _ h => h) (Or.inl ⟨by rfl, fun w9 hSw => ?_⟩) hH ?_
        · (try dsimp only at hSw); go_simp
        conv => arg 8; simp only [Act.put, List.setIfInBounds_toArray, List.set_cons_zero, List.set_cons_succ]
        refine wpAnyH_ready (rs := [25]) (by kernel_rfl) (by simp) ?_
        refine AllReadyH.cons rfl (fun K hK => ?_) AllReadyH.nil
        go_simp
        have L87 := pl_two u82 k84 k78 L81 L75
        have B89 := below_alloc u82 (.cells #[.int .i64 0, .slice (some ⟨k84, 0, none⟩) 1 1, .int .i64 1, .slice (some ⟨k78, 0, none⟩) 1 1] 51)
        obtain ⟨u88, hw91⟩ : ∃ u88, u88 = u82.alloc (.cells #[.int .i64 0, .slice (some ⟨k84, 0, none⟩) 1 1, .int .i64 1, .slice (some ⟨k78, 0, none⟩) 1 1] 51) := ⟨_, rfl⟩
        rw [← hw91] at L87 B89 ⊢
        obtain ⟨k90, hk92⟩ : ∃ k90, u82.heap.size = k90 := ⟨_, rfl⟩
        rw [hk92] at L87
        simp only [hk92]
        replace P51 := P51.below B89
        replace L75 := L75.below B89
        replace L81 := L81.below B89
        refine hK.out _ _ (unhide HKK _ (below_trans' hH.1 B89)) (fun hH9 => ?_)
        clear hH
        have hH := hH9
        clear hH9 hK K
        clear hw91 hk92 B89
        refine wpAnyH_ready (rs := [26]) (by kernel_rfl) (by simp) ?_
        refine AllReadyH.cons rfl (fun K hK => ?_) AllReadyH.nil
        go_simp
        refine (rsame_any _ _ [⟨0, [1]⟩, ⟨1, [0]⟩] [⟨0, [1]⟩, ⟨1, [0]⟩] _ P51 L87).mono ?_
        rintro e9 u93 ⟨rfl, B94⟩
        rw [Pt.eqs_refl]
        refine hK.out _ _ (unhide HKK _ (below_trans' hH.1 B94)) (fun hH9 => ?_)
        clear hH
        have hH := hH9
        clear hH9 hK K
        clear B94
        refine takeH (i := 27) (d := some 48) (v := .bool true) rfl rfl (by kernel_rfl) (by kernel_rfl) (by kernel_rfl) (fun _ _ _ h => h) (Or.inl ⟨by rfl, fun w9 hSw => ?_⟩) hH ?_
        · (try dsimp only at hSw); go_simp
        conv => arg 8; simp only [Act.put, List.setIfInBounds_toArray, List.set_cons_zero, List.set_cons_succ]
        refine takeH (i := 28) (d := some 49) (v := .bool true) rfl rfl (by kernel_rfl) (by kernel_rfl) (by kernel_rfl) (fun _ _ _ h => h) (Or.inl ⟨by rfl, fun w9 hSw => ?_⟩) hH ?_
        · (try dsimp only at hSw); go_simp
        conv => arg 8; simp only [Act.put, List.setIfInBounds_toArray, List.set_cons_zero, List.set_cons_succ]
        exact listH (by kernel_rfl) (by kernel_rfl) (unhide KA _ _ ⟨v52, .slice (some ⟨k84, 0, none⟩) 1 1, .agg #[.int .i64 0, .slice (some ⟨k84, 0, none⟩) 1 1], .slice (some ⟨k78, 0, none⟩) 1 1, .agg #[.int .i64 1, .slice (some ⟨k78, 0, none⟩) 1 1], .slice (some ⟨k90, 0, none⟩) 2 2, by kernel_rfl⟩ hH)
      refine AllReadyH.cons rfl (fun K hK => ?_) ?_
      · skip
        go_simp
        have L95 := sl_one u 1
        have B97 := below_alloc u (.cells #[.int .i64 1] 3)
        obtain ⟨u96, hw99⟩ : ∃ u96, u96 = u.alloc (.cells #[.int .i64 1] 3) := ⟨_, rfl⟩
        rw [← hw99] at L95 B97 ⊢
        obtain ⟨k98, hk100⟩ : ∃ k98, u.heap.size = k98 := ⟨_, rfl⟩
        rw [hk100] at L95
        simp only [hk100]
        refine hK.out _ _ (unhide HKK _ (below_trans' hH.1 B97)) (fun hH9 => ?_)
        clear hH
        have hH := hH9
        clear hH9 hK K
        clear hw99 hk100 B97
        refine takeH (i := 22) (d := some 43) (v := .agg #[.int .i64 0, .slice (some ⟨k98, 0, none⟩) 1 1]) rfl rfl (by kernel_rfl) (by kernel_rfl) (by kernel_rfl) (fun _ _ _ h => h) (Or.inl ⟨by rfl, fun w9 hSw => ?_⟩) hH ?_
        · (try dsimp only at hSw); go_simp
        conv => arg 8; simp only [Act.put, List.setIfInBounds_toArray, List.set_cons_zero, List.set_cons_succ]
        refine wpAnyH_ready (rs := [20, 23]) (by kernel_rfl) (by simp) ?_
        refine AllReadyH.cons rfl (fun K hK => ?_) ?_
        · skip
          go_simp
          refine (ex_hasB ia ka lna ta ic kc lnc tc s _ (Z1.sv.below hH.1) (unhide V1)).mono ?_
          rintro e9 u103 ⟨v102, rfl, P101, B104⟩
          replace L95 := L95.below B104
          refine hK.out _ _ (unhide HKK _ (below_trans' hH.1 B104)) (fun hH9 => ?_)
          clear hH
          have hH := hH9
          clear hH9 hK K
          clear B104
          refine wpAnyH_ready (rs := [23]) (by kernel_rfl) (by simp) ?_
          refine AllReadyH.cons rfl (fun K hK => ?_) AllReadyH.nil
          go_simp
          have L105 := sl_one u103 0
          have B107 := below_alloc u103 (.cells #[.int .i64 0] 3)
          obtain ⟨u106, hw109⟩ : ∃ u106, u106 = u103.alloc (.cells #[.int .i64 0] 3) := ⟨_, rfl⟩
          rw [← hw109] at L105 B107 ⊢
          obtain ⟨k108, hk110⟩ : ∃ k108, u103.heap.size = k108 := ⟨_, rfl⟩
          rw [hk110] at L105
          simp only [hk110]
          replace L95 := L95.below B107
          replace P101 := P101.below B107
          refine hK.out _ _ (unhide HKK _ (below_trans' hH.1 B107)) (fun hH9 => ?_)
          clear hH
          have hH := hH9
          clear hH9 hK K
          clear hw109 hk110 B107
          refine takeH (i := 24) (d := some 45) (v := .agg #[.int .i64 1, .slice (some ⟨k108, 0, none⟩) 1 1]) rfl rfl (by kernel_rfl) (by kernel_rfl) (by kernel_rfl) (fun _ _ _ h => h) (Or.inl ⟨by rfl, fun w9 hSw => ?_⟩) hH ?_
          · (try dsimp only at hSw); go_simp
          conv => arg 8; simp only [Act.put, List.setIfInBounds_toArray, List.set_cons_zero, List.set_cons_succ]
          refine wpAnyH_ready (rs := [25]) (by kernel_rfl) (by simp) ?_
          refine AllReadyH.cons rfl (fun K hK => ?_) AllReadyH.nil
          go_simp
          have L111 := pl_two u106 k98 k108 L95 L105
          have B113 := below_alloc u106 (.cells #[.int .i64 0, .slice (some ⟨k98, 0, none⟩) 1 1, .int .i64 1, .slice (some ⟨k108, 0, none⟩) 1 1] 51)
          obtain ⟨u112, hw115⟩ : ∃ u112, u112 = u106.alloc (.cells #[.int .i64 0, .slice (some ⟨k98, 0, none⟩) 1 1, .int .i64 1, .slice (some ⟨k108, 0, none⟩) 1 1] 51) := ⟨_, rfl⟩
          rw [← hw115] at L111 B113 ⊢
          obtain ⟨k114, hk116⟩ : ∃ k114, u106.heap.size = k114 := ⟨_, rfl⟩
          rw [hk116] at L111
          simp only [hk116]
          replace L95 := L95.below B113
          replace P101 := P101.below B113
          replace L105 := L105.below B113
          refine hK.out _ _ (unhide HKK _ (below_trans' hH.1 B113)) (fun hH9 => ?_)
          clear hH
          have hH := hH9
          clear hH9 hK K
          clear hw115 hk116 B113
          refine wpAnyH_ready (rs := [26]) (by kernel_rfl) (by simp) ?_
          refine AllReadyH.cons rfl (fun K hK => ?_) AllReadyH.nil
          go_simp
          refine (rsame_any _ _ [⟨0, [1]⟩, ⟨1, [0]⟩] [⟨0, [1]⟩, ⟨1, [0]⟩] _ P101 L111).mono ?_
          rintro e9 u117 ⟨rfl, B118⟩
          rw [Pt.eqs_refl]
          refine hK.out _ _ (unhide HKK _ (below_trans' hH.1 B118)) (fun hH9 => ?_)
          clear hH
          have hH := hH9
          clear hH9 hK K
          clear B118
          refine takeH (i := 27) (d := some 48) (v := .bool true) rfl rfl (by kernel_rfl) (by kernel_rfl) (by kernel_rfl) (fun _ _ _ h => h) (Or.inl ⟨by rfl, fun w9 hSw => ?_⟩) hH ?_
          · (try dsimp only at hSw); go_simp
          conv => arg 8; simp only [Act.put, List.setIfInBounds_toArray, List.set_cons_zero, List.set_cons_succ]
          refine takeH (i := 28) (d := some 49) (v := .bool true) rfl rfl (by kernel_rfl) (by kernel_rfl) (by kernel_rfl) (fun _ _ _ h => h) (Or.inl ⟨by rfl, fun w9 hSw => ?_⟩) hH ?_
          · (try dsimp only at hSw); go_simp
          conv => arg 8; simp only [Act.put, List.setIfInBounds_toArray, List.set_cons_zero, List.set_cons_succ]
          exact listH (by kernel_rfl) (by kernel_rfl) (unhide KA _ _ ⟨v102, .slice (some ⟨k98, 0, none⟩) 1 1, .agg #[.int .i64 0, .slice (some ⟨k98, 0, none⟩) 1 1], .slice (some ⟨k108, 0, none⟩) 1 1, .agg #[.int .i64 1, .slice (some ⟨k108, 0, none⟩) 1 1], .slice (some ⟨k114, 0, none⟩) 2 2, by kernel_rfl⟩ hH)
        refine AllReadyH.cons rfl (fun K hK => ?_) AllReadyH.nil
        go_simp
        have L119 := sl_one u96 0
        have B121 := below_alloc u96 (.cells #[.int .i64 0] 3)
        obtain ⟨u120, hw123⟩ : ∃ u120, u120 = u96.alloc (.cells #[.int .i64 0] 3) := ⟨_, rfl⟩
        rw [← hw123] at L119 B121 ⊢
        obtain ⟨k122, hk124⟩ : ∃ k122, u96.heap.size = k122 := ⟨_, rfl⟩
        rw [hk124] at L119
        simp only [hk124]
        replace L95 := L95.below B121
        refine hK.out _ _ (unhide HKK _ (below_trans' hH.1 B121)) (fun hH9 => ?_)
        clear hH
        have hH := hH9
        clear hH9 hK K
        clear hw123 hk124 B121
        refine takeH (i := 24) (d := some 45) (v := .agg #[.int .i64 1, .slice (some ⟨k122, 0, none⟩) 1 1]) rfl rfl (by kernel_rfl) (by kernel_rfl) (by kernel_rfl) (fun _ _ _ h => h) (Or.inl ⟨by rfl, fun w9 hSw => ?_⟩) hH ?_
        · (try dsimp only at hSw); go_simp
        conv => arg 8; simp only [Act.put, List.setIfInBounds_toArray, List.set_cons_zero, List.set_cons_succ]
        refine wpAnyH_ready (rs := [20, 25]) (by kernel_rfl) (by simp) ?_
        refine AllReadyH.cons rfl (fun K hK => ?_) ?_
        · skip
          go_simp
          refine (ex_hasB ia ka lna ta ic kc lnc tc s _ (Z1.sv.below hH.1) (unhide V1)).mono ?_
          rintro e9 u127 ⟨v126, rfl, P125, B128⟩
          replace L95 := L95.below B128
          replace L119 := L119.below B128
          refine hK.out _ _ (unhide HKK _ (below_trans' hH.1 B128)) (fun hH9 => ?_)
          clear hH
          have hH := hH9
          clear hH9 hK K
          clear B128
          refine wpAnyH_ready (rs := [25]) (by kernel_rfl) (by simp) ?_
          refine AllReadyH.cons rfl (fun K hK => ?_) AllReadyH.nil
          go_simp
          have L129 := pl_two u127 k98 k122 L95 L119
          have B131 := below_alloc u127 (.cells #[.int .i64 0, .slice (some ⟨k98, 0, none⟩) 1 1, .int .i64 1, .slice (some ⟨k122, 0, none⟩) 1 1] 51)
          obtain ⟨u130, hw133⟩ : ∃ u130, u130 = u127.alloc (.cells #[.int .i64 0, .slice (some ⟨k98, 0, none⟩) 1 1, .int .i64 1, .slice (some ⟨k122, 0, none⟩) 1 1] 51) := ⟨_, rfl⟩
          rw [← hw133] at L129 B131 ⊢
          obtain ⟨k132, hk134⟩ : ∃ k132, u127.heap.size = k132 := ⟨_, rfl⟩
          rw [hk134] at L129
          simp only [hk134]
          replace L95 := L95.below B131
          replace L119 := L119.below B131
          replace P125 := P125.below B131
          refine hK.out _ _ (unhide HKK _ (below_trans' hH.1 B131)) (fun hH9 => ?_)
          clear hH
          have hH := hH9
          clear hH9 hK K
          clear hw133 hk134 B131
          refine wpAnyH_ready (rs := [26]) (by kernel_rfl) (by simp) ?_
          refine AllReadyH.cons rfl (fun K hK => ?_) AllReadyH.nil
          go_simp
          refine (rsame_any _ _ [⟨0, [1]⟩, ⟨1, [0]⟩] [⟨0, [1]⟩, ⟨1, [0]⟩] _ P125 L129).mono ?_
          rintro e9 u135 ⟨rfl, B136⟩
          rw [Pt.eqs_refl]
          refine hK.out _ _ (unhide HKK _ (below_trans' hH.1 B136)) (fun hH9 => ?_)
          clear hH
          have hH := hH9
          clear hH9 hK K
          clear B136
          refine takeH (i := 27) (d := some 48) (v := .bool true) rfl rfl (by kernel_rfl) (by kernel_rfl) (by kernel_rfl) (fun _ _ _ h => h) (Or.inl ⟨by rfl, fun w9 hSw => ?_⟩) hH ?_
          · (try dsimp only at hSw); go_simp
          conv => arg 8; simp only [Act.put, List.setIfInBounds_toArray, List.set_cons_zero, List.set_cons_succ]
          refine takeH (i := 28) (d := some 49) (v := .bool true) rfl rfl (by kernel_rfl) (by kernel_rfl) (by kernel_rfl) (fun _ _ _ h => h) (Or.inl ⟨by rfl, fun w9 hSw => ?_⟩) hH ?_
          · (try dsimp only at hSw); go_simp
          conv => arg 8; simp only [Act.put, List.setIfInBounds_toArray, List.set_cons_zero, List.set_cons_succ]
          exact listH (by kernel_rfl) (by kernel_rfl) (unhide KA _ _ ⟨v126, .slice (some ⟨k98, 0, none⟩) 1 1, .agg #[.int .i64 0, .slice (some ⟨k98, 0, none⟩) 1 1], .slice (some ⟨k122, 0, none⟩) 1 1, .agg #[.int .i64 1, .slice (some ⟨k122, 0, none⟩) 1 1], .slice (some ⟨k132, 0, none⟩) 2 2, by kernel_rfl⟩ hH)
        refine AllReadyH.cons rfl (fun K hK => ?_) AllReadyH.nil
        go_simp
        have L137 := pl_two u120 k98 k122 L95 L119
        have B139 := below_alloc u120 (.cells #[.int .i64 0, .slice (some ⟨k98, 0, none⟩) 1 1, .int .i64 1, .slice (some ⟨k122, 0, none⟩) 1 1] 51)
        obtain ⟨u138, hw141⟩ : ∃ u138, u138 = u120.alloc (.cells #[.int .i64 0, .slice (some ⟨k98, 0, none⟩) 1 1, .int .i64 1, .slice (some ⟨k122, 0, none⟩) 1 1] 51) := ⟨_, rfl⟩
        rw [← hw141] at L137 B139 ⊢
        obtain ⟨k140, hk142⟩ : ∃ k140, u120.heap.size = k140 := ⟨_, rfl⟩
        rw [hk142] at L137
        simp only [hk142]
        replace L95 := L95.below B139
        replace L119 := L119.below B139
        refine hK.out _ _ (unhide HKK _ (below_trans' hH.1 B139)) (fun hH9 => ?_)
        clear hH
        have hH := hH9
        clear hH9 hK K
        clear hw141 hk142 B139
        refine wpAnyH_ready (rs := [20]) (by kernel_rfl) (by simp) ?_
        refine AllReadyH.cons rfl (fun K hK => ?_) AllReadyH.nil
        go_simp
        refine (ex_hasB ia ka lna ta ic kc lnc tc s _ (Z1.sv.below hH.1) (unhide V1)).mono ?_
        rintro e9 u145 ⟨v144, rfl, P143, B146⟩
        replace L95 := L95.below B146
        replace L119 := L119.below B146
        replace L137 := L137.below B146
        refine hK.out _ _ (unhide HKK _ (below_trans' hH.1 B146)) (fun hH9 => ?_)
        clear hH
        have hH := hH9
        clear hH9 hK K
        clear B146
        refine wpAnyH_ready (rs := [26]) (by kernel_rfl) (by simp) ?_
        refine AllReadyH.cons rfl (fun K hK => ?_) AllReadyH.nil
        go_simp
        refine (rsame_any _ _ [⟨0, [1]⟩, ⟨1, [0]⟩] [⟨0, [1]⟩, ⟨1, [0]⟩] _ P143 L137).mono ?_
        rintro e9 u147 ⟨rfl, B148⟩
        rw [Pt.eqs_refl]
        refine hK.out _ _ (unhide HKK _ (below_trans' hH.1 B148)) (fun hH9 => ?_)
        clear hH
        have hH := hH9
        clear hH9 hK K
        clear B148
        refine takeH (i := 27) (d := some 48) (v := .bool true) rfl rfl (by kernel_rfl) (by kernel_rfl) (by kernel_rfl) (fun _ _ _ h => h) (Or.inl ⟨by rfl, fun w9 hSw => ?_⟩) hH ?_
        · (try dsimp only at hSw); go_simp
        conv => arg 8; simp only [Act.put, List.setIfInBounds_toArray, List.set_cons_zero, List.set_cons_succ]
        refine takeH (i := 28) (d := some 49) (v := .bool true) rfl rfl (by kernel_rfl) (by kernel_rfl) (by kernel_rfl) (fun _ _ _ h => h) (Or.inl ⟨by rfl, fun w9 hSw => ?_⟩) hH ?_
        · (try dsimp only at hSw); go_simp
        conv => arg 8; simp only [Act.put, List.setIfInBounds_toArray, List.set_cons_zero, List.set_cons_succ]
        exact listH (by kernel_rfl) (by kernel_rfl) (unhide KA _ _ ⟨v144, .slice (some ⟨k98, 0, none⟩) 1 1, .agg #[.int .i64 0, .slice (some ⟨k98, 0, none⟩) 1 1], .slice (some ⟨k122, 0, none⟩) 1 1, .agg #[.int .i64 1, .slice (some ⟨k122, 0, none⟩) 1 1], .slice (some ⟨k140, 0, none⟩) 2 2, by kernel_rfl⟩ hH)
      refine AllReadyH.cons rfl (fun K hK => ?_) AllReadyH.nil
      go_simp
      have L149 := sl_one u 0
      have B151 := below_alloc u (.cells #[.int .i64 0] 3)
      obtain ⟨u150, hw153⟩ : ∃ u150, u150 = u.alloc (.cells #[.int .i64 0] 3) := ⟨_, rfl⟩
      rw [← hw153] at L149 B151 ⊢
      obtain ⟨k152, hk154⟩ : ∃ k152, u.heap.size = k152 := ⟨_, rfl⟩
      rw [hk154] at L149
      simp only [hk154]
      refine hK.out _ _ (unhide HKK _ (below_trans' hH.1 B151)) (fun hH9 => ?_)
      clear hH
      have hH := hH9
      clear hH9 hK K
      clear hw153 hk154 B151
      refine takeH (i := 24) (d := some 45) (v := .agg #[.int .i64 1, .slice (some ⟨k152, 0, none⟩) 1 1]) rfl rfl (by kernel_rfl) (by kernel_rfl) (by kernel_rfl) (fun _ _ _ h => h) (Or.inl ⟨by rfl, fun w9 hSw => ?_⟩) hH ?_
      · (try dsimp only at hSw); go_simp
      conv => arg 8; simp only [Act.put, List.setIfInBounds_toArray, List.set_cons_zero, List.set_cons_succ]
      refine wpAnyH_ready (rs := [20, 21]) (by kernel_rfl) (by simp) ?_
      refine AllReadyH.cons rfl (fun K hK => ?_) ?_
      · skip
        go_simp
        refine (ex_hasB ia ka lna ta ic kc lnc tc s _ (Z1.sv.below hH.1) (unhide V1)).mono ?_
        rintro e9 u157 ⟨v156, rfl, P155, B158⟩
        replace L149 := L149.below B158
        refine hK.out _ _ (unhide HKK _ (below_trans' hH.1 B158)) (fun hH9 => ?_)
        clear hH
        have hH := hH9
        clear hH9 hK K
        clear B158
        refine wpAnyH_ready (rs := [21]) (by kernel_rfl) (by simp) ?_
        refine AllReadyH.cons rfl (fun K hK => ?_) AllReadyH.nil
        go_simp
        have L159 := sl_one u157 1
        have B161 := below_alloc u157 (.cells #[.int .i64 1] 3)
        obtain ⟨u160, hw163⟩ : ∃ u160, u160 = u157.alloc (.cells #[.int .i64 1] 3) := ⟨_, rfl⟩
        rw [← hw163] at L159 B161 ⊢
        obtain ⟨k162, hk164⟩ : ∃ k162, u157.heap.size = k162 := ⟨_, rfl⟩
        rw [hk164] at L159
        simp only [hk164]
        replace L149 := L149.below B161
        replace P155 := P155.below B161
        refine hK.out _ _ (unhide HKK _ (below_trans' hH.1 B161)) (fun hH9 => ?_)
        clear hH
        have hH := hH9
        clear hH9 hK K
        clear hw163 hk164 B161
        refine takeH (i := 22) (d := some 43) (v := .agg #[.int .i64 0, .slice (some ⟨k162, 0, none⟩) 1 1]) rfl rfl (by kernel_rfl) (by kernel_rfl) (by kernel_rfl) (fun _ _ _ h => h) (Or.inl ⟨by rfl, fun w9 hSw => ?_⟩) hH ?_
        · (try dsimp only at hSw); go_simp
        conv => arg 8; simp only [Act.put, List.setIfInBounds_toArray, List.set_cons_zero, List.set_cons_succ]
        refine wpAnyH_ready (rs := [25]) (by kernel_rfl) (by simp) ?_
        refine AllReadyH.cons rfl (fun K hK => ?_) AllReadyH.nil
        go_simp
        have L165 := pl_two u160 k162 k152 L159 L149
        have B167 := below_alloc u160 (.cells #[.int .i64 0, .slice (some ⟨k162, 0, none⟩) 1 1, .int .i64 1, .slice (some ⟨k152, 0, none⟩) 1 1] 51)
        obtain ⟨u166, hw169⟩ : ∃ u166, u166 = u160.alloc (.cells #[.int .i64 0, .slice (some ⟨k162, 0, none⟩) 1 1, .int .i64 1, .slice (some ⟨k152, 0, none⟩) 1 1] 51) := ⟨_, rfl⟩
        rw [← hw169] at L165 B167 ⊢
        obtain ⟨k168, hk170⟩ : ∃ k168, u160.heap.size = k168 := ⟨_, rfl⟩
        rw [hk170] at L165
        simp only [hk170]
        replace L149 := L149.below B167
        replace P155 := P155.below B167
        replace L159 := L159.below B167
        refine hK.out _ _ (unhide HKK _ (below_trans' hH.1 B167)) (fun hH9 => ?_)
        clear hH
        have hH := hH9
        clear hH9 hK K
        clear hw169 hk170 B167
        refine wpAnyH_ready (rs := [26]) (by kernel_rfl) (by simp) ?_
        refine AllReadyH.cons rfl (fun K hK => ?_) AllReadyH.nil
        go_simp
        refine (rsame_any _ _ [⟨0, [1]⟩, ⟨1, [0]⟩] [⟨0, [1]⟩, ⟨1, [0]⟩] _ P155 L165).mono ?_
        rintro e9 u171 ⟨rfl, B172⟩
        rw [Pt.eqs_refl]
        refine hK.out _ _ (unhide HKK _ (below_trans' hH.1 B172)) (fun hH9 => ?_)
        clear hH
        have hH := hH9
        clear hH9 hK K
        clear B172
        refine takeH (i := 27) (d := some 48) (v := .bool true) rfl rfl (by kernel_rfl) (by kernel_rfl) (by kernel_rfl) (fun _ _ _ h => h) (Or.inl ⟨by rfl, fun w9 hSw => ?_⟩) hH ?_
        · (try dsimp only at hSw); go_simp
        conv => arg 8; simp only [Act.put, List.setIfInBounds_toArray, List.set_cons_zero, List.set_cons_succ]
        refine takeH (i := 28) (d := some 49) (v := .bool true) rfl rfl (by kernel_rfl) (by kernel_rfl) (by kernel_rfl) (fun _ _ _ h => h) (Or.inl ⟨by rfl, fun w9 hSw => ?_⟩) hH ?_
        · (try dsimp only at hSw); go_simp
        conv => arg 8; simp only [Act.put, List.setIfInBounds_toArray, List.set_cons_zero, List.set_cons_succ]
        exact listH (by kernel_rfl) (by kernel_rfl) (unhide KA _ _ ⟨v156, .slice (some ⟨k162, 0, none⟩) 1 1, .agg #[.int .i64 0, .slice (some ⟨k162, 0, none⟩) 1 1], .slice (some ⟨k152, 0, none⟩) 1 1, .agg #[.int .i64 1, .slice (some ⟨k152, 0, none⟩) 1 1], .slice (some ⟨k168, 0, none⟩) 2 2, by kernel_rfl⟩ hH)
      refine AllReadyH.cons rfl (fun K hK => ?_) AllReadyH.nil
      go_simp
      have L173 := sl_one u150 1
      have B175 := below_alloc u150 (.cells #[.int .i64 1] 3)
      obtain ⟨u174, hw177⟩ : ∃ u174, u174 = u150.alloc (.cells #[.int .i64 1] 3) := ⟨_, rfl⟩
      rw [← hw177] at L173 B175 ⊢
      obtain ⟨k176, hk178⟩ : ∃ k176, u150.heap.size = k176 := ⟨_, rfl⟩
      rw [hk178] at L173
      simp only [hk178]
      replace L149 := L149.below B175
      refine hK.out _ _ (unhide HKK _ (below_trans' hH.1 B175)) (fun hH9 => ?_)
      clear hH
      have hH := hH9
      clear hH9 hK K
      clear hw177 hk178 B175
      refine takeH (i := 22) (d := some 43) (v := .agg #[.int .i64 0, .slice (some ⟨k176, 0, none⟩) 1 1]) rfl rfl (by kernel_rfl) (by kernel_rfl) (by kernel_rfl) (fun _ _ _ h => h) (Or.inl ⟨by rfl, fun w9 hSw => ?_⟩) hH ?_
      · (try dsimp only at hSw); go_simp
      conv => arg 8; simp only [Act.put, List.setIfInBounds_toArray, List.set_cons_zero, List.set_cons_succ]
      refine wpAnyH_ready (rs := [20, 25]) (by kernel_rfl) (by simp) ?_
      refine AllReadyH.cons rfl (fun K hK => ?_) ?_
      · skip
        go_simp
        refine (ex_hasB ia ka lna ta ic kc lnc tc s _ (Z1.sv.below hH.1) (unhide V1)).mono ?_
        rintro e9 u181 ⟨v180, rfl, P179, B182⟩
        replace L149 := L149.below B182
        replace L173 := L173.below B182
        refine hK.out _ _ (unhide HKK _ (below_trans' hH.1 B182)) (fun hH9 => ?_)
        clear hH
        have hH := hH9
        clear hH9 hK K
        clear B182
        refine wpAnyH_ready (rs := [25]) (by kernel_rfl) (by simp) ?_
        refine AllReadyH.cons rfl (fun K hK => ?_) AllReadyH.nil
        go_simp
        have L183 := pl_two u181 k176 k152 L173 L149
        have B185 := below_alloc u181 (.cells #[.int .i64 0, .slice (some ⟨k176, 0, none⟩) 1 1, .int .i64 1, .slice (some ⟨k152, 0, none⟩) 1 1] 51)
        obtain ⟨u184, hw187⟩ : ∃ u184, u184 = u181.alloc (.cells #[.int .i64 0, .slice (some ⟨k176, 0, none⟩) 1 1, .int .i64 1, .slice (some ⟨k152, 0, none⟩) 1 1] 51) := ⟨_, rfl⟩
        rw [← hw187] at L183 B185 ⊢
        obtain ⟨k186, hk188⟩ : ∃ k186, u181.heap.size = k186 := ⟨_, rfl⟩
        rw [hk188] at L183
        simp only [hk188]
        replace L149 := L149.below B185
        replace L173 := L173.below B185
        replace P179 := P179.below B185
        refine hK.out _ _ (unhide HKK _ (below_trans' hH.1 B185)) (fun hH9 => ?_)
        clear hH
        have hH := hH9
        clear hH9 hK K
        clear hw187 hk188 B185
        refine wpAnyH_ready (rs := [26]) (by kernel_rfl) (by simp) ?_
        refine AllReadyH.cons rfl (fun K hK => ?_) AllReadyH.nil
        go_simp
        refine (rsame_any _ _ [⟨0, [1]⟩, ⟨1, [0]⟩] [⟨0, [1]⟩, ⟨1, [0]⟩] _ P179 L183).mono ?_
        rintro e9 u189 ⟨rfl, B190⟩
        rw [Pt.eqs_refl]
        refine hK.out _ _ (unhide HKK _ (below_trans' hH.1 B190)) (fun hH9 => ?_)
        clear hH
        have hH := hH9
        clear hH9 hK K
        clear B190
        refine takeH (i := 27) (d := some 48) (v := .bool true) rfl rfl (by kernel_rfl) (by kernel_rfl) (by kernel_rfl) (fun _ _ _ h => h) (Or.inl ⟨by rfl, fun w9 hSw => ?_⟩) hH ?_
        · (try dsimp only at hSw); go_simp
        conv => arg 8; simp only [Act.put, List.setIfInBounds_toArray, List.set_cons_zero, List.set_cons_succ]
        refine takeH (i := 28) (d := some 49) (v := .bool true) rfl rfl (by kernel_rfl) (by kernel_rfl) (by kernel_rfl) (fun _ _ _ h => h) (Or.inl ⟨by rfl, fun w9 hSw => ?_⟩) hH ?_
        · (try dsimp only at hSw); go_simp
        conv => arg 8; simp only [Act.put, List.setIfInBounds_toArray, List.set_cons_zero, List.set_cons_succ]
        exact listH (by kernel_rfl) (by kernel_rfl) (unhide KA _ _ ⟨v180, .slice (some ⟨k176, 0, none⟩) 1 1, .agg #[.int .i64 0, .slice (some ⟨k176, 0, none⟩) 1 1], .slice (some ⟨k152, 0, none⟩) 1 1, .agg #[.int .i64 1, .slice (some ⟨k152, 0, none⟩) 1 1], .slice (some ⟨k186, 0, none⟩) 2 2, by kernel_rfl⟩ hH)
      refine AllReadyH.cons rfl (fun K hK => ?_) AllReadyH.nil
      go_simp
      have L191 := pl_two u174 k176 k152 L173 L149
      have B193 := below_alloc u174 (.cells #[.int .i64 0, .slice (some ⟨k176, 0, none⟩) 1 1, .int .i64 1, .slice (some ⟨k152, 0, none⟩) 1 1] 51)
      obtain ⟨u192, hw195⟩ : ∃ u192, u192 = u174.alloc (.cells #[.int .i64 0, .slice (some ⟨k176, 0, none⟩) 1 1, .int .i64 1, .slice (some ⟨k152, 0, none⟩) 1 1] 51) := ⟨_, rfl⟩
      rw [← hw195] at L191 B193 ⊢
      obtain ⟨k194, hk196⟩ : ∃ k194, u174.heap.size = k194 := ⟨_, rfl⟩
      rw [hk196] at L191
      simp only [hk196]
      replace L149 := L149.below B193
      replace L173 := L173.below B193
      refine hK.out _ _ (unhide HKK _ (below_trans' hH.1 B193)) (fun hH9 => ?_)
      clear hH
      have hH := hH9
      clear hH9 hK K
      clear hw195 hk196 B193
      refine wpAnyH_ready (rs := [20]) (by kernel_rfl) (by simp) ?_
      refine AllReadyH.cons rfl (fun K hK => ?_) AllReadyH.nil
      go_simp
      refine (ex_hasB ia ka lna ta ic kc lnc tc s _ (Z1.sv.below hH.1) (unhide V1)).mono ?_
      rintro e9 u199 ⟨v198, rfl, P197, B200⟩
      replace L149 := L149.below B200
      replace L173 := L173.below B200
      replace L191 := L191.below B200
      refine hK.out _ _ (unhide HKK _ (below_trans' hH.1 B200)) (fun hH9 => ?_)
      clear hH
      have hH := hH9
      clear hH9 hK K
      clear B200
      refine wpAnyH_ready (rs := [26]) (by kernel_rfl) (by simp) ?_
      refine AllReadyH.cons rfl (fun K hK => ?_) AllReadyH.nil
      go_simp
      refine (rsame_any _ _ [⟨0, [1]⟩, ⟨1, [0]⟩] [⟨0, [1]⟩, ⟨1, [0]⟩] _ P197 L191).mono ?_
      rintro e9 u201 ⟨rfl, B202⟩
      rw [Pt.eqs_refl]
      refine hK.out _ _ (unhide HKK _ (below_trans' hH.1 B202)) (fun hH9 => ?_)
      clear hH
      have hH := hH9
      clear hH9 hK K
      clear B202
      refine takeH (i := 27) (d := some 48) (v := .bool true) rfl rfl (by kernel_rfl) (by kernel_rfl) (by kernel_rfl) (fun _ _ _ h => h) (Or.inl ⟨by rfl, fun w9 hSw => ?_⟩) hH ?_
      · (try dsimp only at hSw); go_simp
      conv => arg 8; simp only [Act.put, List.setIfInBounds_toArray, List.set_cons_zero, List.set_cons_succ]
      refine takeH (i := 28) (d := some 49) (v := .bool true) rfl rfl (by kernel_rfl) (by kernel_rfl) (by kernel_rfl) (fun _ _ _ h => h) (Or.inl ⟨by rfl, fun w9 hSw => ?_⟩) hH ?_
      · (try dsimp only at hSw); go_simp
      conv => arg 8; simp only [Act.put, List.setIfInBounds_toArray, List.set_cons_zero, List.set_cons_succ]
      exact listH (by kernel_rfl) (by kernel_rfl) (unhide KA _ _ ⟨v198, .slice (some ⟨k176, 0, none⟩) 1 1, .agg #[.int .i64 0, .slice (some ⟨k176, 0, none⟩) 1 1], .slice (some ⟨k152, 0, none⟩) 1 1, .agg #[.int .i64 1, .slice (some ⟨k152, 0, none⟩) 1 1], .slice (some ⟨k194, 0, none⟩) 2 2, by kernel_rfl⟩ hH)
    · rintro a9 u ⟨x41, x42, x43, x44, x45, x46, rfl⟩ hH
      conv => arg 8; simp only [Act.put, List.setIfInBounds_toArray, List.set_cons_zero, List.set_cons_succ]
      refine takeH (i := 29) (d := some 50) (v := .pointer (some ⟨p2, 0, none⟩)) rfl rfl (by kernel_rfl) (by kernel_rfl) (by kernel_rfl) (fun _ _ _ h => h) (Or.inl ⟨by rfl, fun w9 hSw => ?_⟩) hH ?_
      · (try dsimp only at hSw); go_simp
      conv => arg 8; simp only [Act.put, List.setIfInBounds_toArray, List.set_cons_zero, List.set_cons_succ]
      refine takeH (i := 30) (d := some 51) (v := .slice ia2 t.ids.length ic2) rfl rfl (by kernel_rfl) (by kernel_rfl) (by kernel_rfl) (fun _ _ _ h => h) (Or.inl ⟨by rfl, fun w9 hSw => ?_⟩) hH ?_
      · (try dsimp only at hSw); go_simp
      conv => arg 8; simp only [Act.put, List.setIfInBounds_toArray, List.set_cons_zero, List.set_cons_succ]
      refine wpAnyH_ready (rs := [31]) (by kernel_rfl) (by simp) ?_
      refine AllReadyH.cons rfl (fun K hK => ?_) AllReadyH.nil
      go_simp
      have L203 := lits_i u
      have B205 := below_alloc u (.cells #[.string ⟨#[121]⟩, .string ⟨#[120]⟩] 9)
      obtain ⟨u204, hw207⟩ : ∃ u204, u204 = u.alloc (.cells #[.string ⟨#[121]⟩, .string ⟨#[120]⟩] 9) := ⟨_, rfl⟩
      rw [← hw207] at L203 B205 ⊢
      obtain ⟨k206, hk208⟩ : ∃ k206, u.heap.size = k206 := ⟨_, rfl⟩
      rw [hk208] at L203
      simp only [hk208]
      refine hK.out _ _ (unhide HKK _ (below_trans' hH.1 B205)) (fun hH9 => ?_)
      clear hH
      have hH := hH9
      clear hH9 hK K
      clear hw207 hk208 B205
      refine wpAnyH_ready (rs := [32]) (by kernel_rfl) (by simp) ?_
      refine AllReadyH.cons rfl (fun K hK => ?_) AllReadyH.nil
      go_simp
      refine (texts_any _ _ t.ids [⟨#[121]⟩, ⟨#[120]⟩] _ (Z2.sv.below hH.1).1 L203 true (by rw [unhide EI]; rfl)).mono ?_
      rintro e9 u209 ⟨rfl, B210⟩
      refine hK.out _ _ (unhide HKK _ (below_trans' hH.1 B210)) (fun hH9 => ?_)
      clear hH
      have hH := hH9
      clear hH9 hK K
      clear B210
      refine takeH (i := 33) (d := some 54) (v := .bool true) rfl rfl (by kernel_rfl) (by kernel_rfl) (by kernel_rfl) (fun _ _ _ h => h) (Or.inl ⟨by rfl, fun w9 hSw => ?_⟩) hH ?_
      · (try dsimp only at hSw); go_simp
      conv => arg 8; simp only [Act.put, List.setIfInBounds_toArray, List.set_cons_zero, List.set_cons_succ]
      refine takeH (i := 34) (d := some 55) (v := .bool true) rfl rfl (by kernel_rfl) (by kernel_rfl) (by kernel_rfl) (fun _ _ _ h => h) (Or.inl ⟨by rfl, fun w9 hSw => ?_⟩) hH ?_
      · (try dsimp only at hSw); go_simp
      conv => arg 8; simp only [Act.put, List.setIfInBounds_toArray, List.set_cons_zero, List.set_cons_succ]
      refine takeH (i := 35) (d := some 56) (v := .agg #[.slice ia2 t.ids.length ic2, .slice ka2 t.keys.length kc2, .slice lna2 t.lens.length lnc2, .slice ta2 t.ts.length tc2, .bool true]) rfl rfl (by kernel_rfl) (by kernel_rfl) (by kernel_rfl) (fun _ _ _ h => h) (Or.inl ⟨by rfl, fun w9 hSw => ?_⟩) hH ?_
      · (try dsimp only at hSw); go_simp
      conv => arg 8; simp only [Act.put, List.setIfInBounds_toArray, List.set_cons_zero, List.set_cons_succ]
      refine wpAnyH_ready (rs := [36]) (by kernel_rfl) (by simp) ?_
      refine AllReadyH.cons rfl (fun K hK => ?_) AllReadyH.nil
      go_simp
      refine (ex_find ia2 ka2 lna2 ta2 ic2 kc2 lnc2 tc2 t _ (Z2.sv.below hH.1) (unhide V2)).mono ?_
      rintro e9 u211 ⟨rfl, B212⟩
      refine hK.out _ _ (unhide HKK _ (below_trans' hH.1 B212)) (fun hH9 => ?_)
      clear hH
      have hH := hH9
      clear hH9 hK K
      clear B212
      refine takeH (i := 37) (d := some 58) (v := .bool true) rfl rfl (by kernel_rfl) (by kernel_rfl) (by kernel_rfl) (fun _ _ _ h => h) (Or.inl ⟨by rfl, fun w9 hSw => ?_⟩) hH ?_
      · (try dsimp only at hSw); go_simp
      conv => arg 8; simp only [Act.put, List.setIfInBounds_toArray, List.set_cons_zero, List.set_cons_succ]
      refine takeH (i := 38) (d := some 59) (v := .bool true) rfl rfl (by kernel_rfl) (by kernel_rfl) (by kernel_rfl) (fun _ _ _ h => h) (Or.inl ⟨by rfl, fun w9 hSw => ?_⟩) hH ?_
      · (try dsimp only at hSw); go_simp
      conv => arg 8; simp only [Act.put, List.setIfInBounds_toArray, List.set_cons_zero, List.set_cons_succ]
      refine takeH (i := 39) (d := some 60) (v := .bool true) rfl rfl (by kernel_rfl) (by kernel_rfl) (by kernel_rfl) (fun _ _ _ h => h) (Or.inl ⟨by rfl, fun w9 hSw => ?_⟩) hH ?_
      · (try dsimp only at hSw); go_simp
      conv => arg 8; simp only [Act.put, List.setIfInBounds_toArray, List.set_cons_zero, List.set_cons_succ]
      refine takeH (i := 40) (d := some 61) (v := .agg #[.slice ia s.ids.length ic, .slice ka s.keys.length kc, .slice lna s.lens.length lnc, .slice ta s.ts.length tc, .bool false]) rfl rfl (by kernel_rfl) (by kernel_rfl) (by kernel_rfl) (fun _ _ _ h => h) (Or.inl ⟨by rfl, fun w9 hSw => ?_⟩) hH ?_
      · (try dsimp only at hSw); go_simp
      conv => arg 8; simp only [Act.put, List.setIfInBounds_toArray, List.set_cons_zero, List.set_cons_succ]
      refine takeH (i := 41) (d := some 62) (v := .agg #[.slice ia s.ids.length ic, .slice ka s.keys.length kc, .slice lna s.lens.length lnc, .slice ta s.ts.length tc, .bool false]) rfl rfl (by kernel_rfl) (by kernel_rfl) (by kernel_rfl) (fun _ _ _ h => h) (Or.inl ⟨by rfl, fun w9 hSw => ?_⟩) hH ?_
      · (try dsimp only at hSw); go_simp
      conv => arg 8; simp only [Act.put, List.setIfInBounds_toArray, List.set_cons_zero, List.set_cons_succ]
      refine wpAnyH_ready (rs := [42]) (by kernel_rfl) (by simp) ?_
      refine AllReadyH.cons rfl (fun K hK => ?_) AllReadyH.nil
      go_simp
      refine (segSame_any ia ka lna ta ic kc lnc tc s false ia ka lna ta ic kc lnc tc _ (Z1.sv.below hH.1) (Z1.sv.below hH.1)).mono ?_
      rintro e9 u213 ⟨rfl, B214⟩
      refine hK.out _ _ (unhide HKK _ (below_trans' hH.1 B214)) (fun hH9 => ?_)
      clear hH
      have hH := hH9
      clear hH9 hK K
      clear B214
      refine takeH (i := 43) (d := some 64) (v := .bool true) rfl rfl (by kernel_rfl) (by kernel_rfl) (by kernel_rfl) (fun _ _ _ h => h) (Or.inl ⟨by rfl, fun w9 hSw => ?_⟩) hH ?_
      · (try dsimp only at hSw); go_simp
      conv => arg 8; simp only [Act.put, List.setIfInBounds_toArray, List.set_cons_zero, List.set_cons_succ]
      refine takeH (i := 44) (d := some 65) (v := .bool true) rfl rfl (by kernel_rfl) (by kernel_rfl) (by kernel_rfl) (fun _ _ _ h => h) (Or.inl ⟨by rfl, fun w9 hSw => ?_⟩) hH ?_
      · (try dsimp only at hSw); go_simp
      conv => arg 8; simp only [Act.put, List.setIfInBounds_toArray, List.set_cons_zero, List.set_cons_succ]
      refine takeH (i := 45) (d := some 66) (v := .slice (some ⟨g, 0, none⟩) 2 2) rfl rfl (by kernel_rfl) (by kernel_rfl) (by kernel_rfl) (fun _ _ _ h => h) (Or.inl ⟨by rfl, fun w9 hSw => ?_⟩) hH ?_
      · (try dsimp only at hSw); go_simp
      conv => arg 8; simp only [Act.put, List.setIfInBounds_toArray, List.set_cons_zero, List.set_cons_succ]
      refine takeH (i := 46) (d := some 67) (v := .pointer (some ⟨g, 3, none⟩)) rfl rfl (by kernel_rfl) (by kernel_rfl) (by kernel_rfl) (fun _ _ _ h => h) (Or.inl ⟨by rfl, fun w9 hSw => ?_⟩) hH ?_
      · (try dsimp only at hSw); go_simp
      conv => arg 8; simp only [Act.put, List.setIfInBounds_toArray, List.set_cons_zero, List.set_cons_succ]
      refine takeH (i := 47) (d := some 68) (v := .agg #[.string ⟨#[121]⟩, .int .i64 1, .slice (some ⟨q2, 0, none⟩) 1 1]) rfl rfl (by kernel_rfl) (by kernel_rfl) (by kernel_rfl) (fun _ _ _ h => h) (Or.inl ⟨by rfl, fun w9 hSw => ?_⟩) hH ?_
      · (try dsimp only at hSw); go_simp
      conv => arg 8; simp only [Act.put, List.setIfInBounds_toArray, List.set_cons_zero, List.set_cons_succ]
      refine takeH (i := 48) (d := some 69) (v := .slice (some ⟨g, 0, none⟩) 2 2) rfl rfl (by kernel_rfl) (by kernel_rfl) (by kernel_rfl) (fun _ _ _ h => h) (Or.inl ⟨by rfl, fun w9 hSw => ?_⟩) hH ?_
      · (try dsimp only at hSw); go_simp
      conv => arg 8; simp only [Act.put, List.setIfInBounds_toArray, List.set_cons_zero, List.set_cons_succ]
      refine takeH (i := 49) (d := some 70) (v := .pointer (some ⟨g, 0, none⟩)) rfl rfl (by kernel_rfl) (by kernel_rfl) (by kernel_rfl) (fun _ _ _ h => h) (Or.inl ⟨by rfl, fun w9 hSw => ?_⟩) hH ?_
      · (try dsimp only at hSw); go_simp
      conv => arg 8; simp only [Act.put, List.setIfInBounds_toArray, List.set_cons_zero, List.set_cons_succ]
      refine takeH (i := 50) (d := some 71) (v := .agg #[.string ⟨#[120]⟩, .int .i64 2, .slice (some ⟨q1, 0, none⟩) 3 3]) rfl rfl (by kernel_rfl) (by kernel_rfl) (by kernel_rfl) (fun _ _ _ h => h) (Or.inl ⟨by rfl, fun w9 hSw => ?_⟩) hH ?_
      · (try dsimp only at hSw); go_simp
      conv => arg 8; simp only [Act.put, List.setIfInBounds_toArray, List.set_cons_zero, List.set_cons_succ]
      refine wpAnyH_ready (rs := [51]) (by kernel_rfl) (by simp) ?_
      refine AllReadyH.cons rfl (fun K hK => ?_) AllReadyH.nil
      go_simp
      refine (ex_before q1 q2 _).mono ?_
      rintro e9 u215 ⟨rfl, B216⟩
      refine hK.out _ _ (unhide HKK _ (below_trans' hH.1 B216)) (fun hH9 => ?_)
      clear hH
      have hH := hH9
      clear hH9 hK K
      clear B216
      refine takeH (i := 52) (d := some 73) (v := .bool true) rfl rfl (by kernel_rfl) (by kernel_rfl) (by kernel_rfl) (fun _ _ _ h => h) (Or.inl ⟨by rfl, fun w9 hSw => ?_⟩) hH ?_
      · (try dsimp only at hSw); go_simp
      conv => arg 8; simp only [Act.put, List.setIfInBounds_toArray, List.set_cons_zero, List.set_cons_succ]
      refine takeH (i := 53) (d := some 74) (v := .bool true) rfl rfl (by kernel_rfl) (by kernel_rfl) (by kernel_rfl) (fun _ _ _ h => h) (Or.inl ⟨by rfl, fun w9 hSw => ?_⟩) hH ?_
      · (try dsimp only at hSw); go_simp
      conv => arg 8; simp only [Act.put, List.setIfInBounds_toArray, List.set_cons_zero, List.set_cons_succ]
      refine takeH (i := 54) (d := some 75) (v := .agg #[.slice ia s.ids.length ic, .slice ka s.keys.length kc, .slice lna s.lens.length lnc, .slice ta s.ts.length tc, .bool false]) rfl rfl (by kernel_rfl) (by kernel_rfl) (by kernel_rfl) (fun _ _ _ h => h) (Or.inl ⟨by rfl, fun w9 hSw => ?_⟩) hH ?_
      · (try dsimp only at hSw); go_simp
      conv => arg 8; simp only [Act.put, List.setIfInBounds_toArray, List.set_cons_zero, List.set_cons_succ]
      refine wpAnyH_ready (rs := [55]) (by kernel_rfl) (by simp) ?_
      refine AllReadyH.cons rfl (fun K hK => ?_) AllReadyH.nil
      go_simp
      refine (ex_words ia ka lna ta ic kc lnc tc s _ (Z1.sv.below hH.1) (unhide V1)).mono ?_
      rintro e9 u217 ⟨wa, wc, rfl, B218⟩
      refine hK.out _ _ (unhide HKK _ (below_trans' hH.1 B218)) (fun hH9 => ?_)
      clear hH
      have hH := hH9
      clear hH9 hK K
      clear B218
      refine takeH (i := 56) (d := some 77) (v := .int .i64 3) rfl rfl (by kernel_rfl) (by kernel_rfl) (by kernel_rfl) (fun _ _ _ h => h) (Or.inl ⟨by rfl, fun w9 hSw => ?_⟩) hH ?_
      · (try dsimp only at hSw); go_simp
      conv => arg 8; simp only [Act.put, List.setIfInBounds_toArray, List.set_cons_zero, List.set_cons_succ]
      refine takeH (i := 57) (d := some 78) (v := .bool true) rfl rfl (by kernel_rfl) (by kernel_rfl) (by kernel_rfl) (fun _ _ _ h => h) (Or.inl ⟨by rfl, fun w9 hSw => ?_⟩) hH ?_
      · (try dsimp only at hSw); go_simp
      conv => arg 8; simp only [Act.put, List.setIfInBounds_toArray, List.set_cons_zero, List.set_cons_succ]
      refine takeH (i := 58) (d := some 79) (v := .bool true) rfl rfl (by kernel_rfl) (by kernel_rfl) (by kernel_rfl) (fun _ _ _ h => h) (Or.inl ⟨by rfl, fun w9 hSw => ?_⟩) hH ?_
      · (try dsimp only at hSw); go_simp
      conv => arg 8; simp only [Act.put, List.setIfInBounds_toArray, List.set_cons_zero, List.set_cons_succ]
      refine takeH (i := 59) (d := some 80) (v := .bool true) rfl rfl (by kernel_rfl) (by kernel_rfl) (by kernel_rfl) (fun _ _ _ h => h) (Or.inl ⟨by rfl, fun w9 hSw => ?_⟩) hH ?_
      · (try dsimp only at hSw); go_simp
      conv => arg 8; simp only [Act.put, List.setIfInBounds_toArray, List.set_cons_zero, List.set_cons_succ]
      refine takeH (i := 60) (d := some 81) (v := .agg #[.slice ia s.ids.length ic, .slice ka s.keys.length kc, .slice lna s.lens.length lnc, .slice ta s.ts.length tc, .bool false]) rfl rfl (by kernel_rfl) (by kernel_rfl) (by kernel_rfl) (fun _ _ _ h => h) (Or.inl ⟨by rfl, fun w9 hSw => ?_⟩) hH ?_
      · (try dsimp only at hSw); go_simp
      conv => arg 8; simp only [Act.put, List.setIfInBounds_toArray, List.set_cons_zero, List.set_cons_succ]
      refine wpAnyH_ready (rs := [61]) (by kernel_rfl) (by simp) ?_
      refine AllReadyH.cons rfl (fun K hK => ?_) AllReadyH.nil
      go_simp
      refine (ex_cards ia ka lna ta ic kc lnc tc s _ (Z1.sv.below hH.1) (unhide V1)).mono ?_
      rintro e9 u219 ⟨ca, cc, rfl, B220⟩
      refine hK.out _ _ (unhide HKK _ (below_trans' hH.1 B220)) (fun hH9 => ?_)
      clear hH
      have hH := hH9
      clear hH9 hK K
      clear B220
      refine takeH (i := 62) (d := some 83) (v := .int .i64 2) rfl rfl (by kernel_rfl) (by kernel_rfl) (by kernel_rfl) (fun _ _ _ h => h) (Or.inl ⟨by rfl, fun w9 hSw => ?_⟩) hH ?_
      · (try dsimp only at hSw); go_simp
      conv => arg 8; simp only [Act.put, List.setIfInBounds_toArray, List.set_cons_zero, List.set_cons_succ]
      refine takeH (i := 63) (d := some 84) (v := .bool true) rfl rfl (by kernel_rfl) (by kernel_rfl) (by kernel_rfl) (fun _ _ _ h => h) (Or.inl ⟨by rfl, fun w9 hSw => ?_⟩) hH ?_
      · (try dsimp only at hSw); go_simp
      conv => arg 8; simp only [Act.put, List.setIfInBounds_toArray, List.set_cons_zero, List.set_cons_succ]
      refine takeH (i := 64) (d := some 85) (v := .bool true) rfl rfl (by kernel_rfl) (by kernel_rfl) (by kernel_rfl) (fun _ _ _ h => h) (Or.inl ⟨by rfl, fun w9 hSw => ?_⟩) hH ?_
      · (try dsimp only at hSw); go_simp
      conv => arg 8; simp only [Act.put, List.setIfInBounds_toArray, List.set_cons_zero, List.set_cons_succ]
      refine takeH (i := 65) (d := some 0) (v := .bool true) rfl rfl (by kernel_rfl) (by kernel_rfl) (by kernel_rfl) (fun _ _ _ h => h) (Or.inl ⟨by rfl, fun w9 hSw => ?_⟩) hH ?_
      · (try dsimp only at hSw); go_simp
      conv => arg 8; simp only [Act.put, List.setIfInBounds_toArray, List.set_cons_zero, List.set_cons_succ]
      refine wpAnyH_done (by kernel_rfl) ?_ _
      have BE := below_trans' BB hH.1
      go_wp2
      go_ret
      exact ⟨rfl, BE⟩
end Go.Proofs.Ytonhehhmnobciaa
