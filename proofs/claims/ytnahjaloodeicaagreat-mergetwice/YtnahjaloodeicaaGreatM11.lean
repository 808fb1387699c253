/-
  Texts put together: Each10, Table10, Alike10, Then10.
-/
import Derived.Test.YtnahjaloodeicaaGreatM09
import Derived.Test.YtnahjaloodeicaaGreatM07
import Derived.Test.YtnahjaloodeicaaGreatM10
/-
  The contract of each: the list of what is told of each of so many, whoever tells it; what the teller keeps, and changes, is a letter here.
-/
namespace Go.Proofs.YtnahjaloodeicaaGreat
set_option maxRecDepth 100000
open Go.RowKit Go.Deep

theorem Tryz.infoI10 : (Tryz.prog.info? 3).map (fun i => (i.zero, i.size, i.bytes)) = some (some (.int .i64 0), 1, 8) := by kernel_rfl

theorem grown10_refl (w : World) (row : Option Nat) : w.grownBy w row := ⟨rfl, rfl, rfl, Nat.le_refl _, fun _ _ _ => rfl⟩
theorem grown10_bel {w w1 w2 : World} {row : Option Nat} (h : w.grownBy w1 row) (hb : Below w.heap.size w1 w2) : w.grownBy w2 row :=
  ⟨hb.os.trans h.os, hb.tape.trans h.tape, hb.output.trans h.output, Nat.le_trans h.size hb.size, fun k hk hne => (hb.block k hk).trans (h.block k hk hne)⟩
theorem grown10_none {w w1 : World} (h : w.grownBy w1 none) : Below w.heap.size w w1 := ⟨h.os, h.tape, h.output, h.size, fun k hk => h.block k hk (by simp)⟩
theorem own10_far {w w' : World} {B K n : Nat} {e : TypeId} {v : Value} {xs : List Value} {row : Option Nat} (h : w.ownsRow B e K v n xs) (hg : w.grownBy w' row) (hr : ∀ g, row = some g → g < B) : w'.ownsRow B e K v n xs := by
  refine ⟨h.1, ?_⟩
  rcases h.2 with h0 | ⟨g, cap, cur, rfl, hb, hgg, rest⟩
  · exact .inl h0
  · refine .inr ⟨g, cap, cur, rfl, hb, ?_, rest⟩
    rw [hg.block g (Array.getElem?_eq_some_iff.1 hgg).1 (fun e => by have := hr g e.symm; omega)]
    exact hgg

/-- What each hands back. -/
def Eached (w : World) (n : Nat) (F : Nat → Int) (row : Option Nat) (Inv : Nat → World → Prop) (e : Ending) (w' : World) : Prop :=
  e = .returned (.slice (some ⟨w.heap.size, 0, none⟩) n n) ∧ w'.ownsRow w.heap.size 3 1 (.slice (some ⟨w.heap.size, 0, none⟩) n n) n (((List.range n).map F).map (Value.int .i64)) ∧ Inv n w' ∧ w.grownBy w' row

set_option maxHeartbeats 1000000 in
theorem eachT_any (a b : Addr) (n : Nat) (hn : n ≤ 9223372036854775807) (hn2 : n ≤ 17592186044416) (F : Nat → Int) (row : Option Nat) (Inv : Nat → World → Prop) (w : World) (hrow : ∀ g, row = some g → g < w.heap.size) (h0 : Inv 0 w) (hkeep : ∀ i w1 w2, Inv i w1 → Below w.heap.size w1 w2 → Inv i w2)
    (hcall : ∀ i, i < n → ∀ w1, Inv i w1 → w.grownBy w1 row → Calls Tryz.prog 115 #[.int .i64 (i : Int), .pointer (some a), .pointer (some b)] w1 fun e w2 => e = .returned (.int .i64 (F i)) ∧ Inv (i + 1) w2 ∧ w1.grownBy w2 row) :
    Calls Tryz.prog 114 #[.int .i64 (n : Int), .func (.func 115) #[] #[.pointer (some a), .pointer (some b)]] w (Eached w n F row Inv) := by
  have hmk := run_make_row' (P := Tryz.prog) 27 3 (.int .i64 0) 8 Tryz.underlying27 Tryz.infoI10 rfl .i64 .i64 n (by omega) (by omega)
  have HC := hide hcall
  have HK := hide hkeep
  have HI := hide h0
  clear hcall hkeep h0
  go_enter Tryz.func114, Tryz.ntmps114
  go_wp2
  go_loopw [11] (fun iv wr => ∃ (j : Nat) (X : List Int), j ≤ n ∧ iv = .int .i64 j ∧ X.length = n ∧ Fill F X j ∧
      wr.ownsRow w.heap.size 3 1 (.slice (some ⟨w.heap.size, 0, none⟩) n n) X.length (X.map (Value.int .i64)) ∧ Hid (Inv j wr) ∧ w.grownBy wr row) (fun iv _ => n - (intOf iv).toNat)
  case atStart => exact ⟨0, List.replicate n 0, Nat.zero_le _, rfl, by simp, (fun i hi => by omega), made_own w _ (0 : Int) n (by unfold maxLen; omega), hide (unhide HK 0 _ _ (unhide HI) (below_alloc _ _)), grown10_bel (grown10_refl w row) (below_alloc _ _)⟩
  case round =>
    obtain ⟨j, X, hj, rfl, hX, hF, hown, HJ, hg⟩ := hrel
    have HX := hide hX
    have HF := hide hF
    have hsz := hg.size
    have HG := hide hg
    clear hX hF hmk hg
    by_cases hlt : j < n
    · have CC := unhide HC j hlt wr (unhide HJ) (unhide HG)
      have HO := hide hown
      clear hown
      go_wp2_with fail
      refine CC.mono ?_
      rintro e w2 ⟨rfl, I2, G2⟩
      have O2 := own10_far (unhide HO) G2 hrow
      have hz := own_froz O2 (unhide HX).symm j
      obtain ⟨x, hx⟩ : ∃ x, X[j]? = some x := ⟨X[j]'(by rw [unhide HX]; exact hlt), List.getElem?_eq_getElem _⟩
      have c1 := own_at O2 (unhide HX).symm hx
      have O3 := own_put O2 (unhide HX).symm j (F j)
      have B3 : Below w.heap.size w2 (w2.setCell ⟨w.heap.size, j, none⟩ (.int .i64 (F j))) := (Below.refl w.heap.size w2).setCell (p := ⟨w.heap.size, j, none⟩) (Nat.le_refl _) _
      have J3 := hide (unhide HK _ _ _ I2 B3)
      have G3 := hide (grown10_bel ((unhide HG).trans G2) B3)
      have HO3 := hide O3
      clear hx O2 B3 I2 G2 CC O3
      go_wp2
      go_roundw
      case rel => exact ⟨j + 1, X.set j (F j), by omega, by go_num, by simp [unhide HX], Fill.set (unhide HF) (by rw [unhide HX]; exact hlt), unhide HO3, J3, unhide G3⟩
      case measure => simp [intOf]; omega
    · go_wp2
      go_ret
      have ej : j = n := by omega
      subst ej
      have e : X = (List.range j).map F := Fill.done (unhide HF) (unhide HX)
      refine ⟨rfl, ?_, unhide HJ, unhide HG⟩
      rw [← e]
      have := hown
      rw [unhide HX] at this
      exact this

set_option maxHeartbeats 1000000 in
theorem eachP_any (n : Nat) (hn : n ≤ 9223372036854775807) (hn2 : n ≤ 17592186044416) (F : Nat → Int) (row : Option Nat) (Inv : Nat → World → Prop) (w : World) (hrow : ∀ g, row = some g → g < w.heap.size) (h0 : Inv 0 w) (hkeep : ∀ i w1 w2, Inv i w1 → Below w.heap.size w1 w2 → Inv i w2)
    (hcall : ∀ i, i < n → ∀ w1, Inv i w1 → w.grownBy w1 row → Calls Tryz.prog 120 #[.int .i64 (i : Int)] w1 fun e w2 => e = .returned (.int .i64 (F i)) ∧ Inv (i + 1) w2 ∧ w1.grownBy w2 row) :
    Calls Tryz.prog 114 #[.int .i64 (n : Int), .func (.func 120) #[] #[]] w (Eached w n F row Inv) := by
  have hmk := run_make_row' (P := Tryz.prog) 27 3 (.int .i64 0) 8 Tryz.underlying27 Tryz.infoI10 rfl .i64 .i64 n (by omega) (by omega)
  have HC := hide hcall
  have HK := hide hkeep
  have HI := hide h0
  clear hcall hkeep h0
  go_enter Tryz.func114, Tryz.ntmps114
  go_wp2
  go_loopw [11] (fun iv wr => ∃ (j : Nat) (X : List Int), j ≤ n ∧ iv = .int .i64 j ∧ X.length = n ∧ Fill F X j ∧
      wr.ownsRow w.heap.size 3 1 (.slice (some ⟨w.heap.size, 0, none⟩) n n) X.length (X.map (Value.int .i64)) ∧ Hid (Inv j wr) ∧ w.grownBy wr row) (fun iv _ => n - (intOf iv).toNat)
  case atStart => exact ⟨0, List.replicate n 0, Nat.zero_le _, rfl, by simp, (fun i hi => by omega), made_own w _ (0 : Int) n (by unfold maxLen; omega), hide (unhide HK 0 _ _ (unhide HI) (below_alloc _ _)), grown10_bel (grown10_refl w row) (below_alloc _ _)⟩
  case round =>
    obtain ⟨j, X, hj, rfl, hX, hF, hown, HJ, hg⟩ := hrel
    have HX := hide hX
    have HF := hide hF
    have hsz := hg.size
    have HG := hide hg
    clear hX hF hmk hg
    by_cases hlt : j < n
    · have CC := unhide HC j hlt wr (unhide HJ) (unhide HG)
      have HO := hide hown
      clear hown
      go_wp2_with fail
      refine CC.mono ?_
      rintro e w2 ⟨rfl, I2, G2⟩
      have O2 := own10_far (unhide HO) G2 hrow
      have hz := own_froz O2 (unhide HX).symm j
      obtain ⟨x, hx⟩ : ∃ x, X[j]? = some x := ⟨X[j]'(by rw [unhide HX]; exact hlt), List.getElem?_eq_getElem _⟩
      have c1 := own_at O2 (unhide HX).symm hx
      have O3 := own_put O2 (unhide HX).symm j (F j)
      have B3 : Below w.heap.size w2 (w2.setCell ⟨w.heap.size, j, none⟩ (.int .i64 (F j))) := (Below.refl w.heap.size w2).setCell (p := ⟨w.heap.size, j, none⟩) (Nat.le_refl _) _
      have J3 := hide (unhide HK _ _ _ I2 B3)
      have G3 := hide (grown10_bel ((unhide HG).trans G2) B3)
      have HO3 := hide O3
      clear hx O2 B3 I2 G2 CC O3
      go_wp2
      go_roundw
      case rel => exact ⟨j + 1, X.set j (F j), by omega, by go_num, by simp [unhide HX], Fill.set (unhide HF) (by rw [unhide HX]; exact hlt), unhide HO3, J3, unhide G3⟩
      case measure => simp [intOf]; omega
    · go_wp2
      go_ret
      have ej : j = n := by omega
      subst ej
      have e : X = (List.range j).map F := Fill.done (unhide HF) (unhide HX)
      refine ⟨rfl, ?_, unhide HJ, unhide HG⟩
      rw [← e]
      have := hown
      rw [unhide HX] at this
      exact this
end Go.Proofs.YtnahjaloodeicaaGreat

/-
  The contracts of within, of the closures that Table, Then, Turn and places hand to each, of Table and Then, and of the document's own Table and Then.
-/
namespace Go.Proofs.YtnahjaloodeicaaGreat
set_option maxRecDepth 100000
open Go.RowKit Go.Deep

/-- Numbers of the call's own that a function hands back. -/
def MadeN (w : World) (m : List Int) (e : Ending) (w' : World) : Prop :=
  ∃ v', e = .returned v' ∧ w'.ownsRow w.heap.size 3 1 v' m.length (m.map (Value.int .i64)) ∧ Below w.heap.size w w'
abbrev Il (w : World) (v : Value) (l : List Int) : Prop := Gl (Value.int .i64) w v l
theorem Il.sl {w : World} {v : Value} {l : List Int} (h : Il w v l) : Sl .i64 w v l := by
  obtain ⟨a, cap, hv, hl, hm, hn, hc⟩ := h
  refine ⟨a, cap, hv, hl, hm, hn, fun x hx i hi => ?_⟩
  rw [hc x hx i l[i] (List.getElem?_eq_getElem hi)]
  simp [List.getD, hi]
theorem Il.of {w : World} {v : Value} {l : List Int} (h : Sl .i64 w v l) : Il w v l := by
  obtain ⟨a, cap, hv, hl, hm, hn, hc⟩ := h
  refine ⟨a, cap, hv, hl, hm, hn, fun x hx i y hi => ?_⟩
  rw [hc x hx i (List.getElem?_eq_some_iff.1 hi).1]
  simp [List.getD, hi]
theorem cell10 {w w' : World} {p : Addr} {x : Value} {B : Nat} (h : w.cell? p = some x) (hb : Below B w w') (hp : p.block < B) : w'.cell? p = some x := (hb.cell hp).trans h
theorem cellK10 {w w' : World} {p : Addr} {x : Value} (h : w.cell? p = some x) (hb : Below w.heap.size w w') : w'.cell? p = some x := (hb.cell (World.block_lt_of_cell? w _ h)).trans h
theorem froz10 {w w' : World} {p : Addr} {B : Nat} (h : w.frozen? p = false) (hb : Below B w w') (hp : p.block < B) : w'.frozen? p = false := (hb.frozen hp).trans h
theorem grown10_of {w w' : World} (row : Option Nat) (h : Below w.heap.size w w') : w.grownBy w' row := ⟨h.os, h.tape, h.output, h.size, fun k hk _ => h.block k hk⟩

def R.inn (x n : Int) : Bool := decide (0 ≤ x ∧ x < n)
/-! ### The closures -/

set_option maxHeartbeats 1000000 in
theorem cloT_any (P N i : Nat) (l : List Bool) (v : Value) (m : Int) (w : World) (hP : w.cell? ⟨P, 0, none⟩ = some v) (hN : w.cell? ⟨N, 0, none⟩ = some (.int .i64 m)) (hf : w.frozen? ⟨N, 0, none⟩ = false) (h : Gl .bool w v l) (x : Bool) (hx : l[i]? = some x) (hm0 : 0 ≤ m) (hm : m ≤ 100000) :
    Calls Tryz.prog 115 #[.int .i64 (i : Int), .pointer (some ⟨P, 0, none⟩), .pointer (some ⟨N, 0, none⟩)] w fun e w' => e = .returned (.int .i64 (if x = true then m else -1)) ∧ w' = (if x = true then w.setCell ⟨N, 0, none⟩ (.int .i64 (m + 1)) else w) := by
  obtain ⟨a, cap, rfl, hl, hmx, hn, ho⟩ := h.open
  have hlt := (List.getElem?_eq_some_iff.1 hx).1
  obtain ⟨b, off, rfl, hb, hc⟩ := ho (by omega)
  have c1 := hc i x hx
  clear hc ho hx h
  cases x with
  | true =>
    simp only [if_true]
    go_enter Tryz.func115, Tryz.ntmps115
    go_wp2
    go_ret
    exact ⟨by simp <;> omega, rfl⟩
  | false =>
    simp only [Bool.false_eq_true, if_false]
    go_enter Tryz.func115, Tryz.ntmps115
    go_wp2
    go_ret
    exact ⟨rfl, rfl⟩

theorem cloP_any (i : Int) (w : World) : Calls Tryz.prog 120 #[.int .i64 i] w fun e w' => e = .returned (.int .i64 i) ∧ w' = w := by
  go_enter Tryz.func120, Tryz.ntmps120
  go_wp2
  go_ret
  exact ⟨rfl, rfl⟩
end Go.Proofs.YtnahjaloodeicaaGreat

/-
  Slices of slices, whatever the elements are ('Lg': what they read as); the contracts of alike, of the closures that alike and Carry make, and of slices.EqualFunc at them.
-/
namespace Go.Proofs.YtnahjaloodeicaaGreat
set_option maxRecDepth 100000
open Go.RowKit Go.Deep

/-- The slice value v reads, in w, as the lists ls. -/
def Lg {α : Type} (f : α → Value) (w : World) (v : Value) (ls : List (List α)) : Prop :=
  ∃ us, Gl sv w v us ∧ us.length = ls.length ∧ ∀ (i : Nat) (s : Option Addr × Nat × Nat) (l : List α), us[i]? = some s → ls[i]? = some l → Gl f w (sv s) l
section
variable {α : Type} {f : α → Value}
theorem Lg.below {w w' : World} {v : Value} {ls : List (List α)} (h : Lg f w v ls) (hb : Below w.heap.size w w') : Lg f w' v ls := by
  obtain ⟨us, h1, h2, h3⟩ := h
  exact ⟨us, h1.below hb, h2, fun i s l hs hl => (h3 i s l hs hl).below hb⟩
theorem Lg.at {w : World} {v : Value} {ls : List (List α)} (h : Lg f w v ls) : ∃ a cap, v = .slice a ls.length cap ∧ ls.length ≤ cap ∧ cap ≤ 9223372036854775807 ∧
    (0 < ls.length → ∃ b off, a = some ⟨b, off, none⟩ ∧ b < w.heap.size ∧ ∀ k l, ls[k]? = some l → ∃ x c, w.cell? ⟨b, off + k, none⟩ = some (.slice x l.length c) ∧ Gl f w (.slice x l.length c) l) := by
  obtain ⟨us, h1, h2, h3⟩ := h
  obtain ⟨a, cap, rfl, hl, hm, hna, ho⟩ := h1.open
  rw [h2] at hl ho ⊢
  refine ⟨a, cap, rfl, hl, hm, fun hp => ?_⟩
  obtain ⟨b, off, rfl, hb, hc⟩ := ho hp
  refine ⟨b, off, rfl, hb, fun k l hk => ?_⟩
  have hku : k < us.length := by rw [h2]; exact (List.getElem?_eq_some_iff.1 hk).1
  have hs := List.getElem?_eq_getElem hku
  have c1 := hc k _ hs
  have g1 := h3 k _ l hs hk
  obtain ⟨x, c, hv, -⟩ := id g1
  rw [hv] at c1 g1
  exact ⟨x, c, c1, g1⟩
end
abbrev Tl (w : World) (v : Value) (ts : List (List Int)) : Prop := Lg (Value.int .i64) w v ts
abbrev Bll (w : World) (v : Value) (ls : List (List Bool)) : Prop := Lg Value.bool w v ls

theorem eq_num (n k : Nat) : ((n : Int) == (k : Int)) = decide (n = k) := by
  rw [Bool.eq_iff_iff]
  simp only [beq_iff_eq, decide_eq_true_eq]
  omega
theorem R.alk_len {ts : List (List Int)} {ls : List (List Bool)} (h : ¬ ts.length = ls.length) : R.alk ts ls = false := by
  cases hb : R.alk ts ls with
  | false => rfl
  | true => exact absurd (R.alk_iff.1 hb).1 h
theorem R.alk_not {ts : List (List Int)} {ls : List (List Bool)} {i : Nat} {t : List Int} {l : List Bool} (h1 : ts[i]? = some t) (h2 : ls[i]? = some l) (h : ¬ t.length = l.length) : R.alk ts ls = false := by
  cases hb : R.alk ts ls with
  | false => rfl
  | true => exact absurd ((R.alk_iff.1 hb).2 i t l h1 h2) h

end Go.Proofs.YtnahjaloodeicaaGreat

/-
  The contracts of Table and Then.
-/
namespace Go.Proofs.YtnahjaloodeicaaGreat
set_option maxRecDepth 100000
open Go.RowKit Go.Deep

theorem R.tab_range (l : List Bool) (n : Int) : (List.range l.length).map (fun i => if l.getD i false = true then n + (R.cnt (l.take i) : Int) else -1) = R.tab n l := by
  apply List.ext_getElem?
  intro i
  by_cases h : i < l.length
  · have hx := List.getElem?_eq_getElem h
    rw [R.tab_at hx n]
    simp [h]
  · rw [List.getElem?_eq_none (by simp; omega), List.getElem?_eq_none (by rw [R.tab_len]; omega)]
theorem R.thn_range (t p : List Int) : (List.range t.length).map (fun i => R.thn1 p (t.getD i 0)) = R.thn t p := by
  apply List.ext_getElem?
  intro i
  by_cases h : i < t.length
  · simp [R.thn, h]
  · rw [List.getElem?_eq_none (by simp; omega), List.getElem?_eq_none (by rw [R.thn_len]; omega)]

theorem madeN_nil (w w' : World) (h : Below w.heap.size w w') : MadeN w [] (.returned (.slice none 0 0)) w' := ⟨_, rfl, World.ownsRow_nil _ _ _ _, h⟩

set_option maxHeartbeats 1000000 in
theorem table_any (v : Value) (l : List Bool) (n : Int) (w : World) (h : Gl .bool w v l) : Calls Tryz.prog 94 #[v, .int .i64 n] w (MadeN w (R.table l n)) := by
  obtain ⟨a, cap, rfl, hl, hmx, hna, -⟩ := h.open
  obtain ⟨W, hW⟩ : ∃ W, W = w.alloc (.cells #[.slice a l.length cap] 38) := ⟨_, rfl⟩
  have bW : Below w.heap.size w W := by rw [hW]; exact below_alloc _ _
  have y0 : W.cell? ⟨w.heap.size, 0, none⟩ = some (.slice a l.length cap) := by rw [hW]; simp [go_sem]
  have sW : W.heap.size = w.heap.size + 1 := by rw [hW]; simp
  have hW1 := h.below bW
  have HW := hide hW
  have HBW := hide bW
  clear hW bW
  cases hm : decide (l.length ≤ 64) with
  | false =>
    have HR : Hid (R.table l n = []) := by
      show _ = _
      unfold R.table
      rw [if_neg]
      rintro ⟨-, -, h9⟩
      rw [decide_eq_true h9] at hm
      cases hm
    have CM := lmay_any _ l W hW1 false hm
    clear hm
    go_enter Tryz.func94, Tryz.ntmps94
    go_wp2_with fail
    rw [← unhide HW]
    refine CM.mono ?_
    rintro e w1 ⟨rfl, rfl⟩
    go_wp2
    go_ret
    rw [unhide HR]
    exact madeN_nil _ _ (unhide HBW)
  | true =>
    have CM := lmay_any _ l W hW1 true hm
    have hlen : l.length ≤ 64 := of_decide_eq_true hm
    clear hm
    by_cases h0 : n < 0
    · have HR : Hid (R.table l n = []) := by
        show _ = _
        unfold R.table
        rw [if_neg (by omega)]
      go_enter Tryz.func94, Tryz.ntmps94
      go_wp2_with fail
      rw [← unhide HW]
      refine CM.mono ?_
      rintro e w1 ⟨rfl, rfl⟩
      go_wp2
      go_ret
      rw [unhide HR]
      exact madeN_nil _ _ (unhide HBW)
    · by_cases h1 : 1100 < n
      · have HR : Hid (R.table l n = []) := by
          show _ = _
          unfold R.table
          rw [if_neg (by omega)]
        go_enter Tryz.func94, Tryz.ntmps94
        go_wp2_with fail
        rw [← unhide HW]
        refine CM.mono ?_
        rintro e w1 ⟨rfl, rfl⟩
        go_wp2
        go_ret
        rw [unhide HR]
        exact madeN_nil _ _ (unhide HBW)
      · have HR : Hid (R.table l n = R.tab n l) := by
          show _ = _
          unfold R.table
          rw [if_pos (by omega)]
        obtain ⟨V, hV⟩ : ∃ V, V = W.alloc (.cells #[.int .i64 n] 3) := ⟨_, rfl⟩
        have bV : Below W.heap.size W V := by rw [hV]; exact below_alloc _ _
        have z0 : V.cell? ⟨w.heap.size, 0, none⟩ = some (.slice a l.length cap) := cellK10 y0 bV
        have z1 : V.cell? ⟨w.heap.size + 1, 0, none⟩ = some (.int .i64 n) := by rw [hV, ← sW]; simp [go_sem]
        have f1 : V.frozen? ⟨w.heap.size + 1, 0, none⟩ = false := by rw [hV, ← sW]; simp [go_sem]
        have sV : V.heap.size = w.heap.size + 2 := by rw [hV]; simp [sW]
        have bwV : Below w.heap.size w V := below_trans' (unhide HBW) bV
        have CE := eachT_any ⟨w.heap.size, 0, none⟩ ⟨w.heap.size + 1, 0, none⟩ l.length (by omega) (by omega) (fun i => if l.getD i false = true then n + (R.cnt (l.take i) : Int) else -1) (some (w.heap.size + 1))
          (fun i w1 => w1.cell? ⟨w.heap.size, 0, none⟩ = some (.slice a l.length cap) ∧ w1.cell? ⟨w.heap.size + 1, 0, none⟩ = some (.int .i64 (n + (R.cnt (l.take i) : Int))) ∧ w1.frozen? ⟨w.heap.size + 1, 0, none⟩ = false ∧ Below w.heap.size w w1) V
          (fun g hg => by cases hg; omega) ⟨z0, by simpa [R.cnt] using z1, f1, bwV⟩
          (fun i w1 w2 h1 h2 => ⟨cell10 h1.1 h2 (by show w.heap.size < _; omega), cell10 h1.2.1 h2 (by show w.heap.size + 1 < _; omega), froz10 h1.2.2.1 h2 (by show w.heap.size + 1 < _; omega), h1.2.2.2.trans (h2.mono (by omega))⟩)
          (fun i hi w1 h1 hg => by
            have hx := List.getElem?_eq_getElem hi
            have hcl := R.cnt_le (l.take i)
            rw [List.length_take] at hcl
            refine (cloT_any w.heap.size (w.heap.size + 1) i l _ _ w1 h1.1 h1.2.1 h1.2.2.1 (h.below h1.2.2.2) l[i] hx (by omega) (by omega)).mono ?_
            rintro e w2 ⟨rfl, rfl⟩
            have hgd : l.getD i false = l[i] := by simp [hi]
            have hst := R.cnt_step hx
            refine ⟨by rw [hgd], ?_, ?_⟩
            · cases hb : l[i] with
              | true =>
                rw [hb] at hst
                simp only [if_true] at hst ⊢
                refine ⟨?_, ?_, ?_, h1.2.2.2.setCell (p := ⟨w.heap.size + 1, 0, none⟩) (by show w.heap.size ≤ w.heap.size + 1; omega) _⟩
                · rw [World.cell?_of_block (w := w1) (Below.heap_setCell w1 _ _ _ (by simp))]
                  exact h1.1
                · rw [hst]
                  have := h1.2.1
                  have e9 : n + ((R.cnt (l.take i) + 1 : Nat) : Int) = n + (R.cnt (l.take i) : Int) + 1 := by omega
                  rw [e9]
                  simp [go_sem, this]
                · have := h1.2.2.1
                  simpa [go_sem] using this
              | false =>
                rw [hb] at hst
                simp only [Bool.false_eq_true, if_false, Nat.add_zero] at hst ⊢
                rw [hst]
                exact h1
            · cases l[i] with
              | true => exact ⟨rfl, rfl, rfl, by simp [World.setCell], fun k hk hne => Below.heap_setCell w1 _ _ _ (fun e => hne (by simp [e]))⟩
              | false => exact grown10_refl _ _)
        have HSV := hide sV
        clear sV
        have HV := hide hV
        have HBV := hide bwV
        clear hV bV z0 z1 f1 bwV hW1 h
        go_enter Tryz.func94, Tryz.ntmps94
        go_wp2_with fail
        rw [← unhide HW]
        refine CM.mono ?_
        rintro e w1 ⟨rfl, rfl⟩
        go_wp2_with fail
        rw [← unhide HV]
        refine CE.mono ?_
        rintro e w2 ⟨rfl, O2, -, G2⟩
        have HO := hide O2
        have HG := hide G2
        clear O2 G2 CE CM
        go_wp2
        go_ret
        have G := unhide HG
        have O := unhide HO
        rw [unhide HR]
        rw [R.tab_range] at O
        refine ⟨_, rfl, ?_, (unhide HBV).trans ⟨G.os, G.tape, G.output, G.size, fun k hk => G.block k (by have := unhide HSV; omega) (fun e => by cases e; omega)⟩⟩
        rw [R.tab_len]
        exact own_mono O (show w.heap.size ≤ V.heap.size by have := unhide HSV; omega)

end Go.Proofs.YtnahjaloodeicaaGreat
