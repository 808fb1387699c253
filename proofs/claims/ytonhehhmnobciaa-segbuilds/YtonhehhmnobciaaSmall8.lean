/-
  The contracts of Before (the program's and the document's), mayHead, mayNotWord, ContainsFunc over it, and unlike (a map).
-/
import Derived.Test.YtonhehhmnobciaaCmp8
import Derived.Maps.OwnSet
namespace Go.Proofs.Ytonhehhmnobciaa
set_option maxRecDepth 100000
open Go.RowKit Go.WideMaps Go.Maps

set_option maxHeartbeats 1000000 in
theorem before_b (a b : Cd) (x y : Option Addr) (n c m d : Nat) (w : World) (r : Bool) (hr : S.before a b = r) :
    Calls Try.prog 12 #[.agg #[.string a.id, .int .i64 a.key, .slice x n c], .agg #[.string b.id, .int .i64 b.key, .slice y m d]] w fun e w' => e = .returned (.bool r) ∧ Below w.heap.size w w' := by
  rw [← S.cmp_before] at hr
  have HR := hide hr
  obtain ⟨W, hW⟩ : ∃ W, W = (w.alloc (.cells #[.string a.id, .int .i64 a.key, .slice x n c] 25)).alloc (.cells #[.string b.id, .int .i64 b.key, .slice y m d] 25) := ⟨_, rfl⟩
  have BW : Below w.heap.size w W := by rw [hW]; exact below_all (below_alloc _ _) _
  have HW := hide hW
  clear hW hr
  go_enter Try.func12, Try.ntmps12
  go_wp2_with fail
  rw [← unhide HW]
  refine (compare_any a b x y n c m d _).mono ?_
  rintro e w1 ⟨rfl, G1⟩
  have B1 := below_trans' BW G1.below
  go_wp2
  go_ret
  exact ⟨by rw [← unhide HR]; rfl, B1⟩

set_option maxHeartbeats 1000000 in
theorem rbefore_b (a b : Cd) (x y : Option Addr) (n c m d : Nat) (w : World) (hs : a.id.size ≤ maxLen) (r : Bool) (hr : S.before a b = r) :
    Calls Try.prog 13 #[.agg #[.string a.id, .int .i64 a.key, .slice x n c], .agg #[.string b.id, .int .i64 b.key, .slice y m d]] w fun e w' => e = .returned (.bool r) ∧ Below w.heap.size w w' := by
  obtain ⟨W, hW⟩ : ∃ W, W = (w.alloc (.cells #[.string a.id, .int .i64 a.key, .slice x n c] 25)).alloc (.cells #[.string b.id, .int .i64 b.key, .slice y m d] 25) := ⟨_, rfl⟩
  have BW : Below w.heap.size w W := by rw [hW]; exact below_all (below_alloc _ _) _
  have HW := hide hW
  by_cases h1 : a.key < b.key
  · have HR : Hid (r = true) := by show _ = _; rw [← hr]; simp [S.before, h1]
    clear hr hW
    go_enter Try.func13, Try.ntmps13
    go_wp2
    go_ret
    exact ⟨by rw [unhide HR]; rfl, by rw [← unhide HW]; exact BW⟩
  · by_cases h2 : a.key = b.key
    · have HR : Hid (K.lt a.id b.id = r) := by show _ = _; rw [← hr]; simp [S.before, h2]
      have h2' : (a.key == b.key) = true := by simpa using h2
      clear hr hW h2
      go_enter Try.func13, Try.ntmps13
      go_wp2_with (go_at_call 38; refine (below_b _ _ _ hs _ (unhide HR)).mono ?_; rintro e w1 ⟨rfl, n1, rfl⟩)
      go_ret
      exact ⟨rfl, below_dr (by rw [← unhide HW]; exact BW) n1⟩
    · have HR : Hid (r = false) := by show _ = _; rw [← hr]; simp [S.before, h1, h2]
      have h2' : (a.key == b.key) = false := by simpa using h2
      clear hr hW
      go_enter Try.func13, Try.ntmps13
      go_wp2
      go_ret
      exact ⟨by rw [unhide HR]; rfl, by rw [← unhide HW]; exact BW⟩

namespace S
def head (id : ByteArray) (key many : Int) : Bool := decide (1 ≤ id.size) && decide (id.size ≤ 16) && decide (0 ≤ key) && decide (key ≤ 1073741824) && decide (0 ≤ many) && decide (many ≤ 120)
def badw (x : ByteArray) : Bool := decide (x.size < 1) || decide (32 < x.size)
theorem fits_head (c : Cd) : fits c = (head c.id c.key c.w.length && !c.w.any badw) := by
  unfold fits head badw
  have h1 : (!c.w.any fun x => decide (x.size < 1) || decide (32 < x.size)) = c.w.all fun x => decide (1 ≤ x.size) && decide (x.size ≤ 32) := by
    rw [List.not_any_eq_all_not]
    congr 1
    funext x
    by_cases h1 : x.size < 1 <;> by_cases h2 : 32 < x.size <;> simp [h1, h2] <;> omega
  rw [h1]
  have h2 : decide ((c.w.length : Int) ≤ 120) = decide (c.w.length ≤ 120) := decide_eq_decide.2 (by omega)
  have h3 : decide (0 ≤ (c.w.length : Int)) = true := by simp
  rw [h2, h3]
  cases decide (c.w.length ≤ 120) <;> cases (c.w.all fun x => decide (1 ≤ x.size) && decide (x.size ≤ 32)) <;> simp
end S

set_option maxHeartbeats 1000000 in
theorem mayHead_b (id : ByteArray) (key many : Int) (w : World) (r : Bool) (hr : S.head id key many = r) :
    Calls Try.prog 61 #[.string id, .int .i64 key, .int .i64 many] w fun e w' => e = .returned (.bool r) ∧ w' = w := by
  unfold S.head at hr
  by_cases h : 1 ≤ id.size ∧ id.size ≤ 16 ∧ 0 ≤ key ∧ key ≤ 1073741824 ∧ 0 ≤ many ∧ many ≤ 120
  · obtain ⟨h1, h2, h3, h4, h5, h6⟩ := h
    have HR : Hid (r = true) := by show _ = _; rw [← hr]; simp [h1, h2, h3, h4, h5, h6]
    clear hr
    go_enter Try.func61, Try.ntmps61
    go_wp2
    go_ret
    exact ⟨by rw [unhide HR]; first | rfl | simp, rfl⟩
  · have HR : Hid (r = false) := by
      show _ = _
      rw [← hr]
      simp only [Bool.and_eq_false_iff, decide_eq_false_iff_not]
      omega
    have h' : id.size < 1 ∨ (1 ≤ id.size ∧ 16 < id.size) ∨ (1 ≤ id.size ∧ id.size ≤ 16 ∧ key < 0) ∨ (1 ≤ id.size ∧ id.size ≤ 16 ∧ 0 ≤ key ∧ 1073741824 < key) ∨ (1 ≤ id.size ∧ id.size ≤ 16 ∧ 0 ≤ key ∧ key ≤ 1073741824 ∧ many < 0) ∨ (1 ≤ id.size ∧ id.size ≤ 16 ∧ 0 ≤ key ∧ key ≤ 1073741824 ∧ 0 ≤ many ∧ 120 < many) := by omega
    clear h hr
    rcases h' with h1 | ⟨h1, h2⟩ | ⟨h1, h2, h3⟩ | ⟨h1, h2, h3, h4⟩ | ⟨h1, h2, h3, h4, h5⟩ | ⟨h1, h2, h3, h4, h5, h6⟩
    all_goals
      go_enter Try.func61, Try.ntmps61
      go_wp2
      go_ret
      exact ⟨by rw [unhide HR]; first | rfl | (simp; omega), rfl⟩

set_option maxHeartbeats 1000000 in
theorem badw_b (x : ByteArray) (w : World) (r : Bool) (hr : S.badw x = r) :
    Calls Try.prog 63 #[.string x] w fun e w' => e = .returned (.bool r) ∧ w' = w := by
  unfold S.badw at hr
  have h' : x.size < 1 ∨ (1 ≤ x.size ∧ 32 < x.size) ∨ (1 ≤ x.size ∧ x.size ≤ 32) := by omega
  rcases h' with h1 | ⟨h1, h2⟩ | ⟨h1, h2⟩
  · have HR : Hid (r = true) := by show _ = _; rw [← hr]; simp [h1]
    clear hr
    go_enter Try.func63, Try.ntmps63
    go_wp2
    go_ret
    exact ⟨by rw [unhide HR]; first | rfl | (simp; omega), rfl⟩
  · have HR : Hid (r = true) := by show _ = _; rw [← hr]; simp [h2]
    clear hr
    go_enter Try.func63, Try.ntmps63
    go_wp2
    go_ret
    exact ⟨by rw [unhide HR]; first | rfl | (simp; omega), rfl⟩
  · have HR : Hid (r = false) := by show _ = _; rw [← hr, Bool.or_eq_false_iff]; simp only [decide_eq_false_iff_not]; omega
    clear hr
    go_enter Try.func63, Try.ntmps63
    go_wp2
    go_ret
    exact ⟨by rw [unhide HR]; first | rfl | (simp; omega), rfl⟩

set_option maxHeartbeats 1000000 in
theorem indexBad_any (v : Value) (l : List ByteArray) (w : World) (h : Gl .string w v l) :
    Calls Try.prog 103 #[v, .func (.func 63) #[] #[]] w fun e w' => (∃ k : Nat, e = .returned (.int .i64 k) ∧ l.any S.badw = true ∧ w' = w) ∨ (e = .returned (.int .i64 (-1)) ∧ l.any S.badw = false ∧ w' = w) := by
  obtain ⟨a, cap, rfl, hl, hm, hna, ho⟩ := h.open
  clear h
  go_enter Try.func103, Try.ntmps103
  go_wp2
  go_loop [8] (fun iv => ∃ k : Nat, k ≤ l.length ∧ iv = .int .i64 k ∧ (l.take k).any S.badw = false) (fun iv => l.length - (intOf iv).toNat)
  case atStart => exact ⟨0, Nat.zero_le _, rfl, rfl⟩
  case round =>
    obtain ⟨k, hk, rfl, ht⟩ := hrel
    have HT := hide ht
    clear ht
    by_cases hlt : k < l.length
    · obtain ⟨b, off, rfl, hb, hc⟩ := ho (by omega)
      obtain ⟨x, hx⟩ : ∃ x, l[k]? = some x := ⟨l[k], List.getElem?_eq_getElem hlt⟩
      have c1 := hc k x hx
      have HX := hide hx
      clear hc ho hx
      cases hb9 : S.badw x with
      | true =>
        have HB := hide hb9
        clear hb9
        go_wp2_with (go_at_call 63; refine (badw_b _ _ _ (unhide HB)).mono ?_; rintro e w' ⟨rfl, rfl⟩)
        go_ret
        exact .inl ⟨k, rfl, List.any_eq_true.2 ⟨x, List.mem_of_getElem? (unhide HX), unhide HB⟩, rfl⟩
      | false =>
        have HB := hide hb9
        clear hb9
        go_wp2_with (go_at_call 63; refine (badw_b _ _ _ (unhide HB)).mono ?_; rintro e w' ⟨rfl, rfl⟩)
        go_round
        case rel =>
          refine ⟨k + 1, by omega, by go_num, ?_⟩
          obtain ⟨hk', e⟩ := List.getElem?_eq_some_iff.1 (unhide HX)
          rw [List.take_succ_eq_append_getElem hk', List.any_append, unhide HT, e]
          simp [unhide HB]
        case measure => simp [intOf]; omega
    · go_wp2
      go_ret
      have e := unhide HT
      rw [List.take_of_length_le (by omega)] at e
      exact .inr ⟨rfl, by simpa using e, rfl⟩

set_option maxHeartbeats 1000000 in
theorem anyBad_b (v : Value) (l : List ByteArray) (w : World) (h : Gl .string w v l) (r : Bool) (hr : l.any S.badw = r) :
    Calls Try.prog 62 #[v, .func (.func 63) #[] #[]] w fun e w' => e = .returned (.bool r) ∧ w' = w := by
  have HR := hide hr
  have C := indexBad_any v l w h
  clear hr h
  go_enter Try.func62, Try.ntmps62
  go_wp2_with fail
  refine C.mono ?_
  rintro e w1 (⟨k, rfl, h2, rfl⟩ | ⟨rfl, h2, rfl⟩)
  · have HR2 : Hid (r = true) := by show _ = _; rw [← unhide HR]; exact h2
    clear h2
    go_wp2
    go_ret
    exact ⟨by rw [unhide HR2]; first | rfl | simp, rfl⟩
  · have HR2 : Hid (r = false) := by show _ = _; rw [← unhide HR]; exact h2
    clear h2
    go_wp2
    go_ret
    exact ⟨by rw [unhide HR2]; rfl, rfl⟩

/-! ### unlike -/

theorem keyed9 : Keyed Try.prog 9 := string_keyed Try.underlying9
theorem zero3 (w : World) : (zeroValue 3).run Try.prog w = .ok (.int .i64 0) w := by kernel_rfl
theorem lit_ne {a b : ByteArray} (h : a ≠ b) : Lit.string a.data.toList ≠ Lit.string b.data.toList := by
  intro e
  simp only [Lit.string.injEq] at e
  exact h (ByteArray.ext (Array.ext' e))

/-- The map holds just the first k texts. -/
def Has8 (D : DataW Unit) (l : List ByteArray) (k : Nat) : Prop := (∀ s : ByteArray, Maps.has D (.string s.data.toList) = true ↔ s ∈ l.take k) ∧ Maps.size D ≤ k ∧ (Maps.size D = k ↔ (l.take k).Nodup)

theorem Has8.start (l : List ByteArray) : Has8 (.map []) l 0 := ⟨fun s => by simp [Maps.has], Nat.le_refl _, by simp [Maps.size]⟩
theorem Has8.step {D : DataW Unit} {l : List ByteArray} {k : Nat} {x : ByteArray} {d : DataW Unit} (h : Has8 D l k) (ht : Tidy D) (hx : l[k]? = some x) : Has8 (D.put (.string x.data.toList) d) l (k + 1) := by
  obtain ⟨h1, h2, h3⟩ := h
  obtain ⟨hk, e⟩ := List.getElem?_eq_some_iff.1 hx
  have et : l.take (k + 1) = l.take k ++ [x] := by rw [List.take_succ_eq_append_getElem hk, e]
  have hs := size_put (k := .string x.data.toList) ht d
  have hnd : (l.take k ++ [x]).Nodup ↔ (l.take k).Nodup ∧ x ∉ l.take k := by
    rw [List.nodup_append]
    constructor
    · rintro ⟨a, _, b⟩
      exact ⟨a, fun hm => b x hm x (by simp) rfl⟩
    · rintro ⟨a, b⟩
      refine ⟨a, by simp, fun y hy z hz => ?_⟩
      simp only [List.mem_singleton] at hz
      subst hz
      exact fun e => b (e ▸ hy)
  refine ⟨fun s => ?_, ?_, ?_⟩
  · rw [et, List.mem_append, List.mem_singleton]
    by_cases hsx : s = x
    · subst hsx
      rw [has_put_same ht.isMap (by simp [WideAt.IsKeyLit])]
      simp
    · rw [has_put_other (lit_ne hsx), h1 s]
      simp [hsx]
  · rw [hs]
    split <;> omega
  · rw [hs, et, hnd]
    split
    · rename_i hh
      have := (h1 x).1 hh
      constructor
      · intro e; omega
      · rintro ⟨_, b⟩; exact absurd this b
    · rename_i hh
      have : x ∉ l.take k := fun hm => hh ((h1 x).2 hm)
      constructor
      · intro e; exact ⟨h3.1 (by omega), this⟩
      · rintro ⟨a, _⟩; have := h3.2 a; omega

set_option maxHeartbeats 1000000 in
theorem unlike_b (v : Value) (l : List ByteArray) (w : World) (h : Gl .string w v l) (hz : ∀ x ∈ l, x.size ≤ maxLen) (r : Bool) (hr : decide l.Nodup = r) :
    Calls Try.prog 64 #[v] w fun e w' => e = .returned (.bool r) ∧ Below w.heap.size w w' := by
  have hll := h.len
  obtain ⟨a, cap, rfl, hl, hm, hna, ho⟩ := h.open
  have HR := hide hr
  clear h hr
  have hmm := @run_makeMap Try.prog
  go_enter Try.func64, Try.ntmps64
  go_wp2
  go_loopw [9] (fun i wr => ∃ (k : Nat) (D : DataW Unit), k ≤ l.length ∧ i = .int .i64 k ∧ wr.ownsMap Try.prog 9 (plainElem Try.prog 3) w.heap.size k D ∧ Has8 D l k ∧ Below w.heap.size w wr) (fun i _ => l.length - (intOf i).toNat)
  case atStart => exact ⟨0, _, Nat.zero_le _, rfl, World.ownsMap_made _ _ _ _, Has8.start l, below_alloc _ _⟩
  case round =>
    obtain ⟨k, D, hk, rfl, hown, htel, hbel⟩ := hrel
    have HT := hide htel
    clear htel
    by_cases hlt : k < l.length
    · obtain ⟨x, hx⟩ : ∃ x, l[k]? = some x := ⟨l[k], List.getElem?_eq_getElem hlt⟩
      obtain ⟨b, off, rfl, hb, hc⟩ := ho (by omega)
      have d0 := (hbel.cell (p := ⟨b, off + k, none⟩) hb).trans (hc k x hx)
      have hns : x.size ≤ maxLen := hz x (List.mem_of_getElem? hx)
      have hkey : keyOf Try.prog 9 (.string x) = some (.string x.data.toList) := keyOf_string_mk Try.underlying9 hns
      have hbs := hbel.size
      have HS := hide (fun h => Has8.step (D := D) (d := .lit (.int .i64 k)) h (hown.tidy keyed9) hx)
      clear hc ho hx
      go_wp2_with (first
        | (at_mapUpdate; refine wpList_mapUpdate_own _ rfl _ _ _ 103 rfl 9 3 keyed9 Try.underlying103 _ w.heap.size k _ rfl hown (by unfold maxLen; omega) _ _ _ rfl rfl hkey _ [] (plainElem_int Try.underlying3 (WalkArith.wf_i64 (by omega))) ?_)
        | go_in)
      intro w1 hown1 hgrow1
      have R2 := hbel.grown hgrow1 (by omega) (fun j hj => by cases hj; exact Nat.le_refl _)
      clear hgrow1
      go_wp2
      go_roundw
      case rel => exact ⟨k + 1, _, by omega, by go_num, hown1, unhide HS (unhide HT), R2⟩
      case measure => simp [intOf]; omega
    · have hkl : k = l.length := by omega
      subst hkl
      have h9 := unhide HT
      obtain ⟨m, hm9⟩ : ∃ m, Maps.size D = m := ⟨_, rfl⟩
      have HD : Hid (m = l.length ↔ l.Nodup) := by
        show _ ↔ _
        have := h9.2.2
        rw [List.take_length, hm9] at this
        exact this
      clear h9 ho
      by_cases he : m = l.length
      · have he' : ((m : Int) == (l.length : Int)) = true := by simp [he]
        have HR2 : Hid (r = true) := by show _ = _; rw [← unhide HR]; simpa using (unhide HD).1 he
        clear he
        go_wp2_with (at_len; refine wpList_len_own _ rfl _ 103 rfl 9 3 Try.underlying103 _ w.heap.size l.length D rfl hown ?_; rw [hm9])
        go_ret
        exact ⟨by rw [unhide HR2]; rfl, hbel⟩
      · have he' : ((m : Int) == (l.length : Int)) = false := by simp; omega
        have HR2 : Hid (r = false) := by show _ = _; rw [← unhide HR]; simpa using fun h => he ((unhide HD).2 h)
        clear he
        go_wp2_with (at_len; refine wpList_len_own _ rfl _ 103 rfl 9 3 Try.underlying103 _ w.heap.size l.length D rfl hown ?_; rw [hm9])
        go_ret
        exact ⟨by rw [unhide HR2]; rfl, hbel⟩
end Go.Proofs.Ytonhehhmnobciaa
