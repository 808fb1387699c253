/-
  Texts put together: Del12, PlainA12.
-/
import Derived.Test.YtfniphaehggcgaaQ03
import Derived.Test.YtfniphaehggcgaaQ13
import Derived.Test.YtfniphaehggcgaaQ12
import Derived.Sort.Row
/-
  The contracts of slices.Delete of one number, in a row of the call's own, and of known.
-/
namespace Go.Proofs.Ytfniphaehggcgaa
set_option maxRecDepth 100000
open Go.Shelf Go.Sort Go.Proofs Go.RowKit

section
variable {α : Type} [Inhabited α] {enc : α → Value}
theorem pr12_heap {w : World} {g n : Nat} {cur : Array Value} {e : TypeId} {fr : Nat × Nat} (F : Array α) (hb : w.heap[g]? = some (.cells cur e fr)) :
    (putRow enc (Sort.ahead w n) g 0 F).heap[g]? = some (.cells (putCells enc 0 F cur) e fr) := by
  simp [putRow, mapBlock, Sort.ahead, Array.getElem?_modify, hb, onCells]
theorem pr12_grown {w : World} {g n : Nat} (F : Array α) : w.grownBy (putRow enc (Sort.ahead w n) g 0 F) (some g) := by
  refine ⟨rfl, rfl, rfl, by simp [putRow, mapBlock, Sort.ahead], fun k hk hne => ?_⟩
  have : g ≠ k := fun e => hne (by rw [e])
  simp [putRow, mapBlock, Sort.ahead, Array.getElem?_modify, this]
theorem pr12_take (cur : Array Value) (F : Array α) (h : F.size ≤ cur.size) : (putCells enc 0 F cur).toList.take F.size = F.toList.map enc := by
  apply List.ext_getElem?
  intro j
  by_cases hj : j < F.size
  · rw [List.getElem?_take_of_lt hj, Array.getElem?_toList, List.getElem?_map, Array.getElem?_toList]
    simp [putCells, hj, show j < cur.size by omega]
  · rw [List.getElem?_take_eq_none (by omega), List.getElem?_eq_none (by simp; omega)]
end

theorem zdel_any (B g cap i : Nat) (l : List Int) (w : World) (h : w.ownsRow B 3 1 (.slice (some ⟨g, 0, none⟩) l.length cap) l.length (l.map (Value.int .i64))) (hi : i < l.length) :
    Calls Try.prog 50 #[.slice (some ⟨g, 0, none⟩) l.length cap, .int .i64 (i : Int), .int .i64 ((i : Int) + 1)] w fun e w' =>
      e = .returned (.slice (some ⟨g, 0, none⟩) (l.length - 1) cap) ∧ w'.ownsRow B 3 1 (.slice (some ⟨g, 0, none⟩) (l.length - 1) cap) (l.eraseIdx i).length ((l.eraseIdx i).map (Value.int .i64)) ∧ w.grownBy w' (some g) := by
  obtain ⟨cur, hb, hbg, hnc, hcm, hcs, htk⟩ : ∃ cur, w.heap[g]? = some (.cells cur 3 (0, 0)) ∧ B ≤ g ∧ l.length ≤ cap ∧ cap ≤ maxLen ∧ cur.size = cap * 1 ∧ cur.toList.take (l.length * 1) = l.map (Value.int .i64) := by
    rcases h.2 with ⟨e, -⟩ | ⟨g', cap', cur, e, h1, h2, h3, h4, h5, h6⟩
    · cases e
    · simp only [Value.slice.injEq, Option.some.injEq, Addr.mk.injEq, and_true, true_and] at e
      obtain ⟨rfl, rfl⟩ := e
      exact ⟨cur, h2, h1, h3, h4, h5, h6⟩
  have hH : Holds (Value.int .i64) w g 0 l.toArray := by
    intro j hj
    simp only [List.size_toArray] at hj
    refine ⟨?_, by rw [Nat.zero_add]; exact h.frozenAt j⟩
    rw [Nat.zero_add, h.cellAt j (by omega), getElem!_pos _ _ (by simpa using hj)]
    simp [hj]
  have hcon := Any.slices_Delete_int Try.lays2_23 g 0 cap i (i + 1) l w hH hnc (by unfold maxLen at hcm; exact hcm) (by omega) (by omega)
  change Calls Try.prog 50 _ _ _ at hcon
  rw [show ((i + 1 : Nat) : Int) = (i : Int) + 1 by omega, show i + 1 - i = 1 by omega] at hcon
  refine hcon.mono ?_
  rintro e w' ⟨rfl, q, rfl⟩
  refine ⟨rfl, ?_, pr12_grown _⟩
  obtain ⟨F, hF⟩ : ∃ F : Array Int, F = (l.take i ++ l.drop (i + 1) ++ List.replicate 1 0).toArray := ⟨_, rfl⟩
  rw [← hF]
  have hFs : F.size = l.length := by rw [hF]; simp; omega
  have hel : (l.eraseIdx i).length = l.length - 1 := by rw [List.length_eraseIdx, if_pos hi]
  have hFt : F.toList.take (l.length - 1) = l.eraseIdx i := by
    rw [hF, List.eraseIdx_eq_take_drop_succ]
    simp only [List.append_assoc]
    rw [← List.append_assoc, List.take_append_of_le_length (by simp; omega), List.take_of_length_le (by simp; omega)]
  refine ⟨by rw [List.length_map, Nat.mul_one], .inr ⟨g, cap, _, by rw [hel], hbg, pr12_heap F hb, by omega, hcm, by simp [putCells, hcs], ?_⟩⟩
  have ht := pr12_take (enc := Value.int .i64) cur F (by omega)
  have : (l.eraseIdx i).length * 1 = min (l.length - 1) F.size := by omega
  rw [this, ← List.take_take, ht, ← List.map_take, hFt]

theorem zerase (l : List Int) (x : Int) : l.eraseIdx (l.idxOf x) = l.erase x := by rw [List.erase_eq_eraseIdx_of_idxOf rfl]

/-- What is left of numbers of which some are taken, each once. -/
def Z.eat : List Int → List Int → Option (List Int)
  | l, [] => some l
  | l, g :: r => if g ∈ l then Z.eat (l.erase g) r else none
def Z.eats : List Int → List (List Int) → Bool
  | _, [] => true
  | l, f :: p => if f = [] then false else match Z.eat l f with
    | none => false
    | some l' => Z.eats l' p

theorem drop_at12 {α : Type} {l : List α} {k : Nat} {x : α} (h : l[k]? = some x) : l.drop k = x :: l.drop (k + 1) := by
  have hk := (List.getElem?_eq_some_iff.1 h).1
  rw [List.drop_eq_getElem_cons hk, (List.getElem?_eq_some_iff.1 h).2]

set_option maxRecDepth 100000 in
set_option maxHeartbeats 2000000 in
theorem known_any (v u : Value) (L : List Sz) (p : List (List Int)) (w : World) (h : Zl w v L) (hp : Tl w u p) (hl : L.length ≤ 100000) (r : Bool) (hr : Z.eats (Z.gens L) p = r) :
    Calls Try.prog 39 #[v, u] w fun e w' => e = .returned (.bool r) ∧ Below w.heap.size w w' := by
  have CG := gens_any v L w h (by omega)
  obtain ⟨a, cap, rfl, -⟩ := h.open
  have hgl : (Z.gens L).length ≤ 100000 := by simpa [Z.gens] using hl
  obtain ⟨G, hG⟩ : ∃ G, Z.gens L = G := ⟨_, rfl⟩
  rw [hG] at CG hgl hr
  have HP := hp
  obtain ⟨a2, cap2, rfl, h3, h4, -⟩ := hp.at
  have HR := hide hr
  clear h hG hp hr
  go_enter Try.func39, Try.ntmps39
  go_wp2_with fail
  refine CG.mono ?_
  rintro e w1 ⟨v1, rfl, O1, B1⟩
  clear CG
  go_wp2
  go_loopw [5, 15] (fun lv kv wr => ∃ (k : Nat) (X : List Int), k ≤ p.length ∧ kv = .int .i64 k ∧ X.length ≤ 100000 ∧ Hid (Z.eats X (p.drop k) = r) ∧ wr.ownsRow w.heap.size 3 1 lv X.length (X.map (Value.int .i64)) ∧ Below w.heap.size w wr) (fun _ kv _ => p.length - (intOf kv).toNat)
  case atStart => exact ⟨0, G, Nat.zero_le _, rfl, hgl, HR, O1, B1⟩
  case round =>
    clear O1 B1 HR hgl
    obtain ⟨k, X, hk, rfl, hX, HR, hown, hbel⟩ := hrel
    by_cases hlt : k < p.length
    · obtain ⟨a', c', hv', -, -, ho⟩ := HP.at
      simp only [Value.slice.injEq, true_and] at hv'
      obtain ⟨rfl, rfl⟩ := hv'
      obtain ⟨b, off, rfl, hb, hc⟩ := ho (by omega)
      obtain ⟨f, hx⟩ : ∃ x, p[k]? = some x := ⟨p[k], List.getElem?_eq_getElem hlt⟩
      obtain ⟨fa, fc, d0, GF⟩ := hc k f hx
      have c0 := (hbel.cell (p := ⟨b, off + k, none⟩) hb).trans d0
      clear d0
      have hd := unhide HR
      rw [drop_at12 hx, Z.eats] at hd
      have HF0 := hide GF
      clear ho hc hx
      by_cases hf0 : f = []
      · rw [if_pos hf0] at hd
        subst hf0
        subst hd
        clear GF
        have q : ((([] : List Int).length : Int) == 0) = true := rfl
        go_wp2
        go_ret
        exact ⟨rfl, hbel⟩
      · rw [if_neg hf0] at hd
        have hfl : 0 < f.length := by
          cases f with
          | nil => exact absurd rfl hf0
          | cons x r => simp
        have q : ((f.length : Int) == 0) = false := beq_eq_false_iff_ne.2 (by omega)
        have HD : Hid ((match Z.eat X f with | none => false | some l' => Z.eats l' (p.drop (k + 1))) = r) := hd
        have hfm : f.length ≤ 9223372036854775807 := GF.len
        obtain ⟨fa', fc', hv', -, -, hna, hof⟩ := GF.open
        simp only [Value.slice.injEq, true_and] at hv'
        obtain ⟨rfl, rfl⟩ := hv'
        obtain ⟨fb, foff, rfl, hfb, -⟩ := hof hfl
        have HGF := HF0
        clear HF0 GF hof
        rename World => w0
        go_wp2
        go_loopw [5, 24] (fun lv jv wr => ∃ (j : Nat) (Y : List Int), j ≤ f.length ∧ jv = .int .i64 j ∧ Y.length ≤ 100000 ∧ Hid ((match Z.eat Y (f.drop j) with | none => false | some l' => Z.eats l' (p.drop (k + 1))) = r) ∧ wr.ownsRow w.heap.size 3 1 lv Y.length (Y.map (Value.int .i64)) ∧ Below w.heap.size w wr) (fun _ jv _ => f.length - (intOf jv).toNat)
        case atStart => exact ⟨0, X, Nat.zero_le _, rfl, hX, HD, hown, hbel⟩
        case round =>
          clear hown hbel HD hX HR
          obtain ⟨j, Y, hj, rfl, hY, HD, hown, hbel⟩ := hrel
          by_cases hlj : j < f.length
          · obtain ⟨fa', fc', hv', -, -, -, hof⟩ := ((unhide HGF).below hbel).open
            simp only [Value.slice.injEq, true_and] at hv'
            obtain ⟨rfl, rfl⟩ := hv'
            obtain ⟨b3, off3, e3, -, hc3⟩ := hof hfl
            simp only [Option.some.injEq, Addr.mk.injEq, and_true] at e3
            obtain ⟨rfl, rfl⟩ := e3
            obtain ⟨x, hx⟩ : ∃ x, f[j]? = some x := ⟨f[j], List.getElem?_eq_getElem hlj⟩
            have e0 := hc3 j x hx
            have hd := unhide HD
            rw [drop_at12 hx, Z.eat] at hd
            have CI := zindex_any u5 Y x wr (Gl.owned hown) (by omega)
            obtain ⟨ya, yc, rfl, -⟩ := (show Il wr u5 Y from Gl.owned hown).open
            clear hof hc3 hx
            by_cases hm : x ∈ Y
            · rw [if_pos hm] at hd
              have hi : Y.idxOf x < Y.length := List.idxOf_lt_length_iff.2 hm
              rw [Z.ix, if_pos hm] at CI
              obtain ⟨i, hie⟩ : ∃ i, Y.idxOf x = i := ⟨_, rfl⟩
              have hE := zerase Y x
              rw [hie] at CI hi hE
              have hel : (Y.eraseIdx i).length = Y.length - 1 := by rw [List.length_eraseIdx, if_pos hi]
              obtain ⟨g, cap9, e9, -⟩ : ∃ g cap9, Value.slice ya Y.length yc = .slice (some ⟨g, 0, none⟩) Y.length cap9 ∧ True := by
                rcases own_form hown with ⟨e, h0⟩ | ⟨g, c, e, -⟩
                · omega
                · exact ⟨g, c, e, trivial⟩
              simp only [Value.slice.injEq, true_and] at e9
              obtain ⟨rfl, rfl⟩ := e9
              have CD := zdel_any w.heap.size g yc i Y wr hown hi
              have HD2 : Hid ((match Z.eat (Y.eraseIdx i) (f.drop (j + 1)) with | none => false | some l' => Z.eats l' (p.drop (k + 1))) = r) := by rw [hE]; exact hd
              have hlt' := (hown.lt g rfl).1
              have hs := hbel.size
              clear hd hie hE hm
              go_wp2_with fail
              refine CI.mono ?_
              rintro e w' ⟨rfl, rfl⟩
              clear CI
              go_wp2_with fail
              refine CD.mono ?_
              rintro e w2 ⟨rfl, O2, G2⟩
              have BB : Below w.heap.size w w2 := hbel.grown G2 hs (fun k hk => by simp at hk; omega)
              clear CD G2 hown hbel
              go_wp2
              go_roundw
              case rel => exact ⟨j + 1, Y.eraseIdx i, by omega, by go_num, by omega, HD2, O2, BB⟩
              case measure => simp [intOf]; omega
            · rw [if_neg hm] at hd
              rw [zix_not hm] at CI
              subst hd
              clear hm
              go_wp2_with fail
              refine CI.mono ?_
              rintro e w' ⟨rfl, rfl⟩
              clear CI
              go_wp2
              go_ret
              exact ⟨rfl, hbel⟩
          · have hd := unhide HD
            rw [List.drop_eq_nil_of_le (by omega), Z.eat] at hd
            have HD2 : Hid (Z.eats Y (p.drop (k + 1)) = r) := hd
            clear hd
            go_wp2
            go_roundw
            case rel => exact ⟨k + 1, Y, by omega, by go_num, hY, HD2, hown, hbel⟩
            case measure => simp [intOf]; omega
    · have hd := unhide HR
      rw [List.drop_eq_nil_of_le (by omega), Z.eats] at hd
      subst hd
      go_wp2
      go_ret
      exact ⟨rfl, hbel⟩
end Go.Proofs.Ytfniphaehggcgaa

/-
  What comes of proposals that are done, in plain words: one behind the other, with what stays so at each step. No program is named here.
-/
namespace Go.Proofs.Ytfniphaehggcgaa
set_option maxRecDepth 100000
open Go.RowKit

namespace Z
/-! ### Numbers that are taken, each once -/

theorem mem_erase_nd {X : List Int} {x y : Int} (h : X.Nodup) : y ∈ X.erase x ↔ y ≠ x ∧ y ∈ X := by rw [h.mem_erase_iff]
theorem eat_iff : ∀ (f X : List Int), X.Nodup → ((∃ Y, eat X f = some Y) ↔ f.Nodup ∧ ∀ x ∈ f, x ∈ X)
  | [], X, _ => by simp [eat]
  | g :: r, X, h => by
    rw [eat]
    split
    · rename_i hg
      have ih := eat_iff r (X.erase g) (h.erase g)
      rw [ih, List.nodup_cons]
      constructor
      · rintro ⟨h1, h2⟩
        refine ⟨⟨fun hm => ((mem_erase_nd h).1 (h2 g hm)).1 rfl, h1⟩, fun x hx => ?_⟩
        rcases List.mem_cons.1 hx with rfl | hx
        · exact hg
        · exact ((mem_erase_nd h).1 (h2 x hx)).2
      · rintro ⟨⟨h1, h2⟩, h3⟩
        exact ⟨h2, fun x hx => (mem_erase_nd h).2 ⟨fun e => h1 (e ▸ hx), h3 x (by simp [hx])⟩⟩
    · rename_i hg
      constructor
      · rintro ⟨Y, hY⟩; cases hY
      · rintro ⟨-, h3⟩; exact absurd (h3 g (by simp)) hg
theorem eat_mem : ∀ {f X Y : List Int}, X.Nodup → eat X f = some Y → Y.Nodup ∧ ∀ y, y ∈ Y ↔ y ∈ X ∧ y ∉ f
  | [], X, Y, h, he => by
    simp only [eat, Option.some.injEq] at he
    subst he
    exact ⟨h, fun y => by simp⟩
  | g :: r, X, Y, h, he => by
    rw [eat] at he
    split at he
    · obtain ⟨h1, h2⟩ := eat_mem (h.erase g) he
      refine ⟨h1, fun y => ?_⟩
      rw [h2, mem_erase_nd h, List.mem_cons]
      constructor
      · rintro ⟨⟨k1, k2⟩, k3⟩; exact ⟨k2, fun h => h.elim k1 k3⟩
      · rintro ⟨k1, k2⟩; exact ⟨⟨fun e => k2 (.inl e), k1⟩, fun e => k2 (.inr e)⟩
    · cases he
theorem eats_iff : ∀ (p : List (List Int)) (X : List Int), X.Nodup → (eats X p = true ↔ (∀ f ∈ p, f ≠ []) ∧ p.flatten.Nodup ∧ ∀ x ∈ p.flatten, x ∈ X)
  | [], X, _ => by simp [eats]
  | f :: p, X, h => by
    rw [eats]
    split
    · rename_i hf
      subst hf
      simp
    · rename_i hf
      cases he : eat X f with
      | none =>
        simp only [Bool.false_eq_true, false_iff]
        rintro ⟨-, h2, h3⟩
        rw [List.flatten_cons, List.nodup_append] at h2
        obtain ⟨Y, hY⟩ := (eat_iff f X h).2 ⟨h2.1, fun x hx => h3 x (by rw [List.flatten_cons]; exact List.mem_append_left _ hx)⟩
        rw [he] at hY
        cases hY
      | some Y =>
        obtain ⟨hY1, hY2⟩ := eat_mem h he
        obtain ⟨hn, hs⟩ := (eat_iff f X h).1 ⟨Y, he⟩
        simp only
        rw [eats_iff p Y hY1, List.flatten_cons, List.nodup_append]
        constructor
        · rintro ⟨k1, k2, k3⟩
          refine ⟨fun g hg => ?_, ⟨hn, k2, fun a ha b hb e => ?_⟩, fun x hx => ?_⟩
          · rcases List.mem_cons.1 hg with rfl | hg
            · exact hf
            · exact k1 g hg
          · exact ((hY2 b).1 (k3 b hb)).2 (e ▸ ha)
          · rcases List.mem_append.1 hx with hx | hx
            · exact hs x hx
            · exact ((hY2 x).1 (k3 x hx)).1
        · rintro ⟨k1, ⟨-, k2, k3⟩, k4⟩
          exact ⟨fun g hg => k1 g (by simp [hg]), k2, fun x hx => (hY2 x).2 ⟨k4 x (List.mem_append_right _ hx), fun hxf => k3 x hxf x hx rfl⟩⟩
theorem flat_ge : ∀ {p : List (List Int)}, (∀ f ∈ p, f ≠ []) → p.length ≤ p.flatten.length
  | [], _ => by simp
  | f :: p, h => by
    have h1 := flat_ge (p := p) (fun g hg => h g (by simp [hg]))
    have h2 : 0 < f.length := List.length_pos_iff.2 (h f (by simp))
    simp only [List.length_cons, List.flatten_cons, List.length_append]
    omega
theorem nodup_len {l m : List Int} (h : l.Nodup) (hs : ∀ x ∈ l, x ∈ m) : l.length ≤ m.length := h.length_le_of_subset hs
theorem eats_len {X : List Int} {p : List (List Int)} (h : X.Nodup) (he : eats X p = true) : p.length ≤ X.length := by
  obtain ⟨h1, h2, h3⟩ := (eats_iff p X h).1 he
  exact Nat.le_trans (flat_ge h1) (nodup_len h2 h3)

/-! ### A step -/

def isIn (f : List Int) (s : Sz) : Bool := decide (s.gen ∈ f)
def docs (a : List Sz) (f : List Int) : Int := lives (a.filter (isIn f))
def made (a : List Sz) (f : List Int) (g : Int) : Sz := ⟨g, docs a f, 0, false⟩
def step (a : List Sz) (f : List Int) (g : Int) : List Sz := repl (isIn f) (made a f g) a
/-- Proposals, one behind the other; none, if there would be too many documents. -/
def going : List Sz → List (List Int) → Int → Option (List Sz)
  | a, [], _ => some a
  | a, f :: p, g => if 64 < docs a f then none else going (step a f g) p (g + 1)
/-- What stays so: the sizes at hand, what is still to be done, and the next number. -/
structure Go (a : List Sz) (p : List (List Int)) (g : Int) : Prop where
  len : a.length ≤ 16
  ok : ∀ s ∈ a, Ok s
  nodup : (gens a).Nodup
  low : ∀ s ∈ a, s.gen < g
  pos : 1 ≤ g
  flat : p.flatten.Nodup
  sub : ∀ x ∈ p.flatten, x ∈ gens a
  ne : ∀ f ∈ p, f ≠ []
  top : g + p.length ≤ 34359738368
theorem Go.start {L : List Sz} {p : List (List Int)} (h : Ready L) (he : eats (gens L) p = true) (ht : great L + p.length ≤ 34359738367) : Go L p (great L + 1) := by
  obtain ⟨h1, h2, h3⟩ := (eats_iff p _ h.2.2).1 he
  exact ⟨h.1, h.2.1, h.2.2, fun s hs => by have := zgreat_ge hs; omega, by have := zgreat_pos L; omega, h2, h3, h1, by omega⟩

theorem lives_perm {a b : List Sz} (h : a.Perm b) : lives a = lives b := by
  induction h with
  | nil => rfl
  | cons x _ ih => simp only [lives, ih]
  | swap x y l => simp only [lives]; omega
  | trans _ _ h1 h2 => rw [h1, h2]
theorem lives_split (so : Sz → Bool) (a : List Sz) : lives (a.filter so) + lives (a.filter fun s => !so s) = lives a := by
  induction a with
  | nil => rfl
  | cons s r ih =>
    cases h : so s <;> simp only [List.filter_cons, h, if_true, if_false, Bool.not_true, Bool.not_false, lives, Bool.false_eq_true] <;> omega
theorem repl_perm (so : Sz → Bool) (m : Sz) (a : List Sz) : (repl so m a).Perm (if m.docs = 0 then a.filter (fun s => !so s) else m :: a.filter fun s => !so s) := by
  rw [repl]
  split
  · exact .refl _
  · rw [List.append_assoc, List.singleton_append]
    refine List.perm_middle.trans (.cons _ ?_)
    rw [List.take_append_drop]
theorem mem_repl {so : Sz → Bool} {m x : Sz} {a : List Sz} : x ∈ repl so m a ↔ (x ∈ a ∧ so x = false) ∨ (m.docs ≠ 0 ∧ x = m) := by
  rw [(repl_perm so m a).mem_iff]
  split
  · rename_i h
    simp [h]
  · rename_i h
    simp [h]
    constructor
    · rintro (h | h)
      · exact .inr h
      · exact .inl h
    · rintro (h | h)
      · exact .inr h
      · exact .inl h
theorem docs_nonneg {a : List Sz} (h : ∀ s ∈ a, Ok s) (f : List Int) : 0 ≤ docs a f := (lives_le (fun s hs => h s (List.mem_filter.1 hs).1)).1
theorem lives_step (a : List Sz) (f : List Int) (g : Int) : lives (step a f g) = lives a := by
  rw [step, lives_perm (repl_perm _ _ _)]
  have h := lives_split (isIn f) a
  split
  · rename_i h0
    have : docs a f = 0 := h0
    unfold docs at this
    omega
  · simp only [lives]
    have : live (made a f g) = docs a f := by simp [live, made]
    rw [this]
    unfold docs
    omega
theorem len_split (so : Sz → Bool) (a : List Sz) : (a.filter so).length + (a.filter fun s => !so s).length = a.length := by
  induction a with
  | nil => rfl
  | cons s r ih =>
    cases h : so s <;> simp only [List.filter_cons, h, if_true, if_false, Bool.not_true, Bool.not_false, Bool.false_eq_true, List.length_cons] <;> omega
theorem isIn_len {a : List Sz} {f : List Int} (hn : f.Nodup) (hs : ∀ x ∈ f, x ∈ gens a) : f.length ≤ (a.filter (isIn f)).length := by
  have : (gens (a.filter (isIn f))).length = (a.filter (isIn f)).length := by simp [gens]
  rw [← this]
  refine nodup_len hn fun x hx => ?_
  obtain ⟨s, h1, h2⟩ := List.mem_map.1 (hs x hx)
  exact List.mem_map.2 ⟨s, List.mem_filter.2 ⟨h1, by simp [isIn, h2, hx]⟩, h2⟩
theorem step_len {a : List Sz} {f : List Int} {g : Int} (hn : f.Nodup) (hs : ∀ x ∈ f, x ∈ gens a) : (step a f g).length + f.length ≤ a.length + 1 := by
  have h1 := (repl_perm (isIn f) (made a f g) a).length_eq
  have h2 := len_split (isIn f) a
  have h3 := isIn_len hn hs
  show (repl _ _ _).length + _ ≤ _
  rw [h1]
  split
  · omega
  · simp only [List.length_cons]; omega
theorem step_gone {a : List Sz} {f : List Int} {g : Int} (hn : f.Nodup) (hs : ∀ x ∈ f, x ∈ gens a) (h0 : docs a f = 0) : (step a f g).length + f.length ≤ a.length := by
  have h1 := (repl_perm (isIn f) (made a f g) a).length_eq
  have h2 := len_split (isIn f) a
  have h3 := isIn_len hn hs
  show (repl _ _ _).length + _ ≤ _
  rw [h1, if_pos (show (made a f g).docs = 0 from h0)]
  omega

theorem Go.next {a : List Sz} {f : List Int} {p : List (List Int)} {g : Int} (h : Go a (f :: p) g) (hd : docs a f ≤ 64) : Go (step a f g) p (g + 1) := by
  have hfl := h.flat
  rw [List.flatten_cons, List.nodup_append] at hfl
  obtain ⟨f1, f2, f3⟩ := hfl
  have hsub : ∀ x ∈ f, x ∈ gens a := fun x hx => h.sub x (by rw [List.flatten_cons]; exact List.mem_append_left _ hx)
  have hne : 0 < f.length := List.length_pos_iff.2 (h.ne f (by simp))
  have hd0 := docs_nonneg h.ok f
  have htop := h.top
  have hpos := h.pos
  simp only [List.length_cons] at htop
  have hmem : ∀ s ∈ step a f g, (s ∈ a ∧ s.gen ∉ f) ∨ (docs a f ≠ 0 ∧ s = made a f g) := fun s hs => by
    rcases mem_repl.1 hs with ⟨k1, k2⟩ | k
    · exact .inl ⟨k1, by simpa [isIn] using k2⟩
    · exact .inr k
  constructor
  · have := step_len (g := g) f1 hsub
    have := h.len
    omega
  · intro s hs
    rcases hmem s hs with ⟨k1, -⟩ | ⟨-, rfl⟩
    · exact h.ok s k1
    · refine ⟨⟨hpos, ?_⟩, ⟨hd0, hd⟩, ⟨Int.le_refl _, hd0⟩⟩
      show g ≤ 34359738367
      omega
  · have hp := (repl_perm (isIn f) (made a f g) a).map (·.gen)
    show ((repl _ _ _).map _).Nodup
    rw [hp.nodup_iff]
    have hfn : ((a.filter fun s => !isIn f s).map (·.gen)).Nodup := h.nodup.sublist (List.filter_sublist.map _)
    split
    · exact hfn
    · rw [List.map_cons, List.nodup_cons]
      refine ⟨fun hm => ?_, hfn⟩
      obtain ⟨s, h1, h2⟩ := List.mem_map.1 hm
      have := h.low s (List.mem_filter.1 h1).1
      have : (made a f g).gen = g := rfl
      omega
  · intro s hs
    rcases hmem s hs with ⟨k1, -⟩ | ⟨-, rfl⟩
    · have := h.low s k1; omega
    · show g < g + 1; omega
  · omega
  · exact f2
  · intro x hx
    obtain ⟨s, h1, h2⟩ := List.mem_map.1 (h.sub x (by rw [List.flatten_cons]; exact List.mem_append_right _ hx))
    refine List.mem_map.2 ⟨s, mem_repl.2 (.inl ⟨h1, ?_⟩), h2⟩
    simp only [isIn, decide_eq_false_iff_not, h2]
    exact fun hf => f3 x hf x hx rfl
  · exact fun q hq => h.ne q (by simp [hq])
  · omega
theorem Go.any {a : List Sz} {f : List Int} {p : List (List Int)} {g : Int} (h : Go a (f :: p) g) : a.any (isIn f) = true := by
  obtain ⟨x, hx⟩ := List.exists_mem_of_ne_nil f (h.ne f (by simp))
  obtain ⟨s, h1, h2⟩ := List.mem_map.1 (h.sub x (by rw [List.flatten_cons]; exact List.mem_append_left _ hx))
  exact List.any_eq_true.2 ⟨s, h1, by simp [isIn, h2, hx]⟩

/-- The sizes behind proposals. -/
def after (r : Bool) (L : List Sz) (p : List (List Int)) : List Sz :=
  if (r && (eats (gens L) p && decide (great L + p.length ≤ 34359738367))) = true then (going L p (great L + 1)).getD [] else []
end Z
end Go.Proofs.Ytfniphaehggcgaa
