/-
  The contract of the document's own Build.
-/
import Derived.Test.YtonhehhmnobciaaEx8
import Derived.Test.YtonhehhmnobciaaPlainS8
import Derived.Test.YtonhehhmnobciaaOwnS8
import Derived.Test.YtonhehhmnobciaaMayAll8
import Derived.Test.YtonhehhmnobciaaBehind8
import Derived.Test.YtonhehhmnobciaaKBase8
import Derived.Test.YtonhehhmnobciaaSmall8
import Derived.BigQuiet
import Derived.Test.YtonhehhmnobciaaBuild8
import Derived.Test.YtonhehhmnobciaaRAdd7
import Derived.Test.YtonhehhmnobciaaFew8
import Derived.Deep.QuietTactic
import Derived.Deep.RegionLaw
import Derived.Deep.CutRange
import Derived.Deep.AppendLies
namespace Go.Proofs.Ytonhehhmnobciaa
set_option maxRecDepth 100000
namespace S

theorem words_step {l : List Cd} {i : Nat} {c : Cd} (h : l[i]? = some c) : words (l.take (i + 1)) = D.adds (words (l.take i)) c.w := by
  unfold words D.un
  obtain ⟨hi, rfl⟩ := List.getElem?_eq_some_iff.1 h
  rw [List.take_succ_eq_append_getElem hi, List.map_append, List.foldl_append]
  rfl
theorem adds_app : ∀ (a b o : List ByteArray), D.adds o (a ++ b) = D.adds (D.adds o a) b
  | [], _, _ => rfl
  | x :: a, b, o => adds_app a b (D.add o x)
theorem adds_step {w o : List ByteArray} {k : Nat} {x : ByteArray} (h : w[k]? = some x) : D.adds o (w.take (k + 1)) = D.add (D.adds o (w.take k)) x := by
  obtain ⟨hk, rfl⟩ := List.getElem?_eq_some_iff.1 h
  rw [List.take_succ_eq_append_getElem hk, adds_app]
  rfl
theorem words_len {l : List Cd} (h : ∀ c ∈ l, c.w.length ≤ 120) : ∀ i, i ≤ l.length → (words (l.take i)).length ≤ i * 120
  | 0, _ => by simp [words, D.un]
  | i + 1, hi => by
    have hc : l[i]? = some l[i] := List.getElem?_eq_getElem (by omega)
    have h1 := words_len h i (by omega)
    have h2 := D.adds_len l[i].w (words (l.take i))
    have h3 := h l[i] (List.getElem_mem _)
    rw [words_step hc]
    omega

theorem mayAll_fit {l : List Cd} {c : Cd} (hc : c ∈ l) (h : fits c = false) : mayAll l = false := by
  cases hm : mayAll l with
  | false => rfl
  | true =>
    unfold mayAll at hm
    rw [Bool.and_eq_true, List.all_eq_true] at hm
    rw [hm.1 c hc] at h
    cases h
theorem mayAll_two {l : List Cd} {i j : Nat} {a b : Cd} (hi : l[i]? = some a) (hj : l[j]? = some b) (hij : i < j) (h : a.id = b.id) : mayAll l = false := by
  cases hm : mayAll l with
  | false => rfl
  | true =>
    unfold mayAll at hm
    rw [Bool.and_eq_true, decide_eq_true_eq, List.nodup_iff_pairwise_ne, List.pairwise_map] at hm
    obtain ⟨i1, r1⟩ := List.getElem?_eq_some_iff.1 hi
    obtain ⟨j1, r2⟩ := List.getElem?_eq_some_iff.1 hj
    have := List.pairwise_iff_getElem.1 hm.2 i j i1 j1 hij
    rw [r1, r2] at this
    exact absurd h this
theorem mayAll_all {l : List Cd} (h : ∀ (j : Nat) (c : Cd), l[j]? = some c → fits c = true) (k : ∀ (i j : Nat) (a b : Cd), i < j → l[i]? = some a → l[j]? = some b → a.id ≠ b.id) : mayAll l = true := by
  unfold mayAll
  rw [Bool.and_eq_true, List.all_eq_true, decide_eq_true_eq, List.nodup_iff_pairwise_ne, List.pairwise_map]
  refine ⟨fun c hc => ?_, List.pairwise_iff_getElem.2 fun i j hi hj hij => k i j _ _ hij (List.getElem?_eq_getElem hi) (List.getElem?_eq_getElem hj)⟩
  obtain ⟨j, hj, e⟩ := List.mem_iff_getElem.1 hc
  exact h j c (by rw [List.getElem?_eq_getElem hj, e])

theorem build_arg {l : List Cd} {so : Bool} (h : mayAll l = false) : build l so = (Sg.none, false, 1) := by unfold build; rw [if_pos h]
theorem build_long {l : List Cd} {so : Bool} (h : mayAll l = true) (hl : 64 < l.length) : build l so = (Sg.none, false, 8) := by
  unfold build
  rw [if_neg (by rw [h]; decide), if_pos hl]
theorem build_many {l : List Cd} {so : Bool} (h : mayAll l = true) (hl : l.length ≤ 64) (hw : 200 < (words l).length) : build l so = (Sg.none, false, 8) := by
  unfold build
  have hf : ∀ c ∈ l, fits c = true := by
    unfold mayAll at h
    rw [Bool.and_eq_true, List.all_eq_true] at h
    exact h.1
  rw [if_neg (by rw [h]; decide), if_neg (by omega), if_pos]
  rw [words_may hf]
  exact decide_eq_false (by omega)
theorem build_yes {l : List Cd} {so : Bool} (h : mayAll l = true) (hl : l.length ≤ 64) (hw : (words l).length ≤ 200) : build l so = (seg (if so = true then srt l else l), so, 0) := by
  unfold build
  have hf : ∀ c ∈ l, fits c = true := by
    unfold mayAll at h
    rw [Bool.and_eq_true, List.all_eq_true] at h
    exact h.1
  rw [if_neg (by rw [h]; decide), if_neg (by omega), if_neg]
  rw [words_may hf, decide_eq_true hw]
  decide
end S
end Go.Proofs.Ytonhehhmnobciaa

namespace Go.Proofs.Ytonhehhmnobciaa
set_option maxRecDepth 100000
open Go.RowKit

theorem fits_no {c : Cd} {r : Bool} (hr : S.fits c = r) (h : ¬ (c.w.length ≤ 120 ∧ (∀ x ∈ c.w, 1 ≤ x.size ∧ x.size ≤ 32) ∧ 1 ≤ c.id.size ∧ c.id.size ≤ 16 ∧ 0 ≤ c.key ∧ c.key ≤ 1073741824)) : r = false := by
  cases r with
  | false => rfl
  | true => exact absurd (S.fits_w hr) h
theorem fits_yes {c : Cd} {r : Bool} (hr : S.fits c = r) (h : c.w.length ≤ 120 ∧ (∀ x ∈ c.w, 1 ≤ x.size ∧ x.size ≤ 32) ∧ 1 ≤ c.id.size ∧ c.id.size ≤ 16 ∧ 0 ≤ c.key ∧ c.key ≤ 1073741824) : r = true := by
  rw [← hr]
  simp only [S.fits, Bool.and_eq_true, decide_eq_true_eq, List.all_eq_true]
  exact ⟨⟨⟨⟨⟨h.1, fun x hx => h.2.1 x hx⟩, h.2.2.1⟩, h.2.2.2.1⟩, h.2.2.2.2.1⟩, h.2.2.2.2.2⟩

set_option maxRecDepth 100000 in
set_option maxHeartbeats 4000000 in
theorem rfits_b (c : Cd) (wa : Option Addr) (wc : Nat) (w : World) (h : Gl .string w (.slice wa c.w.length wc) c.w) (r : Bool) (hr : S.fits c = r) :
    Calls Try.prog 33 #[.agg #[.string c.id, .int .i64 c.key, .slice wa c.w.length wc]] w fun e w' => e = .returned (.bool r) ∧ Below w.heap.size w w' := by
  obtain ⟨W, hW⟩ : ∃ W, W = w.alloc (.cells #[.string c.id, .int .i64 c.key, .slice wa c.w.length wc] 25) := ⟨_, rfl⟩
  have BW : Below w.heap.size w W := by rw [hW]; exact below_alloc _ _
  have X0 : W.heap[w.heap.size]? = some (.cells #[.string c.id, .int .i64 c.key, .slice wa c.w.length wc] 25 (0, 0)) := by rw [hW]; exact heap_alloc_new w _
  have HG := h.below BW
  have HR := hide hr
  have HW := hide hW
  have x0 := box_cell X0 (j := 0) rfl
  have x1 := box_cell X0 (j := 1) rfl
  have x2 := box_cell X0 (j := 2) rfl
  obtain ⟨a', c', hv', hl', hm', hn', hoW⟩ := HG.open
  simp only [Value.slice.injEq, true_and] at hv'
  obtain ⟨rfl, rfl⟩ := hv'
  clear hW h hr X0 HG
  by_cases h120 : 120 < c.w.length
  · have hf : r = false := fits_no (unhide HR) (fun h => by omega)
    subst hf
    clear hoW
    go_enter Try.func33, Try.ntmps33
    go_wp2
    go_ret
    exact ⟨rfl, by rw [← unhide HW]; exact BW⟩
  go_enter Try.func33, Try.ntmps33
  go_wp2
  rw [← unhide HW]
  go_loop [3] (fun iv => ∃ k : Nat, k ≤ c.w.length ∧ iv = .int .i64 k ∧ Hid (∀ i x, i < k → c.w[i]? = some x → 1 ≤ x.size ∧ x.size ≤ 32)) (fun iv => c.w.length - (intOf iv).toNat)
  case atStart => exact ⟨0, Nat.zero_le _, rfl, hide (fun i y hi _ => by omega)⟩
  case round =>
    obtain ⟨k, hk, rfl, HA⟩ := hrel
    by_cases hlt : k < c.w.length
    · obtain ⟨b, off, rfl, hb, hc⟩ := hoW (by omega)
      obtain ⟨x, hx⟩ : ∃ x, c.w[k]? = some x := ⟨c.w[k], List.getElem?_eq_getElem hlt⟩
      have d0 := hc k x hx
      have HX := hide hx
      clear hoW hc hx
      by_cases h1 : x.size < 1
      · have hf : r = false := fits_no (unhide HR) (fun h => by have := h.2.1 x (List.mem_of_getElem? (unhide HX)); omega)
        subst hf
        go_wp2
        go_ret
        exact ⟨rfl, BW⟩
      by_cases h2 : 32 < x.size
      · have hf : r = false := fits_no (unhide HR) (fun h => by have := h.2.1 x (List.mem_of_getElem? (unhide HX)); omega)
        subst hf
        go_wp2
        go_ret
        exact ⟨rfl, BW⟩
      · go_wp2
        go_round
        case rel =>
          refine ⟨k + 1, by omega, by go_num, hide (fun i y hi hy => ?_)⟩
          by_cases e : i = k
          · subst e
            rw [unhide HX] at hy
            cases hy
            omega
          · exact unhide HA i y (by omega) hy
        case measure => simp [intOf]; omega
    · clear hoW
      have HWD : Hid (∀ x ∈ c.w, 1 ≤ x.size ∧ x.size ≤ 32) := hide (fun x hx => by
        obtain ⟨m, hm2, e2⟩ := List.mem_iff_getElem.1 hx
        exact unhide HA m x (by omega) (by rw [List.getElem?_eq_getElem hm2, e2]))
      by_cases g1 : c.id.size < 1
      · have hf : r = false := fits_no (unhide HR) (fun h => by omega)
        subst hf
        go_wp2
        go_ret
        exact ⟨rfl, BW⟩
      by_cases g2 : 16 < c.id.size
      · have hf : r = false := fits_no (unhide HR) (fun h => by omega)
        subst hf
        go_wp2
        go_ret
        exact ⟨rfl, BW⟩
      by_cases g3 : c.key < 0
      · have hf : r = false := fits_no (unhide HR) (fun h => by omega)
        subst hf
        go_wp2
        go_ret
        exact ⟨rfl, BW⟩
      by_cases g4 : 1073741824 < c.key
      · have hf : r = false := fits_no (unhide HR) (fun h => by omega)
        subst hf
        have g5 : decide (c.key ≤ 1073741824) = false := by simp; omega
        go_wp2
        go_ret
        refine ⟨?_, BW⟩
        first | rfl | (simp; omega)
      · have hf : r = true := fits_yes (unhide HR) ⟨by omega, unhide HWD, by omega, by omega, by omega, by omega⟩
        subst hf
        go_wp2
        go_ret
        exact ⟨rfl, BW⟩

set_option maxRecDepth 100000 in
set_option maxHeartbeats 4000000 in
theorem rplaces_any (v : Value) (l : List ByteArray) (t : ByteArray) (w : World) (h : Gl .string w v l) (hl1 : l.length ≤ 1000) :
    Calls Try.prog 74 #[v, .string t] w fun e w' => ∃ v', e = .returned v' ∧ Pa w.heap.size w' v' (S.places l t) ∧ Below w.heap.size w w' := by
  obtain ⟨j0, hj, hj0, hj1, hj2⟩ := info_parts Try.info3
  have G := h
  obtain ⟨a, cap, rfl, hl, hm, hna, -⟩ := h.open
  clear h
  go_enter Try.func74, Try.ntmps74
  go_wp2
  go_loopw [5, 6] (fun ov iv wr => ∃ (k : Nat) (pre : List Int), k ≤ l.length ∧ iv = .int .i64 k ∧ Hid (pre = S.places (l.take k) t) ∧ pre.length ≤ k ∧ wr.ownsRow w.heap.size 3 1 ov pre.length (pre.map (Value.int .i64)) ∧ Below w.heap.size w wr) (fun _ iv _ => l.length - (intOf iv).toNat)
  case atStart => exact ⟨0, [], Nat.zero_le _, rfl, rfl, by simp, World.ownsRow_nil _ _ _ _, Below.refl _ _⟩
  case round =>
    obtain ⟨k2, pre2, hk2, rfl, HP2, hpre2, hown2, hbel2⟩ := hrel
    by_cases hlt2 : k2 < l.length
    · obtain ⟨a', c', hv', -, -, -, ho⟩ := (G.below hbel2).open
      simp only [Value.slice.injEq, true_and] at hv'
      obtain ⟨rfl, rfl⟩ := hv'
      obtain ⟨b, off, rfl, hb, hcell⟩ := ho (by omega)
      obtain ⟨x, hx⟩ : ∃ x, l[k2]? = some x := ⟨l[k2], List.getElem?_eq_getElem hlt2⟩
      have c0 := hcell k2 x hx
      have HST := hide (S.places_step hx t)
      have hbs := hbel2.size
      clear ho hcell hx
      by_cases hxt : x = t
      · subst hxt
        have q1 : (x.toList == x.toList) = true := by simp
        rw [if_pos rfl] at HST
        go_wp2_with (at_builtin; refine append_oneK (f := Value.int .i64) rfl _ _ 28 rfl Try.underlying28 hj hj0 hj1 hj2 rfl (fun _ => rfl) (pre := pre2) (y := (k2 : Int)) rfl rfl hown2 hbel2 (Nat.le_refl _) hbs (by omega) (by decide) ?_; intro v6 w6 O6 B6 g6 l6)
        clear g6 l6 hown2 hbel2
        go_roundw
        case rel =>
          refine ⟨k2 + 1, pre2 ++ [(k2 : Int)], by omega, by go_num, ?_, by simp; omega, O6, B6⟩
          show _ = _
          rw [unhide HST, ← unhide HP2]
        case measure => simp [intOf]; omega
      · have q1 : (x.toList == t.toList) = false := by rw [K.eq_to]; simpa using hxt
        rw [if_neg hxt, List.append_nil] at HST
        clear hxt
        go_wp2
        go_roundw
        case rel =>
          refine ⟨k2 + 1, pre2, by omega, by go_num, ?_, by omega, hown2, hbel2⟩
          show _ = _
          rw [unhide HST, ← unhide HP2]
        case measure => simp [intOf]; omega
    · have hpre' : pre2 = S.places l t := by rw [unhide HP2, List.take_of_length_le (by omega)]
      rw [hpre'] at hown2
      clear HP2 hpre2 hpre'
      go_wp2
      go_ret
      exact ⟨_, rfl, hown2, hbel2⟩
end Go.Proofs.Ytonhehhmnobciaa

namespace Go.Proofs.Ytonhehhmnobciaa
set_option maxRecDepth 100000
open Go.RowKit

/-- Postings of the call's own. -/
def OwnP (B : Nat) (w : World) (s : Pts) (qs : List (Pt × Pts)) : Prop :=
  w.ownsRow B 51 2 (sv s) qs.length (qs.flatMap encP) ∧ ∀ q ∈ qs, Pa B w (sv q.2) q.1.a
theorem OwnP.below {B : Nat} {w w' : World} {s : Pts} {qs : List (Pt × Pts)} (h : OwnP B w s qs) (hb : Below w.heap.size w w') : OwnP B w' s qs := ⟨own_below h.1 hb, fun q hq => own_below (h.2 q hq) hb⟩
theorem OwnP.mono {B B' : Nat} {w : World} {s : Pts} {qs : List (Pt × Pts)} (h : OwnP B w s qs) (hB : B' ≤ B) : OwnP B' w s qs := ⟨own_mono h.1 hB, fun q hq => own_mono (h.2 q hq) hB⟩
theorem OwnP.pl {B : Nat} {w : World} {s : Pts} {qs : List (Pt × Pts)} (h : OwnP B w s qs) : Pl w (sv s) (qs.map (·.1)) := by
  obtain ⟨a, cap, hv, hl, hm, hn, hc⟩ := Kl.owned encP_len (by decide) h.1
  refine ⟨a, cap, by rw [hv, List.length_map], by simpa using hl, hm, hn, fun x hx i p hi => ?_⟩
  rw [List.getElem?_map] at hi
  obtain ⟨q, hq, rfl⟩ := Option.map_eq_some_iff.1 hi
  exact ⟨sv q.2, hc x hx i q hq 0 _ rfl, hc x hx i q hq 1 _ rfl, Pa.sl (h.2 q (List.mem_of_getElem? hq))⟩

set_option maxRecDepth 100000 in
set_option maxHeartbeats 4000000 in
theorem postings_any (v : Value) (L : List Cd) (t : ByteArray) (w : World) (h : Cs w v L) (hll : L.length ≤ 1000) (hcw : ∀ c ∈ L, c.w.length ≤ 1000) :
    Calls Try.prog 36 #[v, .string t] w fun e w' => ∃ s qs, e = .returned (sv s) ∧ qs.map (·.1) = (S.posts L t).map S.pt ∧ OwnP w.heap.size w' s qs ∧ Below w.heap.size w w' := by
  obtain ⟨i0, hi, hz0, hz1, hz2⟩ := info_parts Try.infoP
  have H := h
  obtain ⟨a, cap, rfl, hl, hm, hna, -⟩ := h.open
  have HCW := hide hcw
  clear h hcw
  go_enter Try.func36, Try.ntmps36
  go_wp2
  go_loopw [5, 6] (fun ov iv wr => ∃ (k : Nat) (s : Pts) (qs : List (Pt × Pts)), k ≤ L.length ∧ iv = .int .i64 k ∧ ov = sv s ∧ Hid (qs.map (·.1) = (S.posts (L.take k) t).map S.pt) ∧ qs.length ≤ k ∧ OwnP w.heap.size wr s qs ∧ Below w.heap.size w wr) (fun _ iv _ => L.length - (intOf iv).toNat)
  case atStart => exact ⟨0, (none, 0, 0), [], Nat.zero_le _, rfl, rfl, rfl, Nat.zero_le _, ⟨World.ownsRow_nil _ _ _ _, (fun q hq => by cases hq)⟩, Below.refl _ _⟩
  case round =>
    obtain ⟨k, s, qs, hk, rfl, rfl, HP, hql, hO, hbel⟩ := hrel
    by_cases hlt : k < L.length
    · obtain ⟨a', c', hv', -, -, -, ho⟩ := (H.below hbel).open
      simp only [Value.slice.injEq, true_and] at hv'
      obtain ⟨rfl, rfl⟩ := hv'
      obtain ⟨b, off, rfl, hb, hc⟩ := ho (by omega)
      obtain ⟨c, hx⟩ : ∃ c, L[k]? = some c := ⟨L[k], List.getElem?_eq_getElem hlt⟩
      obtain ⟨wa, wc, c0, c1, c2, G⟩ := hc k c hx
      have hcl := unhide HCW c (List.mem_of_getElem? hx)
      have HST := hide (S.posts_step hx t)
      have hbs := hbel.size
      have HO := hide hO
      clear ho hc hx hO
      go_wp2_with fail
      refine (rplaces_any _ c.w t wr G hcl).mono ?_
      rintro e w1 ⟨v1, rfl, P1, B1⟩
      obtain ⟨dva, dvc, rfl, -⟩ := id P1.sl
      obtain ⟨z, hz⟩ : ∃ z, S.places c.w t = z := ⟨_, rfl⟩
      rw [hz] at P1 HST ⊢
      have O1 := (unhide HO).below B1
      have BB1 := below_trans' hbel B1
      have hb1 := BB1.size
      clear G c0 c1 c2 hz
      by_cases hz0' : z.length = 0
      · have hze : z = [] := List.eq_nil_of_length_eq_zero hz0'
        rw [if_pos hze, List.append_nil] at HST
        clear hze P1
        have q1 : ¬ (0 : Int) < (z.length : Int) := by omega
        go_wp2
        go_roundw
        case rel =>
          refine ⟨k + 1, s, qs, by omega, by go_num, rfl, ?_, by omega, O1, BB1⟩
          show _ = _
          rw [unhide HST]
          exact unhide HP
        case measure => simp [intOf]; omega
      · have hze : z ≠ [] := fun e => hz0' (by rw [e]; rfl)
        rw [if_neg hze] at HST
        clear hze
        have q1 : (0 : Int) < (z.length : Int) := by omega
        have HO1 := hide O1
        have OO := O1.1
        have HP1 := hide P1
        clear O1 P1
        go_wp2_with (at_builtin; refine append_oneF (f := encP) rfl _ _ 48 rfl Try.underlying48 hi hz0 hz1 hz2 rfl (by decide) encP_len encP_one (pre := qs) (⟨(k : Int), z⟩, (dva, z.length, dvc)) rfl rfl rfl rfl OO (by omega) (by omega) (by decide) ?_; intro g3 q3 w3 O3 g3' l3)
        have K3 : ∀ u y, Pa w.heap.size w1 u y → Pa w.heap.size w3 u y := fun u y h => World.ownsRow.kept h g3' (own_apart h OO (by decide))
        have OE : OwnP w.heap.size w3 (some ⟨g3, 0, none⟩, qs.length + 1, q3) (qs ++ [(⟨(k : Int), z⟩, (dva, z.length, dvc))]) := ⟨O3, fun q hq => by
          rcases List.mem_append.1 hq with hq | hq
          · exact K3 _ _ ((unhide HO1).2 q hq)
          · simp only [List.mem_cons, List.not_mem_nil, or_false] at hq
            subst hq
            exact K3 _ _ (own_mono (unhide HP1) hbs)⟩
        have B3 : Below w.heap.size w w3 := BB1.grown g3' hb1 (fun j hj => (OO.lt j hj).1)
        have HOE := hide OE
        clear K3 g3' l3 O3 OO OE
        go_wp2
        go_roundw
        case rel =>
          refine ⟨k + 1, (some ⟨g3, 0, none⟩, qs.length + 1, q3), qs ++ [(⟨(k : Int), z⟩, (dva, z.length, dvc))], by omega, by go_num, rfl, ?_, by simp; omega, unhide HOE, B3⟩
          show _ = _
          rw [unhide HST, List.map_append, List.map_append, unhide HP]
          rfl
        case measure => simp [intOf]; omega
    · have HF : Hid (qs.map (·.1) = (S.posts L t).map S.pt) := by
        show _ = _
        rw [unhide HP, List.take_of_length_le (by omega)]
      go_wp2
      go_ret
      exact ⟨s, qs, rfl, unhide HF, hO, hbel⟩
end Go.Proofs.Ytonhehhmnobciaa

namespace Go.Proofs.Ytonhehhmnobciaa
set_option maxRecDepth 100000
open Go.RowKit

/-- From an element on. -/
theorem Kl.drop {α : Type} {f : α → List Value} {k : Nat} {w : World} {b off n cap : Nat} {l : List α} (h : Kl f k w (.slice (some ⟨b, off, none⟩) n cap) l) (j : Nat) (hj : j ≤ l.length) : Kl f k w (.slice (some ⟨b, off + j * k, none⟩) (n - j) (cap - j)) (l.drop j) := by
  obtain ⟨a, c, hv, hl, hm, hn, hc⟩ := h
  simp only [Value.slice.injEq] at hv
  obtain ⟨rfl, rfl, rfl⟩ := hv
  refine ⟨_, _, by rw [List.length_drop], by rw [List.length_drop]; omega, by omega, (fun h => by cases h), fun x hx i y hi r u hu => ?_⟩
  obtain rfl := Option.some.inj hx
  rw [List.getElem?_drop] at hi
  have := hc _ rfl (j + i) y hi r u hu
  rw [Addr.add_lit] at this ⊢
  rw [show off + j * k + (i * k + r) = off + ((j + i) * k + r) by rw [Nat.add_mul]; omega]
  exact this

def Fm (v : Value) (n : Nat) : Prop := (v = .slice none 0 0 ∧ n = 0) ∨ ∃ g off cap, v = .slice (some ⟨g, off, none⟩) n cap
theorem Fm.of {w : World} {B : Nat} {e : TypeId} {k : Nat} {v : Value} {n : Nat} {xs : List Value} (h : w.ownsRow B e k v n xs) : Fm v n := by
  rcases h.2 with hn | ⟨g, cap, cur, rfl, _⟩
  · exact .inl hn
  · exact .inr ⟨g, 0, cap, rfl⟩
theorem Kl.zero {α : Type} {f : α → List Value} {k : Nat} {w : World} {a : Option Addr} {cap : Nat} (hc : cap ≤ maxLen) (hn : a = none → cap = 0) : Kl f k w (.slice a 0 cap) [] :=
  ⟨a, cap, rfl, Nat.zero_le _, hc, hn, fun x hx i y hi => by simp at hi⟩
theorem Cs.ps {w : World} {v : Value} {ps : List (Cd × Pts)} (h : Kl encC 3 w v ps) (hw : Ws w ps) : Cs w v (ps.map (·.1)) := ⟨ps, h, rfl, hw⟩

set_option linter.unusedSimpArgs false in
set_option maxRecDepth 100000 in
set_option maxHeartbeats 8000000 in
theorem in_any (v : Value) (L : List Cd) (w : World) (h : Cs w v L) (hll : L.length ≤ 1000) (hid : ∀ c ∈ L, c.id.size ≤ 1000) :
    Calls Try.prog 34 #[v] w fun e w' => ∃ v', e = .returned v' ∧ Cs w' v' (S.srt L) ∧ Below w.heap.size w w' := by
  obtain ⟨i0, hi, hz0, hz1, hz2⟩ := info_parts Try.infoC
  obtain ⟨rs, hK, hrs, hWs⟩ := h
  have hrl : rs.length = L.length := by rw [← hrs, List.length_map]
  have HH : Cs w v L := ⟨rs, hK, hrs, hWs⟩
  obtain ⟨a, cap, rfl, hl, hm, hna, -⟩ := HH.open
  have HRS := hide hrs
  have HID := hide hid
  clear hrs hid
  go_enter Try.func34, Try.ntmps34
  go_wp2
  go_loopw [3, 4] (fun ov iv wr => ∃ (i : Nat) (ps : List (Cd × Pts)), i ≤ L.length ∧ iv = .int .i64 i ∧ Hid (ps.map (·.1) = S.srt (L.take i)) ∧ ps.length ≤ i ∧ Hid (Fm ov ps.length) ∧ Kl encC 3 wr ov ps ∧ Ws wr ps ∧ Below w.heap.size w wr) (fun _ iv _ => L.length - (intOf iv).toNat)
  case atStart => exact ⟨0, [], Nat.zero_le _, rfl, rfl, Nat.zero_le _, hide (.inl ⟨rfl, rfl⟩), Kl.nil _ _ _, (fun p hp => by cases hp), Below.refl _ _⟩
  case round =>
    obtain ⟨i, ps, hi', rfl, HP, hpl, HFM, hKp, hWp, hbel⟩ := hrel
    by_cases hlt : i < L.length
    · obtain ⟨wo, hwo⟩ : ∃ wo, wo = wr := ⟨_, rfl⟩
      rw [← hwo] at hKp hWp hbel ⊢
      clear hwo
      obtain ⟨c, hx⟩ : ∃ c, rs[i]? = some c := ⟨rs[i], List.getElem?_eq_getElem (by omega)⟩
      have hLx : L[i]? = some c.1 := by rw [← unhide HRS, List.getElem?_map, hx]; rfl
      have HTS : Hid (S.srt (L.take (i + 1)) = S.ins (S.srt (L.take i)) c.1) := by
        show _ = _
        rw [take_snoc8 hLx]
        unfold S.srt
        rw [List.foldl_append]
        rfl
      have hwc := hWs c (List.mem_of_getElem? hx)
      have hidc := unhide HID c.1 (List.mem_of_getElem? hLx)
      obtain ⟨oa, oc, rfl, hol, hom, hon, -⟩ := hKp.open encC_len (by decide)
      have HX := hide hx
      have HIP : Hid (∀ q ∈ ps, q.1.id.size ≤ 1000) := hide (fun q hq => by
        have h1 : q.1 ∈ S.srt (L.take i) := by rw [← unhide HP]; exact List.mem_map.2 ⟨q, hq, rfl⟩
        exact unhide HID _ (List.mem_of_mem_take ((S.srt_perm _).subset h1)))
      clear hx hLx
      go_wp2
      go_loopw [5, 6] (fun nv kv wr => ∃ (k : Nat) (pre : List (Cd × Pts)), k ≤ ps.length ∧ kv = .int .i64 k ∧ Hid (pre = ps.take k) ∧ pre.length ≤ k ∧ Hid (∀ j q, j < k → ps[j]? = some q → S.before q.1 c.1 = true) ∧ wr.ownsRow wo.heap.size 25 3 nv pre.length (pre.flatMap encC) ∧ Below wo.heap.size wo wr) (fun _ kv _ => ps.length - (intOf kv).toNat)
      case atStart => exact ⟨0, [], Nat.zero_le _, rfl, rfl, Nat.zero_le _, hide (fun j q hj _ => by omega), World.ownsRow_nil _ _ _ _, Below.refl _ _⟩
      case round =>
        obtain ⟨k, pre, hk, rfl, HPR, hprl, HB, hown, hb2⟩ := hrel
        obtain ⟨a', c', hv', -, -, -, ho⟩ := (hK.below (below_trans' hbel hb2)).open encC_len (by decide)
        simp only [Value.slice.injEq] at hv'
        obtain ⟨rfl, -, rfl⟩ := hv'
        obtain ⟨b1, o1, rfl, hb1, hc1⟩ := ho (by omega)
        clear ho
        have d0 := hc1 i c (unhide HX) 0 _ rfl
        have d1 := hc1 i c (unhide HX) 1 _ rfl
        have d2 := hc1 i c (unhide HX) 2 _ rfl
        simp only [Nat.add_zero, ← Nat.add_assoc, sv] at d0 d1 d2
        have hbs := hb2.size
        clear hc1
        have fin : ∀ (hins : S.ins (S.srt (L.take i)) c.1 = (pre.map (·.1)) ++ c.1 :: (ps.drop k).map (·.1)), True := fun _ => trivial
        clear fin
        by_cases hkt : k < ps.length
        · obtain ⟨q, hq⟩ : ∃ q, ps[k]? = some q := ⟨ps[k], List.getElem?_eq_getElem hkt⟩
          obtain ⟨a', c', hv', -, -, -, ho⟩ := (hKp.below hb2).open encC_len (by decide)
          simp only [Value.slice.injEq, true_and] at hv'
          obtain ⟨rfl, rfl⟩ := hv'
          obtain ⟨b3, o3, rfl, hb3, hc3⟩ := ho (by omega)
          clear ho
          have e0 := hc3 k q hq 0 _ rfl
          have e1 := hc3 k q hq 1 _ rfl
          have e2 := hc3 k q hq 2 _ rfl
          simp only [Nat.add_zero, ← Nat.add_assoc, sv] at e0 e1 e2
          have hqid := unhide HIP q (List.mem_of_getElem? hq)
          have HQ := hide hq
          clear hc3 hq
          cases hbf : S.before q.1 c.1 with
          | true =>
            have HBF := hide hbf
            clear hbf
            have g0 : ∀ w', Below wr.heap.size wr w' → w'.cell? ⟨b3, o3 + k * 3, none⟩ = some (.string q.1.id) := fun w' hw' => cell_keep e0 hw'
            have g1 : ∀ w', Below wr.heap.size wr w' → w'.cell? ⟨b3, o3 + k * 3 + 1, none⟩ = some (.int .i64 q.1.key) := fun w' hw' => cell_keep e1 hw'
            have g2 : ∀ w', Below wr.heap.size wr w' → w'.cell? ⟨b3, o3 + k * 3 + 2, none⟩ = some (.slice q.2.1 q.2.2.1 q.2.2.2) := fun w' hw' => cell_keep e2 hw'
            have k0 : ∀ w', Below wr.heap.size wr w' → w'.cell? ⟨b1, o1 + i * 3, none⟩ = some (.string c.1.id) := fun w' hw' => cell_keep d0 hw'
            have k1 : ∀ w', Below wr.heap.size wr w' → w'.cell? ⟨b1, o1 + i * 3 + 1, none⟩ = some (.int .i64 c.1.key) := fun w' hw' => cell_keep d1 hw'
            have k2 : ∀ w', Below wr.heap.size wr w' → w'.cell? ⟨b1, o1 + i * 3 + 2, none⟩ = some (.slice c.2.1 c.2.2.1 c.2.2.2) := fun w' hw' => cell_keep d2 hw'
            have p1 : (k : Int) < (ps.length : Int) := by omega
            have p2 : (i : Int) < (L.length : Int) := by omega
            go_wp2
            refine region_below (by kernel_rfl) (by kernel_rfl) ?_
            repeat
              (first
                | go_big_quiet_skip
                | (go_big_quiet_want; go_big_quiet_op
                   first
                     | go_big_quiet_on
                     | (apply Exists.intro
                        refine ⟨fun w' hw' => ?_, ?_⟩
                        · first
                          | exact rfl
                          | (rw [g0 w' hw']; dsimp only [Result.andThen]; rw [g1 w' hw']; dsimp only [Result.andThen]; rw [g2 w' hw']; exact ⟨rfl, rfl⟩)
                          | (rw [k0 w' hw']; dsimp only [Result.andThen]; rw [k1 w' hw']; dsimp only [Result.andThen]; rw [k2 w' hw']; exact ⟨rfl, rfl⟩)
                          | (go_at_call 13; exact (rbefore_b q.1 c.1 _ _ _ _ _ _ _ (by unfold maxLen; omega) _ (unhide HBF)).mono fun e w'' ⟨h1, h2⟩ => ⟨h1, below_trans' hw' h2⟩)
                        go_big_quiet_on)))
            refine wpQuiet_nil ?_
            intro w4 hb4
            have B4 := below_trans' hb2 hb4
            have O4 := own_below hown hb4
            have hbs4 := B4.size
            replace d0 := cell_keep d0 hb4
            replace d1 := cell_keep d1 hb4
            replace d2 := cell_keep d2 hb4
            replace e0 := cell_keep e0 hb4
            replace e1 := cell_keep e1 hb4
            replace e2 := cell_keep e2 hb4
            clear g0 g1 g2 k0 k1 k2 hown
            go_wp2_with (at_builtin; refine append_oneF (f := encC) rfl _ _ 22 rfl Try.underlying22 hi hz0 hz1 hz2 rfl (by decide) encC_len encC_one (pre := pre) q rfl rfl rfl rfl O4 (by omega) (by omega) (by decide) ?_; intro g6 q6 w6 O6 g6' l6)
            have B6 : Below wo.heap.size wo w6 := B4.grown g6' hbs4 (fun j hj => (O4.lt j hj).1)
            clear g6' l6 O4
            go_roundw
            case rel =>
              refine ⟨k + 1, pre ++ [q], by omega, by go_num, ?_, by simp; omega, hide (fun j x hj hx => ?_), O6, B6⟩
              · show _ = _
                rw [take_snoc8 (unhide HQ), ← unhide HPR]
              · by_cases e : j = k
                · subst e
                  rw [unhide HQ] at hx
                  cases hx
                  exact unhide HBF
                · exact unhide HB j x (by omega) hx
            case measure => simp [intOf]; omega
          | false =>
            have HBF := hide hbf
            clear hbf
            have g0 : ∀ w', Below wr.heap.size wr w' → w'.cell? ⟨b3, o3 + k * 3, none⟩ = some (.string q.1.id) := fun w' hw' => cell_keep e0 hw'
            have g1 : ∀ w', Below wr.heap.size wr w' → w'.cell? ⟨b3, o3 + k * 3 + 1, none⟩ = some (.int .i64 q.1.key) := fun w' hw' => cell_keep e1 hw'
            have g2 : ∀ w', Below wr.heap.size wr w' → w'.cell? ⟨b3, o3 + k * 3 + 2, none⟩ = some (.slice q.2.1 q.2.2.1 q.2.2.2) := fun w' hw' => cell_keep e2 hw'
            have k0 : ∀ w', Below wr.heap.size wr w' → w'.cell? ⟨b1, o1 + i * 3, none⟩ = some (.string c.1.id) := fun w' hw' => cell_keep d0 hw'
            have k1 : ∀ w', Below wr.heap.size wr w' → w'.cell? ⟨b1, o1 + i * 3 + 1, none⟩ = some (.int .i64 c.1.key) := fun w' hw' => cell_keep d1 hw'
            have k2 : ∀ w', Below wr.heap.size wr w' → w'.cell? ⟨b1, o1 + i * 3 + 2, none⟩ = some (.slice c.2.1 c.2.2.1 c.2.2.2) := fun w' hw' => cell_keep d2 hw'
            have p1 : (k : Int) < (ps.length : Int) := by omega
            have p2 : (i : Int) < (L.length : Int) := by omega
            go_wp2
            refine region_below (by kernel_rfl) (by kernel_rfl) ?_
            repeat
              (first
                | go_big_quiet_skip
                | (go_big_quiet_want; go_big_quiet_op
                   first
                     | go_big_quiet_on
                     | (apply Exists.intro
                        refine ⟨fun w' hw' => ?_, ?_⟩
                        · first
                          | exact rfl
                          | (rw [g0 w' hw']; dsimp only [Result.andThen]; rw [g1 w' hw']; dsimp only [Result.andThen]; rw [g2 w' hw']; exact ⟨rfl, rfl⟩)
                          | (rw [k0 w' hw']; dsimp only [Result.andThen]; rw [k1 w' hw']; dsimp only [Result.andThen]; rw [k2 w' hw']; exact ⟨rfl, rfl⟩)
                          | (go_at_call 13; exact (rbefore_b q.1 c.1 _ _ _ _ _ _ _ (by unfold maxLen; omega) _ (unhide HBF)).mono fun e w'' ⟨h1, h2⟩ => ⟨h1, below_trans' hw' h2⟩)
                        go_big_quiet_on)))
            refine wpQuiet_nil ?_
            intro w4 hb4
            have B4 := below_trans' hb2 hb4
            have O4 := own_below hown hb4
            have hbs4 := B4.size
            replace d0 := cell_keep d0 hb4
            replace d1 := cell_keep d1 hb4
            replace d2 := cell_keep d2 hb4
            replace e0 := cell_keep e0 hb4
            replace e1 := cell_keep e1 hb4
            replace e2 := cell_keep e2 hb4
            clear g0 g1 g2 k0 k1 k2 hown
            go_wp2_with (first
              | (at_builtin; refine append_oneF (f := encC) rfl _ _ 22 rfl Try.underlying22 hi hz0 hz1 hz2 rfl (by decide) encC_len encC_one (pre := pre) c rfl rfl rfl rfl O4 (by omega) (by omega) (by decide) ?_; intro g6 q6 w6 O6 g6' l6; have B6 : Below wo.heap.size wo w6 := B4.grown g6' hbs4 (fun j hj => (O4.lt j hj).1); have K6 := (hKp.below B6).drop k (by omega); have b6 := B6.size)
              | (at_builtin; go_loud (refine append_allF (f := encC) rfl _ _ 22 rfl Try.underlying22 hi hz0 hz1 hz2 rfl (by decide) encC_len encC_one (pre := pre ++ [c]) (zs := (ps.drop k)) rfl rfl K6 O6 b6 (by have := List.length_drop (i := k) (l := ps); rw [List.length_append]; simp only [List.length_cons, List.length_nil]; omega) (by decide) ?_; intro v7 w7 O7 g7)))
            have B7 : Below wo.heap.size wo w7 := B6.grown g7 b6 (fun j hj => (O6.lt j hj).1)
            have K7 := Kl.owned encC_len (by decide) O7
            have FM7 := hide (Fm.of O7)
            have B8 := below_trans' hbel B7
            have W7 : Ws w7 ((pre ++ [c]) ++ (ps.drop k)) := fun p hp => by
              rcases List.mem_append.1 hp with hp | hp
              · rcases List.mem_append.1 hp with hp | hp
                · rw [unhide HPR] at hp
                  exact (hWp p (List.mem_of_mem_take hp)).below B7
                · simp only [List.mem_cons, List.not_mem_nil, or_false] at hp
                  subst hp
                  exact hwc.below B8
              · exact (hWp p (List.mem_of_mem_drop hp)).below B7
            have HF : Hid (((pre ++ [c]) ++ (ps.drop k)).map (·.1) = S.srt (L.take (i + 1))) := by
              show _ = _
              rw [unhide HTS, S.ins_at (k := k) (by rw [← unhide HP, List.length_map]; omega) (fun j x hj hx => by rw [← unhide HP, List.getElem?_map] at hx; obtain ⟨y, hy, rfl⟩ := Option.map_eq_some_iff.1 hx; exact unhide HB j y hj hy) (fun x hx => by rw [← unhide HP, List.getElem?_map, unhide HQ] at hx; cases hx; exact unhide HBF), unhide HPR, ← unhide HP]
              simp [List.map_take, List.map_drop]
            clear g6' l6 g7 O6 O7 K6
            go_roundw
            case rel => exact ⟨i + 1, (pre ++ [c]) ++ (ps.drop k), by omega, by go_num, HF, by have := unhide HPR; simp; omega, FM7, K7, W7, B8⟩
            case measure => simp [intOf]; omega
        · have p1 : ¬ (k : Int) < (ps.length : Int) := by omega
          have p2 : decide ((k : Int) < (ps.length : Int)) = false := by simp; omega
          have p3 : (i : Int) < (L.length : Int) := by omega
          go_wp2
          go_quiet (fail)
          have hb4 : Below wr.heap.size wr (wr.drewN nq) := below_dr (Below.refl _ _) nq
          obtain ⟨w4, hw4⟩ : ∃ w4, w4 = wr.drewN nq := ⟨_, rfl⟩
          rw [← hw4] at hb4 ⊢
          have B4 := below_trans' hb2 hb4
          have O4 := own_below hown hb4
          have hbs4 := B4.size
          replace d0 := cell_keep d0 hb4
          replace d1 := cell_keep d1 hb4
          replace d2 := cell_keep d2 hb4
          clear hown hw4 hb4
          rcases unhide HFM with ⟨hf1, hf2⟩ | ⟨g9, o9, c9, hf1⟩
          · simp only [Value.slice.injEq] at hf1
            obtain ⟨rfl, -, rfl⟩ := hf1
            have hk0 : k = 0 := by omega
            subst hk0
            have hps : ps = [] := List.eq_nil_of_length_eq_zero hf2
            subst hps
            clear hf2
            go_wp2_with (first
              | (at_builtin; refine append_oneF (f := encC) rfl _ _ 22 rfl Try.underlying22 hi hz0 hz1 hz2 rfl (by decide) encC_len encC_one (pre := pre) c rfl rfl rfl rfl O4 (by omega) (by omega) (by decide) ?_; intro g6 q6 w6 O6 g6' l6; have B6 : Below wo.heap.size wo w6 := B4.grown g6' hbs4 (fun j hj => (O4.lt j hj).1); have K6 := Kl.nil encC 3 w6; have b6 := B6.size)
              | (at_builtin; go_loud (refine append_allF (f := encC) rfl _ _ 22 rfl Try.underlying22 hi hz0 hz1 hz2 rfl (by decide) encC_len encC_one (pre := pre ++ [c]) (zs := ([] : List (Cd × Pts))) rfl rfl K6 O6 b6 (by rw [List.length_append]; simp only [List.length_cons, List.length_nil]; omega) (by decide) ?_; intro v7 w7 O7 g7)))
            have B7 : Below wo.heap.size wo w7 := B6.grown g7 b6 (fun j hj => (O6.lt j hj).1)
            have K7 := Kl.owned encC_len (by decide) O7
            have FM7 := hide (Fm.of O7)
            have B8 := below_trans' hbel B7
            have W7 : Ws w7 ((pre ++ [c]) ++ ([] : List (Cd × Pts))) := fun p hp => by
              rcases List.mem_append.1 hp with hp | hp
              · rcases List.mem_append.1 hp with hp | hp
                · rw [unhide HPR] at hp
                  exact (hWp p (List.mem_of_mem_take hp)).below B7
                · simp only [List.mem_cons, List.not_mem_nil, or_false] at hp
                  subst hp
                  exact hwc.below B8
              · cases hp
            have HF : Hid (((pre ++ [c]) ++ ([] : List (Cd × Pts))).map (·.1) = S.srt (L.take (i + 1))) := by
              show _ = _
              rw [unhide HTS, S.ins_at (k := 0) (by rw [← unhide HP, List.length_map]; omega) (fun j x hj hx => by rw [← unhide HP, List.getElem?_map] at hx; obtain ⟨y, hy, rfl⟩ := Option.map_eq_some_iff.1 hx; exact unhide HB j y hj hy) (fun x hx => by rw [← unhide HP, List.getElem?_map, List.getElem?_eq_none (by simp)] at hx; cases hx), unhide HPR, ← unhide HP]
              simp [List.map_take, List.map_drop]
            clear g6' l6 g7 O6 O7 K6
            go_roundw
            case rel => exact ⟨i + 1, (pre ++ [c]) ++ ([] : List (Cd × Pts)), by omega, by go_num, HF, by have := unhide HPR; simp; omega, FM7, K7, W7, B8⟩
            case measure => simp [intOf]; omega
          · simp only [Value.slice.injEq, true_and] at hf1
            obtain ⟨rfl, rfl⟩ := hf1
            obtain rfl : k = ps.length := by omega
            by_cases hoc : oc = ps.length
            · have hoc2 : oc - ps.length = 0 := by omega
              go_wp2_with (first
                | (at_builtin; refine append_oneF (f := encC) rfl _ _ 22 rfl Try.underlying22 hi hz0 hz1 hz2 rfl (by decide) encC_len encC_one (pre := pre) c rfl rfl rfl rfl O4 (by omega) (by omega) (by decide) ?_; intro g6 q6 w6 O6 g6' l6; have B6 : Below wo.heap.size wo w6 := B4.grown g6' hbs4 (fun j hj => (O4.lt j hj).1); have b6 := B6.size)
                | (at_builtin; go_loud (refine append_allF (f := encC) rfl _ _ 22 rfl Try.underlying22 hi hz0 hz1 hz2 rfl (by decide) encC_len encC_one (pre := pre ++ [c]) (zs := ([] : List (Cd × Pts))) rfl rfl (Kl.zero (by unfold maxLen; omega) (fun h => by cases h)) O6 b6 (by rw [List.length_append]; simp only [List.length_cons, List.length_nil]; omega) (by decide) ?_; intro v7 w7 O7 g7)))
              have B7 : Below wo.heap.size wo w7 := B6.grown g7 b6 (fun j hj => (O6.lt j hj).1)
              have K7 := Kl.owned encC_len (by decide) O7
              have FM7 := hide (Fm.of O7)
              have B8 := below_trans' hbel B7
              have W7 : Ws w7 ((pre ++ [c]) ++ ([] : List (Cd × Pts))) := fun p hp => by
                rcases List.mem_append.1 hp with hp | hp
                · rcases List.mem_append.1 hp with hp | hp
                  · rw [unhide HPR] at hp
                    exact (hWp p (List.mem_of_mem_take hp)).below B7
                  · simp only [List.mem_cons, List.not_mem_nil, or_false] at hp
                    subst hp
                    exact hwc.below B8
                · cases hp
              have HF : Hid (((pre ++ [c]) ++ ([] : List (Cd × Pts))).map (·.1) = S.srt (L.take (i + 1))) := by
                show _ = _
                rw [unhide HTS, S.ins_at (k := ps.length) (by rw [← unhide HP, List.length_map]; omega) (fun j x hj hx => by rw [← unhide HP, List.getElem?_map] at hx; obtain ⟨y, hy, rfl⟩ := Option.map_eq_some_iff.1 hx; exact unhide HB j y hj hy) (fun x hx => by rw [← unhide HP, List.getElem?_map, List.getElem?_eq_none (by simp)] at hx; cases hx), unhide HPR, ← unhide HP]
                have hdz : (ps.map (·.1)).drop ps.length = [] := List.drop_eq_nil_of_le (by simp)
                rw [List.take_of_length_le (by simp : (ps.map (·.1)).length ≤ ps.length)]
                simp [hdz]
              clear g6' l6 g7 O6 O7
              go_roundw
              case rel => exact ⟨i + 1, (pre ++ [c]) ++ ([] : List (Cd × Pts)), by omega, by go_num, HF, by have := unhide HPR; simp; omega, FM7, K7, W7, B8⟩
              case measure => simp [intOf]; omega
            · have hoc2 : ¬ oc - ps.length = 0 := by omega
              go_wp2_with (first
                | (at_builtin; refine append_oneF (f := encC) rfl _ _ 22 rfl Try.underlying22 hi hz0 hz1 hz2 rfl (by decide) encC_len encC_one (pre := pre) c rfl rfl rfl rfl O4 (by omega) (by omega) (by decide) ?_; intro g6 q6 w6 O6 g6' l6; have B6 : Below wo.heap.size wo w6 := B4.grown g6' hbs4 (fun j hj => (O4.lt j hj).1); have b6 := B6.size)
                | (at_builtin; go_loud (refine append_allF (f := encC) rfl _ _ 22 rfl Try.underlying22 hi hz0 hz1 hz2 rfl (by decide) encC_len encC_one (pre := pre ++ [c]) (zs := ([] : List (Cd × Pts))) rfl rfl (Kl.zero (by unfold maxLen; omega) (fun h => by cases h)) O6 b6 (by rw [List.length_append]; simp only [List.length_cons, List.length_nil]; omega) (by decide) ?_; intro v7 w7 O7 g7)))
              have B7 : Below wo.heap.size wo w7 := B6.grown g7 b6 (fun j hj => (O6.lt j hj).1)
              have K7 := Kl.owned encC_len (by decide) O7
              have FM7 := hide (Fm.of O7)
              have B8 := below_trans' hbel B7
              have W7 : Ws w7 ((pre ++ [c]) ++ ([] : List (Cd × Pts))) := fun p hp => by
                rcases List.mem_append.1 hp with hp | hp
                · rcases List.mem_append.1 hp with hp | hp
                  · rw [unhide HPR] at hp
                    exact (hWp p (List.mem_of_mem_take hp)).below B7
                  · simp only [List.mem_cons, List.not_mem_nil, or_false] at hp
                    subst hp
                    exact hwc.below B8
                · cases hp
              have HF : Hid (((pre ++ [c]) ++ ([] : List (Cd × Pts))).map (·.1) = S.srt (L.take (i + 1))) := by
                show _ = _
                rw [unhide HTS, S.ins_at (k := ps.length) (by rw [← unhide HP, List.length_map]; omega) (fun j x hj hx => by rw [← unhide HP, List.getElem?_map] at hx; obtain ⟨y, hy, rfl⟩ := Option.map_eq_some_iff.1 hx; exact unhide HB j y hj hy) (fun x hx => by rw [← unhide HP, List.getElem?_map, List.getElem?_eq_none (by simp)] at hx; cases hx), unhide HPR, ← unhide HP]
                have hdz : (ps.map (·.1)).drop ps.length = [] := List.drop_eq_nil_of_le (by simp)
                rw [List.take_of_length_le (by simp : (ps.map (·.1)).length ≤ ps.length)]
                simp [hdz]
              clear g6' l6 g7 O6 O7
              go_roundw
              case rel => exact ⟨i + 1, (pre ++ [c]) ++ ([] : List (Cd × Pts)), by omega, by go_num, HF, by have := unhide HPR; simp; omega, FM7, K7, W7, B8⟩
              case measure => simp [intOf]; omega
    · have HF : Hid (ps.map (·.1) = S.srt L) := by
        show _ = _
        rw [unhide HP, List.take_of_length_le (by omega)]
      have C9 := Cs.ps hKp hWp
      rw [unhide HF] at C9
      go_wp2
      go_ret
      exact ⟨_, rfl, C9, hbel⟩
end Go.Proofs.Ytonhehhmnobciaa

namespace Go.Proofs.Ytonhehhmnobciaa
set_option maxRecDepth 100000
open Go.RowKit

theorem far_new {w : World} {B g n cap m k : Nat} {e : TypeId} {u v : Value} {xs : List Value} (h : Far u v) (ho : w.ownsRow B e k u m xs) {c : Nat} (hl : v.ownBlock = some g ∨ c ≤ g) (hc : w.heap.size ≤ c) : Far u (.slice (some ⟨g, 0, none⟩) n cap) := fun b hb e => by
  simp [Value.ownBlock] at e
  subst e
  rcases hl with hl | hl
  · exact h _ hb hl
  · have := (ho.lt _ hb).2
    omega

theorem S.small {L M : List Cd} (h : S.mayAll L = true) (hf : FewC L) (hp : ∀ c ∈ M, c ∈ L) : ∀ c ∈ M, c.w.length ≤ 120 ∧ ∀ x ∈ c.w, x.size ≤ 40 := fun c hc => by
  unfold S.mayAll at h
  rw [Bool.and_eq_true, List.all_eq_true] at h
  have := h.1 c (hp c hc)
  simp only [S.fits, Bool.and_eq_true, decide_eq_true_eq] at this
  exact ⟨by omega, (hf.2 c (hp c hc)).2.2⟩

theorem own_first9 {w : World} {B e K n m cap b off : Nat} {xs : List Value} (h : w.ownsRow B e K (.slice (some ⟨b, off, none⟩) m cap) n xs) : B ≤ b := by
  rcases h.2 with ⟨h1, -⟩ | ⟨g, c, cur, h1, hb, -⟩
  · cases h1
  · simp only [Value.slice.injEq, Option.some.injEq, Addr.mk.injEq] at h1
    rw [h1.1.1]
    exact hb
/-- Each word's postings are the call's own. -/
def OwnT (B : Nat) (w : World) (ps : List (Tm × Pts)) : Prop := ∀ p ∈ ps, ∃ qs, OwnP B w p.2 qs ∧ qs.map (·.1) = p.1.p
theorem OwnT.below {B : Nat} {w w' : World} {ps : List (Tm × Pts)} (h : OwnT B w ps) (hb : Below w.heap.size w w') : OwnT B w' ps := fun p hp => by
  obtain ⟨qs, h1, h2⟩ := h p hp
  exact ⟨qs, h1.below hb, h2⟩
theorem OwnP.grow {S n : Nat} {w w' : World} {tv : Value} {xs : List Value} {s : Pts} {qs : List (Pt × Pts)} (h : OwnP (S + 1) w s qs) (ho : w.ownsRow (S + 1) 66 2 tv n xs) (hg : w.grownBy w' tv.ownBlock) (u : Value) : OwnP (S + 1) (w'.setCell ⟨S, 3, none⟩ u) s qs :=
  ⟨row_set (h.1.kept hg (own_apart h.1 ho (by decide))) 3 u, fun q hq => row_set (World.ownsRow.kept (h.2 q hq) hg (own_apart (h.2 q hq) ho (by decide))) 3 u⟩
theorem Bx.terms {S n : Nat} {w1 w2 : World} {iv kv lv tv : Value} {so : Bool} {ids : List ByteArray} {keys lens : List Int} {xs : List Value} (h : Bx S w1 iv kv lv tv so ids keys lens) (ho : w1.ownsRow (S + 1) 66 2 tv n xs) (hg : w1.grownBy w2 tv.ownBlock) (u : Value) : Bx S (w2.setCell ⟨S, 3, none⟩ u) iv kv lv u so ids keys lens :=
  ⟨bset (box_grown h.1 hg (row_ne ho)) 3 _, row_set (h.2.1.kept hg (own_apart h.2.1 ho (by decide))) 3 _, row_set (h.2.2.1.kept hg (own_apart h.2.2.1 ho (by decide))) 3 _, row_set (h.2.2.2.1.kept hg (own_apart h.2.2.2.1 ho (by decide))) 3 _, h.2.2.2.2⟩

theorem rbuild_end {w w5 wr : World} {r : Sg × Bool × Int} {LL : List Cd} {ids : List ByteArray} {keys lens : List Int} {vi vk vl tv : Value} {so : Bool} {n : Nat} {ps : List (Tm × Pts)} (hbx : Bx w5.heap.size wr vi vk vl tv so ids keys lens) (hot : wr.ownsRow (w5.heap.size + 1) 66 2 tv n (ps.flatMap encT)) (hT : OwnT (w5.heap.size + 1) wr ps) (hps : ps.map (·.1) = (S.words LL).map (S.term LL)) (hbel : Below w5.heap.size w5 wr) (BB5 : Below w.heap.size w w5)
    (hZ5 : w.heap.size < w5.heap.size) (hI : ids = LL.map (·.id)) (hK : keys = LL.map (·.key)) (hL : lens = LL.map (fun c => (c.w.length : Int))) (hr : S.seg LL = r.1 ∧ r.2.1 = so ∧ r.2.2 = 0) :
    BuildEnd w r (.returned (.tuple #[.agg #[vi, vk, vl, tv, .bool so], .int .i64 0])) (five wr w.heap.size vi vk vl tv (.bool so)) := by
  obtain ⟨h2, h3, h4⟩ := hr
  refine ⟨vi, vk, vl, tv, by rw [h3, h4], ?_, five_below _ _ _ _ _ (below_trans' BB5 hbel) (Nat.le_refl _)⟩
  rw [← h2]
  refine ⟨?_, ?_, ?_, ?_⟩
  · have := Gl.owned (own_five hbx.2.1 (b := w.heap.size) (by omega) vi vk vl tv (.bool so))
    rw [hI] at this
    exact this
  · have := Sl.owned (own_five hbx.2.2.1 (b := w.heap.size) (by omega) vi vk vl tv (.bool so))
    rw [hK] at this
    exact this
  · have := Sl.owned (own_five hbx.2.2.2.1 (b := w.heap.size) (by omega) vi vk vl tv (.bool so))
    rw [hL] at this
    exact this
  · have := Ts.own (own_five hot (b := w.heap.size) (by omega) vi vk vl tv (.bool so)) (fun p hp => by
      obtain ⟨qs, h5, h6⟩ := hT p hp
      rw [← h6]
      exact OwnP.pl ⟨own_five h5.1 (by omega) _ _ _ _ _, fun q hq => own_five (h5.2 q hq) (by omega) _ _ _ _ _⟩)
    rw [hps] at this
    exact this

theorem gl_uniq {w : World} {v : Value} {l l' : List ByteArray} (h : Gl .string w v l) (h' : Gl .string w v l') : l = l' := by
  obtain ⟨a, cap, rfl, -, -, -, ho⟩ := h.open
  obtain ⟨a', cap', hv, -, -, -, ho'⟩ := h'.open
  simp only [Value.slice.injEq] at hv
  obtain ⟨rfl, hl, rfl⟩ := hv
  by_cases h0 : 0 < l.length
  · obtain ⟨b, off, e, -, hc⟩ := ho h0
    obtain ⟨b', off', e', -, hc'⟩ := ho' (by omega)
    rw [e] at e'
    simp only [Option.some.injEq, Addr.mk.injEq, and_true] at e'
    obtain ⟨rfl, rfl⟩ := e'
    refine List.ext_getElem (by omega) fun i h1 h2 => ?_
    have c1 := hc i _ (List.getElem?_eq_getElem h1)
    have c2 := hc' i _ (List.getElem?_eq_getElem h2)
    rw [c1] at c2
    simpa using c2
  · rw [List.eq_nil_of_length_eq_zero (show l.length = 0 by omega), List.eq_nil_of_length_eq_zero (show l'.length = 0 by omega)]

theorem OldOwn.own {w w' : World} {v v' : Value} {l l' : List ByteArray} {B : Nat} (h : OldOwn w w' v v' l') (hg : Gl .string w' v' l') (ho : w.ownsRow B 9 1 v l.length (l.map Value.string)) (hb : Below w.heap.size w w') (hB : B ≤ w.heap.size) : w'.ownsRow B 9 1 v' l'.length (l'.map Value.string) := by
  rcases h with rfl | h
  · have h2 := own_below ho hb
    have e := gl_uniq (Gl.owned h2) hg
    rw [← e]
    exact h2
  · exact own_mono h hB
theorem OldOwn.far {w w' : World} {v v' : Value} {l' : List ByteArray} {g n cap : Nat} (h : OldOwn w w' v v' l') (hf : Far v (.slice (some ⟨g, 0, none⟩) n cap)) (hg : g < w.heap.size) : Far v' (.slice (some ⟨g, 0, none⟩) n cap) := by
  rcases h with rfl | h
  · exact hf
  · intro b hb e
    simp [Value.ownBlock] at e
    subst e
    have := (h.lt _ hb).1
    omega

set_option linter.unusedSimpArgs false in
set_option maxRecDepth 100000 in
set_option maxHeartbeats 8000000 in
theorem rbuild_any (v : Value) (L : List Cd) (so : Bool) (w : World) (h : Cs w v L) (hfew : FewC L) (r : Sg × Bool × Int) (hr : S.build L so = r) :
    Calls Try.prog 10 #[v, .bool so] w (BuildEnd w r) := by
  have HR := hide hr
  obtain ⟨W, hW⟩ : ∃ W, W = w.alloc (.cells #[.slice none 0 0, .slice none 0 0, .slice none 0 0, .slice none 0 0, .bool false] 31) := ⟨_, rfl⟩
  have B0 : Below w.heap.size w W := by rw [hW]; exact below_alloc _ _
  have X0 : W.heap[w.heap.size]? = some (.cells #[.slice none 0 0, .slice none 0 0, .slice none 0 0, .slice none 0 0, .bool false] 31 (0, 0)) := by rw [hW]; exact heap_alloc_new w _
  have hZ : w.heap.size < W.heap.size := by rw [hW]; simp
  have HW := hide hW
  have H0 := h.below B0
  obtain ⟨a, cap, rfl, hl, hm, hna, -⟩ := h.open
  have h70 := hfew.1
  have HFW := hide hfew
  clear hW h hr hfew
  go_enter Try.func10, Try.ntmps10
  go_wp2
  rw [← unhide HW]
  go_loopw [6] (fun iv wr => ∃ i : Nat, i ≤ L.length ∧ iv = .int .i64 i ∧ Hid (∀ (j : Nat) (c : Cd), j < i → L[j]? = some c → S.fits c = true) ∧ Hid (∀ (j k : Nat) (x y : Cd), j < k → k < i → L[j]? = some x → L[k]? = some y → x.id ≠ y.id) ∧ Below W.heap.size W wr) (fun iv _ => L.length - (intOf iv).toNat)
  case atStart => exact ⟨0, Nat.zero_le _, rfl, hide (fun j c hj => by omega), hide (fun j k x y hj hk => by omega), Below.refl _ _⟩
  case round =>
    obtain ⟨i, hi, rfl, HF, HU, hbel⟩ := hrel
    have BB := below_trans' B0 hbel
    by_cases hlt : i < L.length
    · obtain ⟨a', cap', hv', -, -, -, ho⟩ := (H0.below hbel).open
      simp only [Value.slice.injEq, true_and] at hv'
      obtain ⟨rfl, rfl⟩ := hv'
      obtain ⟨b, off, rfl, hb, hc⟩ := ho (by omega)
      obtain ⟨c, hx⟩ : ∃ c, L[i]? = some c := ⟨L[i], List.getElem?_eq_getElem hlt⟩
      obtain ⟨wa, wc, c0, c1, c2, G⟩ := hc i c hx
      have HX := hide hx
      clear ho hx
      cases hf : S.fits c with
      | false =>
        go_wp2_with fail
        refine (rfits_b c wa wc wr G false hf).mono ?_
        rintro e w2 ⟨rfl, B2⟩
        have X2 := box_below (box_below X0 hbel) B2
        have BB2 := below_trans' BB B2
        clear hc c0 c1 c2 G
        have HR9 := hide ((unhide HR).symm.trans (S.build_arg (S.mayAll_fit (List.mem_of_getElem? (unhide HX)) hf)))
        have x0 := box_cell X2 (j := 0) rfl
        have x1 := box_cell X2 (j := 1) rfl
        have x2 := box_cell X2 (j := 2) rfl
        have x3 := box_cell X2 (j := 3) rfl
        have x4 := box_cell X2 (j := 4) rfl
        have f0 := bfro X2 0
        have f1 := bfro X2 1
        have f2 := bfro X2 2
        have f3 := bfro X2 3
        have f4 := bfro X2 4
        go_wp2
        exact bodyPost_ret (v := .tuple #[.agg #[.slice none 0 0, .slice none 0 0, .slice none 0 0, .slice none 0 0, .bool false], .int .i64 1]) (by simp [results, Try.results10, go_sem, x0, x1, x2, x3, x4]) rfl (build_err _ _ _ _ _ BB2 (Nat.le_refl _) (unhide HR9))
      | true =>
        have HFC := hide hf
        go_wp2_with fail
        refine (rfits_b c wa wc wr G true hf).mono ?_
        rintro e w2 ⟨rfl, B2⟩
        have X2 := box_below (box_below X0 hbel) B2
        have BB2 := below_trans' BB B2
        have B02 := below_trans' hbel B2
        have d0 := cell_keep c0 B2
        have hb2 := Nat.lt_of_lt_of_le hb B2.size
        have HCE : Hid (∀ (j : Nat) (x : Cd), L[j]? = some x → w2.cell? ⟨b, off + j * 3, none⟩ = some (.string x.id)) := hide (fun j x hj => by
          obtain ⟨_, _, e0, _⟩ := hc j x hj
          exact cell_keep e0 B2)
        clear hc c0 c1 c2 G hf B2 hbel BB
        go_wp2
        go_loopw [8] (fun kv wr => ∃ k n : Nat, k ≤ i ∧ kv = .int .i64 k ∧ Hid (∀ (j : Nat) (x : Cd), j < k → L[j]? = some x → x.id ≠ c.id) ∧ Below w2.heap.size w2 wr) (fun kv _ => i - (intOf kv).toNat)
        case atStart => exact ⟨0, 0, Nat.zero_le _, rfl, hide (fun j x hj => by omega), Below.refl _ _⟩
        case round =>
          obtain ⟨k, -, hk, rfl, HN, hbel2⟩ := hrel
          have BB3 := below_trans' BB2 hbel2
          by_cases hkt : k < i
          · obtain ⟨x, hx⟩ : ∃ x, L[k]? = some x := ⟨L[k], List.getElem?_eq_getElem (by omega)⟩
            have g0 := cell_keep (unhide HCE k x hx) hbel2
            have g1 := cell_keep d0 hbel2
            have HXK := hide hx
            have p1 : (k : Int) < (L.length : Int) := by omega
            have p2 : (i : Int) < (L.length : Int) := by omega
            clear hx
            by_cases he : x.id = c.id
            · have q1 : (x.id.toList == c.id.toList) = true := by rw [he]; simp
              have X3 := box_below X2 hbel2
              have HE9 := hide he
              clear he
              go_wp2
              go_quiet (fail)
              have X4 : (wr.drewN nq).heap[w.heap.size]? = some (.cells #[.slice none 0 0, .slice none 0 0, .slice none 0 0, .slice none 0 0, .bool false] 31 (0, 0)) := X3
              have BB4 := below_dr' BB3 nq
              have HR9 := hide ((unhide HR).symm.trans (S.build_arg (S.mayAll_two (unhide HXK) (unhide HX) hkt (unhide HE9))))
              have x0 := box_cell X4 (j := 0) rfl
              have x1 := box_cell X4 (j := 1) rfl
              have x2 := box_cell X4 (j := 2) rfl
              have x3 := box_cell X4 (j := 3) rfl
              have x4 := box_cell X4 (j := 4) rfl
              have f0 := bfro X4 0
              have f1 := bfro X4 1
              have f2 := bfro X4 2
              have f3 := bfro X4 3
              have f4 := bfro X4 4
              go_wp2
              exact bodyPost_ret (v := .tuple #[.agg #[.slice none 0 0, .slice none 0 0, .slice none 0 0, .slice none 0 0, .bool false], .int .i64 1]) (by simp [results, Try.results10, go_sem, x0, x1, x2, x3, x4]) rfl (build_err _ _ _ _ _ BB4 (Nat.le_refl _) (unhide HR9))
            · have q1 : (x.id.toList == c.id.toList) = false := by rw [K.eq_to]; simpa using he
              have HE9 := hide he
              clear he
              go_wp2
              go_quiet (fail)
              have B5 := below_dr' hbel2 nq
              go_wp2
              go_roundw
              case rel =>
                refine ⟨k + 1, 0, by omega, by go_num, hide (fun j y hj hy => ?_), B5⟩
                by_cases e : j = k
                · subst e
                  rw [unhide HXK] at hy
                  cases hy
                  exact unhide HE9
                · exact unhide HN j y (by omega) hy
              case measure => simp [intOf]; omega
          · have B5 := below_trans' B02 hbel2
            go_wp2
            go_roundw
            case rel =>
              refine ⟨i + 1, by omega, by go_num, hide (fun j y hj hy => ?_), hide (fun j k9 x y hj hk9 hx hy => ?_), B5⟩
              · by_cases e : j = i
                · subst e
                  rw [unhide HX] at hy
                  cases hy
                  exact unhide HFC
                · exact unhide HF j y (by omega) hy
              · by_cases e : k9 = i
                · subst e
                  rw [unhide HX] at hy
                  cases hy
                  exact unhide HN j x (by omega) hx
                · exact unhide HU j k9 x y hj (by omega) hx hy
            case measure => simp [intOf]; omega
    · have HMA : Hid (S.mayAll L = true) := hide (S.mayAll_all (fun j c hj => unhide HF j c (by have := (List.getElem?_eq_some_iff.1 hj).1; omega) hj) (fun i' j x y hij hx hy => unhide HU i' j x y hij (by have := (List.getElem?_eq_some_iff.1 hy).1; omega) hx hy))
      have XR := box_below X0 hbel
      have HR0 := H0.below hbel
      clear HF HU
      by_cases h64 : (64 : Int) < (L.length : Int)
      ·
        have HR9 := hide ((unhide HR).symm.trans (S.build_long (unhide HMA) (by omega)))
        have x0 := box_cell XR (j := 0) rfl
        have x1 := box_cell XR (j := 1) rfl
        have x2 := box_cell XR (j := 2) rfl
        have x3 := box_cell XR (j := 3) rfl
        have x4 := box_cell XR (j := 4) rfl
        have f0 := bfro XR 0
        have f1 := bfro XR 1
        have f2 := bfro XR 2
        have f3 := bfro XR 3
        have f4 := bfro XR 4
        go_wp2
        exact bodyPost_ret (v := .tuple #[.agg #[.slice none 0 0, .slice none 0 0, .slice none 0 0, .slice none 0 0, .bool false], .int .i64 8]) (by simp [results, Try.results10, go_sem, x0, x1, x2, x3, x4]) rfl (build_err _ _ _ _ _ BB (Nat.le_refl _) (unhide HR9))
      · cases so with
        | true =>
          have hid9 : ∀ c ∈ L, c.id.size ≤ 1000 := fun c hc => by have := ((unhide HFW).2 c hc).1; omega
          have CI := in_any _ L wr HR0 (by omega) hid9
          obtain ⟨M, hM⟩ : ∃ M, S.srt L = M := ⟨_, rfl⟩
          have hp9 : M.Perm L := by rw [← hM]; exact S.srt_perm L
          rw [hM] at CI
          have HMM := hide hM
          have HP9 := hide hp9
          clear hid9 hM hp9
          go_wp2_with fail
          refine CI.mono ?_
          rintro e w3 ⟨v3, rfl, C3, B3⟩
          have X3 := box_below XR B3
          have BB3 := below_trans' BB B3
          obtain ⟨a3, c3, hv3, -⟩ := id C3.open
          subst hv3
          clear B3 XR BB CI HR0 hbel
          obtain ⟨w5, hw5⟩ : ∃ w5, w5 = w3 := ⟨_, rfl⟩
          have C5 := C3
          have B5 := BB3
          have X5 := X3
          rw [← hw5] at C5 B5 X5 ⊢
          have hZ5 : w.heap.size < w5.heap.size := (Array.getElem?_eq_some_iff.1 X5).1
          obtain ⟨a5, cap5, hv5, hl5, hm5, hna5, hoL⟩ := C5.open
          simp only [Value.slice.injEq, true_and] at hv5
          obtain ⟨rfl, rfl⟩ := hv5
          obtain ⟨i9, hi9, hz90, hz91, hz92⟩ := info_parts Try.infoS
          obtain ⟨j0, hj, hj0, hj1, hj2⟩ := info_parts Try.info3
          have h64' : M.length ≤ 64 := by (have := (unhide HP9).length_eq; omega)
          have HFC : Hid (∀ c ∈ M, c.w.length ≤ 120 ∧ ∀ x ∈ c.w, x.size ≤ 40) := hide (S.small (unhide HMA) (unhide HFW) (fun c hc => (unhide HP9).mem_iff.1 hc))
          clear hw5
          go_wp2
          go_loopw [11, 12] (fun ov iv wr => ∃ (k : Nat) (vi vk vl : Value) (ids ws : List ByteArray) (keys lens : List Int), k ≤ M.length ∧ iv = .int .i64 k ∧ Hid (ids = (M.take k).map (·.id)) ∧ Hid (keys = (M.take k).map (·.key)) ∧ Hid (lens = (M.take k).map (fun c => (c.w.length : Int))) ∧ Hid (ws = S.words (M.take k)) ∧ ids.length ≤ k ∧ keys.length ≤ k ∧ lens.length ≤ k ∧ Bx w5.heap.size wr vi vk vl (.slice none 0 0) true ids keys lens ∧ wr.ownsRow (w5.heap.size + 1) 9 1 ov ws.length (ws.map Value.string) ∧ Far ov vi ∧ Below w5.heap.size w5 wr ∧ w5.heap.size < wr.heap.size) (fun _ iv _ => M.length - (intOf iv).toNat)
          case atStart => exact ⟨0, _, _, _, [], [], [], [], Nat.zero_le _, rfl, rfl, rfl, rfl, rfl, Nat.zero_le _, Nat.zero_le _, Nat.zero_le _, ⟨heap_alloc_new w5 _, World.ownsRow_nil _ _ _ _, World.ownsRow_nil _ _ _ _, World.ownsRow_nil _ _ _ _, fun b hb => by cases hb⟩, World.ownsRow_nil _ _ _ _, (fun b hb => by cases hb), below_alloc _ _, by simp⟩
          case round =>
            obtain ⟨k, vi, vk, vl, ids, ws, keys, lens, hk, rfl, HI, HK, HLN, HWS, hi1, hk1, hl1, hbx, how, hfar, hbel, hsz⟩ := hrel
            by_cases hlt : k < M.length
            · obtain ⟨b, off, rfl, hb, hc⟩ := hoL (by omega)
              obtain ⟨c, hx⟩ : ∃ c, M[k]? = some c := ⟨M[k]'(by omega), List.getElem?_eq_getElem _⟩
              obtain ⟨wa, wc, c0, c1, c2, G⟩ := hc k c hx
              have HG := hide G
              have HCL := hide (show ∀ wx, Below w5.heap.size w5 wx → wx.cell? ⟨b, off + k * 3, none⟩ = some (.string c.id) ∧ wx.cell? ⟨b, off + k * 3 + 1, none⟩ = some (.int .i64 c.key) ∧ wx.cell? ⟨b, off + k * 3 + 2, none⟩ = some (.slice wa c.w.length wc) from fun wx hb9 => ⟨(hb9.cell (p := ⟨b, off + k * 3, none⟩) hb).trans c0, (hb9.cell (p := ⟨b, off + k * 3 + 1, none⟩) hb).trans c1, (hb9.cell (p := ⟨b, off + k * 3 + 2, none⟩) hb).trans c2⟩)
              have HX := hide hx
              clear hc c0 c1 c2 hoL G hx
              have d0 := (unhide HCL wr hbel).1
              have s0 := box_cell hbx.1 (j := 0) rfl
              have f0 := bfro hbx.1 0
              obtain ⟨via, vic, hvi, -⟩ := id (Gl.owned hbx.2.1)
              subst hvi
              have q1 : b ≠ wr.heap.size := by have := hbel.size; omega
              have q3 : w5.heap.size ≠ wr.heap.size := by omega
              have OI := hbx.2.1
              have hne : (Value.slice via ids.length vic).ownBlock ≠ some w5.heap.size := fun e => by have := (OI.lt _ e).1; omega
              have HBX := hide hbx
              clear hbx
              go_upto_region 22 with fail
              go_cut [] from 62 to 71 (fun wx => ∃ g q, Bx w5.heap.size wx (.slice (some ⟨g, 0, none⟩) (ids.length + 1) q) vk vl (.slice none 0 0) true (ids ++ [c.id]) keys lens ∧ wx.ownsRow (w5.heap.size + 1) 9 1 u11 ws.length (ws.map Value.string) ∧ Far u11 (.slice (some ⟨g, 0, none⟩) (ids.length + 1) q) ∧ Below w5.heap.size w5 wx ∧ w5.heap.size < wx.heap.size)
              case first =>
                go_region_law
                  ((refine step_append_lies _ (by rfl) _ _ _ (by rfl) (w5.heap.size + 1) 9 i9 _ 1 16 Try.underlying23 hi9 hz90 hz91 hz92 rfl (by omega) (.slice via ids.length vic) _ _ (by rfl) ((OI.alloc _).drew)
                            ⟨wr.heap.size, 0, none⟩ 1 1 [.string c.id] (by rfl) (by rfl) (World.news_of_block (cs := #[.string c.id]) (t := 9) (fr := (0, 0)) (heap_alloc_new wr _)) (by simp [Value.oneCell'])
                            (by omega) (by unfold maxLen; omega) (by omega) (by simp; omega) (wr.heap.size + 1) (by simp) ?_; intro g5 q5 u5w O5 g5' l5 lt5; have s5 := (g5'.cell_far ⟨w5.heap.size, 0, none⟩ (by simp; omega) (Ne.symm hne)).trans (cell_keep s0 (below_alloc wr _).drew); have f5 := (g5'.frozen_far ⟨w5.heap.size, 0, none⟩ (by simp; omega) (Ne.symm hne)).trans (frozen_keep8 f0 (below_alloc wr _).drew hsz)))
                all_goals
                  have hg := (grown_below (below_alloc wr (.cells #[.string c.id] 9)).drew (Value.slice via ids.length vic).ownBlock).trans g5'
                  have K5 := (unhide HBX).ids (x := c.id) (n := ids.length + 1) (cap := q5) (by simpa using O5) hg
                  have W5 := row_set (hfar.symm.kept how hg) 0 (.slice (some ⟨g5, 0, none⟩) (ids.length + 1) q5)
                  have F5 : Far u11 (.slice (some ⟨g5, 0, none⟩) (ids.length + 1) q5) := far_new hfar how (c := wr.heap.size) (by rcases l5 with l5 | l5 <;> first | exact .inl l5 | (right; simp at l5; omega) | (right; omega)) (Nat.le_refl _)
                  have B6 : Below w5.heap.size w5 (u5w.setCell ⟨w5.heap.size, 0, none⟩ (.slice (some ⟨g5, 0, none⟩) (ids.length + 1) q5)) := (hbel.grown hg (by omega) (fun j hj => by have := (OI.lt j hj).1; omega)).setCell (Nat.le_refl _) _
                  have z5 : w5.heap.size < (u5w.setCell ⟨w5.heap.size, 0, none⟩ (.slice (some ⟨g5, 0, none⟩) (ids.length + 1) q5)).heap.size := by have := hg.size; simp at this ⊢; omega
                  have HK5 := hide K5
                  have HW5 := hide W5
                  clear K5 W5 O5 s5 f5 hg
                  go_wp2_with fail
                  go_meet
                  exact ⟨g5, q5, unhide HK5, unhide HW5, F5, B6, z5⟩
              case rest =>
              obtain ⟨g0, r0, hbx, how', hfar', hbel', hsz'⟩ := hcut
              clear hfar how hbel hsz d0 s0 f0 q1 q3 OI hne HBX
              have how := how'
              have hfar := hfar'
              have hbel := hbel'
              have hsz := hsz'
              clear how' hfar' hbel' hsz'
              obtain ⟨w0c, hwc0⟩ : ∃ w0c, w0c = wc := ⟨_, rfl⟩
              rw [← hwc0] at hbx how hbel hsz ⊢
              clear hwc0
              have d0 := (unhide HCL w0c hbel).2.1
              have s0 := box_cell hbx.1 (j := 1) rfl
              have f0 := bfro hbx.1 1
              obtain ⟨via, vic, hvi, -⟩ := id (Sl.owned hbx.2.2.1)
              subst hvi
              have q1 : b ≠ w0c.heap.size := by have := hbel.size; omega
              have q3 : w5.heap.size ≠ w0c.heap.size := by omega
              have OI := hbx.2.2.1
              have hne : (Value.slice via keys.length vic).ownBlock ≠ some w5.heap.size := fun e => by have := (OI.lt _ e).1; omega
              have HBX := hide hbx
              clear hbx
              go_upto_region 23 with fail
              go_cut [] from 72 to 81 (fun wx => ∃ g q, Bx w5.heap.size wx (.slice (some ⟨g0, 0, none⟩) (ids.length + 1) r0) (.slice (some ⟨g, 0, none⟩) (keys.length + 1) q) vl (.slice none 0 0) true (ids ++ [c.id]) (keys ++ [c.key]) lens ∧ wx.ownsRow (w5.heap.size + 1) 9 1 u11 ws.length (ws.map Value.string) ∧ Far u11 (.slice (some ⟨g0, 0, none⟩) (ids.length + 1) r0) ∧ Below w5.heap.size w5 wx ∧ w5.heap.size < wx.heap.size)
              case first =>
                go_region_law
                  ((refine step_append_lies _ (by rfl) _ _ _ (by rfl) (w5.heap.size + 1) 3 j0 _ 1 8 Try.underlying28 hj hj0 hj1 hj2 rfl (by omega) (.slice via keys.length vic) _ _ (by rfl) ((OI.alloc _).drew)
                            ⟨w0c.heap.size, 0, none⟩ 1 1 [.int .i64 c.key] (by rfl) (by rfl) (World.news_of_block (cs := #[.int .i64 c.key]) (t := 3) (fr := (0, 0)) (heap_alloc_new w0c _)) (by simp [Value.oneCell'])
                            (by omega) (by unfold maxLen; omega) (by omega) (by simp; omega) (w0c.heap.size + 1) (by simp) ?_; intro g5 q5 u5w O5 g5' l5 lt5; have s5 := (g5'.cell_far ⟨w5.heap.size, 1, none⟩ (by simp; omega) (Ne.symm hne)).trans (cell_keep s0 (below_alloc w0c _).drew); have f5 := (g5'.frozen_far ⟨w5.heap.size, 1, none⟩ (by simp; omega) (Ne.symm hne)).trans (frozen_keep8 f0 (below_alloc w0c _).drew hsz)))
                all_goals
                  have hg := (grown_below (below_alloc w0c (.cells #[.int .i64 c.key] 3)).drew (Value.slice via keys.length vic).ownBlock).trans g5'
                  have K5 := (unhide HBX).keys (x := c.key) (n := keys.length + 1) (cap := q5) (by simpa using O5) hg (by rcases l5 with l5 | l5 <;> first | exact .inl l5 | (right; simp at l5; omega) | (right; omega))
                  have W5 := row_set (how.kept hg (own_apart how OI (by decide))) 1 (.slice (some ⟨g5, 0, none⟩) (keys.length + 1) q5)
                  have F5 : Far u11 (.slice (some ⟨g0, 0, none⟩) (ids.length + 1) r0) := hfar
                  have B6 : Below w5.heap.size w5 (u5w.setCell ⟨w5.heap.size, 1, none⟩ (.slice (some ⟨g5, 0, none⟩) (keys.length + 1) q5)) := (hbel.grown hg (by omega) (fun j hj => by have := (OI.lt j hj).1; omega)).setCell (Nat.le_refl _) _
                  have z5 : w5.heap.size < (u5w.setCell ⟨w5.heap.size, 1, none⟩ (.slice (some ⟨g5, 0, none⟩) (keys.length + 1) q5)).heap.size := by have := hg.size; simp at this ⊢; omega
                  have HK5 := hide K5
                  have HW5 := hide W5
                  clear K5 W5 O5 s5 f5 hg
                  go_wp2_with fail
                  go_meet
                  exact ⟨g5, q5, unhide HK5, unhide HW5, F5, B6, z5⟩
              case rest =>
              obtain ⟨g1, r1, hbx, how', hfar', hbel', hsz'⟩ := hcut
              clear hfar how hbel hsz d0 s0 f0 q1 q3 OI hne HBX
              have how := how'
              have hfar := hfar'
              have hbel := hbel'
              have hsz := hsz'
              clear how' hfar' hbel' hsz'
              obtain ⟨w1c, hwc1⟩ : ∃ w1c, w1c = wc := ⟨_, rfl⟩
              rw [← hwc1] at hbx how hbel hsz ⊢
              clear hwc1
              have d0 := (unhide HCL w1c hbel).2.2
              have s0 := box_cell hbx.1 (j := 2) rfl
              have f0 := bfro hbx.1 2
              obtain ⟨via, vic, hvi, -⟩ := id (Sl.owned hbx.2.2.2.1)
              subst hvi
              have q1 : b ≠ w1c.heap.size := by have := hbel.size; omega
              have q3 : w5.heap.size ≠ w1c.heap.size := by omega
              have OI := hbx.2.2.2.1
              have hne : (Value.slice via lens.length vic).ownBlock ≠ some w5.heap.size := fun e => by have := (OI.lt _ e).1; omega
              have HBX := hide hbx
              clear hbx
              go_upto_region 24 with fail
              go_cut [] from 82 to 92 (fun wx => ∃ g q, Bx w5.heap.size wx (.slice (some ⟨g0, 0, none⟩) (ids.length + 1) r0) (.slice (some ⟨g1, 0, none⟩) (keys.length + 1) r1) (.slice (some ⟨g, 0, none⟩) (lens.length + 1) q) (.slice none 0 0) true (ids ++ [c.id]) (keys ++ [c.key]) (lens ++ [(c.w.length : Int)]) ∧ wx.ownsRow (w5.heap.size + 1) 9 1 u11 ws.length (ws.map Value.string) ∧ Far u11 (.slice (some ⟨g0, 0, none⟩) (ids.length + 1) r0) ∧ Below w5.heap.size w5 wx ∧ w5.heap.size < wx.heap.size)
              case first =>
                go_region_law
                  ((refine step_append_lies _ (by rfl) _ _ _ (by rfl) (w5.heap.size + 1) 3 j0 _ 1 8 Try.underlying28 hj hj0 hj1 hj2 rfl (by omega) (.slice via lens.length vic) _ _ (by rfl) ((OI.alloc _).drew)
                            ⟨w1c.heap.size, 0, none⟩ 1 1 [.int .i64 (c.w.length : Int)] (by rfl) (by rfl) (World.news_of_block (cs := #[.int .i64 (c.w.length : Int)]) (t := 3) (fr := (0, 0)) (heap_alloc_new w1c _)) (by simp [Value.oneCell'])
                            (by omega) (by unfold maxLen; omega) (by omega) (by simp; omega) (w1c.heap.size + 1) (by simp) ?_; intro g5 q5 u5w O5 g5' l5 lt5; have s5 := (g5'.cell_far ⟨w5.heap.size, 2, none⟩ (by simp; omega) (Ne.symm hne)).trans (cell_keep s0 (below_alloc w1c _).drew); have f5 := (g5'.frozen_far ⟨w5.heap.size, 2, none⟩ (by simp; omega) (Ne.symm hne)).trans (frozen_keep8 f0 (below_alloc w1c _).drew hsz)))
                all_goals
                  have hg := (grown_below (below_alloc w1c (.cells #[.int .i64 (c.w.length : Int)] 3)).drew (Value.slice via lens.length vic).ownBlock).trans g5'
                  have K5 := (unhide HBX).lens (x := (c.w.length : Int)) (n := lens.length + 1) (cap := q5) (by simpa using O5) hg (by rcases l5 with l5 | l5 <;> first | exact .inl l5 | (right; simp at l5; omega) | (right; omega))
                  have W5 := row_set (how.kept hg (own_apart how OI (by decide))) 2 (.slice (some ⟨g5, 0, none⟩) (lens.length + 1) q5)
                  have F5 : Far u11 (.slice (some ⟨g0, 0, none⟩) (ids.length + 1) r0) := hfar
                  have B6 : Below w5.heap.size w5 (u5w.setCell ⟨w5.heap.size, 2, none⟩ (.slice (some ⟨g5, 0, none⟩) (lens.length + 1) q5)) := (hbel.grown hg (by omega) (fun j hj => by have := (OI.lt j hj).1; omega)).setCell (Nat.le_refl _) _
                  have z5 : w5.heap.size < (u5w.setCell ⟨w5.heap.size, 2, none⟩ (.slice (some ⟨g5, 0, none⟩) (lens.length + 1) q5)).heap.size := by have := hg.size; simp at this ⊢; omega
                  have HK5 := hide K5
                  have HW5 := hide W5
                  clear K5 W5 O5 s5 f5 hg
                  go_wp2_with fail
                  go_meet
                  exact ⟨g5, q5, unhide HK5, unhide HW5, F5, B6, z5⟩
              case rest =>
              obtain ⟨g2, r2, hbx, how', hfar', hbel', hsz'⟩ := hcut
              clear hfar how hbel hsz d0 s0 f0 q1 q3 OI hne HBX
              have how := how'
              have hfar := hfar'
              have hbel := hbel'
              have hsz := hsz'
              clear how' hfar' hbel' hsz'
              obtain ⟨w2c, hwc2⟩ : ∃ w2c, w2c = wc := ⟨_, rfl⟩
              rw [← hwc2] at hbx how hbel hsz ⊢
              clear hwc2
              obtain ⟨hcl, hcz⟩ := unhide HFC c (List.mem_of_getElem? (unhide HX))
              have HCZ := hide hcz
              have hwsl : ws.length ≤ k * 120 := by rw [unhide HWS]; exact S.words_len (fun c hc => (unhide HFC c hc).1) k hk
              have HWZ : Hid (∀ x ∈ ws, x.size ≤ 40) := hide (fun x hx => by rw [unhide HWS] at hx; obtain ⟨c', hc', hx'⟩ := S.mem_words.1 hx; exact (unhide HFC c' (List.mem_of_mem_take hc')).2 x hx')
              have HWR : Hid (D.Rise ws) := hide (by rw [unhide HWS]; exact S.words_rise _)
              obtain ⟨wa', wc', hv', hlw, hmw, hnw, hoW⟩ := (unhide HG).open
              simp only [Value.slice.injEq, true_and] at hv'
              obtain ⟨rfl, rfl⟩ := hv'
              have hvb : g0 < w2c.heap.size := (hbx.2.1.lt g0 rfl).2
              have d0 := (unhide HCL w2c hbel).2.2
              have HBX := hide hbx
              clear hbx hcz
              go_wp2
              go_loopw [11, 13] (fun ov mv wr => ∃ (m : Nat) (wsm : List ByteArray), m ≤ c.w.length ∧ mv = .int .i64 m ∧ Hid (wsm = D.adds ws (c.w.take m)) ∧ wr.ownsRow (w5.heap.size + 1) 9 1 ov wsm.length (wsm.map Value.string) ∧ Far ov (.slice (some ⟨g0, 0, none⟩) (ids.length + 1) r0) ∧ Below w2c.heap.size w2c wr) (fun _ mv _ => c.w.length - (intOf mv).toNat)
              case atStart => exact ⟨0, ws, Nat.zero_le _, rfl, rfl, how, hfar, Below.refl _ _⟩
              case round =>
                clear how hfar d0
                obtain ⟨m, wsm, hm9, rfl, HWM, hown, hfar, hbm⟩ := hrel
                have hbw : Below w5.heap.size w5 wr := hbel.trans (hbm.mono (by omega))
                have e2 := (unhide HCL wr hbw).2.2
                by_cases hlm : m < c.w.length
                · obtain ⟨x, hx⟩ : ∃ x, c.w[m]? = some x := ⟨c.w[m], List.getElem?_eq_getElem hlm⟩
                  obtain ⟨b1, off1, rfl, hb1, hc1⟩ := hoW (by omega)
                  have e3 := (hbw.cell (p := ⟨b1, off1 + m, none⟩) hb1).trans (hc1 m x hx)
                  have hwm : wsm.length ≤ 1000000 := by
                    have := D.adds_len (c.w.take m) ws
                    rw [← unhide HWM] at this
                    have h9 : (c.w.take m).length ≤ m := List.length_take_le _ _
                    omega
                  have HST := hide (S.adds_step (o := ws) hx)
                  have CA := radd_own u11 wsm x wr (Gl.owned hown) (fun y hy => by
                    rw [unhide HWM] at hy
                    unfold maxLen
                    rcases D.mem_adds.1 hy with h9 | h9
                    · have := unhide HWZ y h9; omega
                    · have := unhide HCZ y (List.mem_of_mem_take h9); omega) (by rw [unhide HWM]; exact D.adds_rise (unhide HWR)) hwm _ rfl
                  have HO := hide hown
                  have hsr := hbm.size
                  clear hc1 hx hown
                  go_wp2_with fail
                  refine CA.mono ?_
                  rintro e w7 ⟨v7, rfl, G7, B7, O7⟩
                  have B9 := below_trans' hbm B7
                  have O9 : w7.ownsRow (w5.heap.size + 1) 9 1 v7 (D.add wsm x).length ((D.add wsm x).map Value.string) := O7.own G7 (unhide HO) B7 (by omega)
                  have F9 : Far v7 (.slice (some ⟨g0, 0, none⟩) (ids.length + 1) r0) := O7.far hfar (by omega)
                  clear G7 B7 O7 CA
                  go_wp2
                  go_roundw
                  case rel =>
                    refine ⟨m + 1, D.add wsm x, by omega, by go_num, ?_, O9, F9, B9⟩
                    show _ = _
                    rw [unhide HST, ← unhide HWM]
                  case measure => simp [intOf]; omega
                · have hml : m = c.w.length := by omega
                  have hsr := hbm.size
                  have HTS := hide (take_snoc8 (unhide HX))
                  have HWS2 : Hid (wsm = S.words (M.take (k + 1))) := by
                    show _ = _
                    rw [S.words_step (unhide HX), unhide HWM, hml, List.take_length, unhide HWS]
                  have K9 := (unhide HBX).below hbm
                  have HK9 := hide K9
                  clear K9
                  go_wp2
                  go_roundw
                  case rel =>
                    refine ⟨k + 1, _, _, _, ids ++ [c.id], wsm, keys ++ [c.key], lens ++ [(c.w.length : Int)], by omega, by go_num, ?_, ?_, ?_, HWS2, by simp; omega, by simp; omega, by simp; omega, unhide HK9, hown, hfar, hbw, by omega⟩
                    · show _ = _
                      rw [unhide HTS, List.map_append, ← unhide HI]; rfl
                    · show _ = _
                      rw [unhide HTS, List.map_append, ← unhide HK]; rfl
                    · show _ = _
                      rw [unhide HTS, List.map_append, ← unhide HLN]; rfl
                  case measure => simp [intOf]; omega
            · have HW9 : Hid (ws = S.words M) := by
                show _ = _
                rw [unhide HWS, List.take_of_length_le (by omega)]
              have HI9 : Hid (ids = M.map (·.id)) := by
                show _ = _
                rw [unhide HI, List.take_of_length_le (by omega)]
              have HK9 : Hid (keys = M.map (·.key)) := by
                show _ = _
                rw [unhide HK, List.take_of_length_le (by omega)]
              have HL9 : Hid (lens = M.map (fun c => (c.w.length : Int))) := by
                show _ = _
                rw [unhide HLN, List.take_of_length_le (by omega)]
              have X9 : wr.heap[w.heap.size]? = some (.cells #[.slice none 0 0, .slice none 0 0, .slice none 0 0, .slice none 0 0, .bool false] 31 (0, 0)) := (hbel.block _ hZ5).trans X5
              have BB9 : Below w.heap.size w wr := B5.trans (hbel.mono (by omega))
              obtain ⟨oa, oc, hov, -⟩ := id (Gl.owned how)
              subst hov
              clear HI HK HLN HWS hoL
              by_cases h200 : (200 : Int) < (ws.length : Int)
              · have hm9 : 200 < (S.words L).length := by rw [← (show S.words M = S.words L from S.words_perm (unhide HP9)), ← unhide HW9]; omega
                clear hbx how hfar
                have HR9 := hide ((unhide HR).symm.trans (S.build_many (unhide HMA) (by omega) hm9))
                have x0 := box_cell X9 (j := 0) rfl
                have x1 := box_cell X9 (j := 1) rfl
                have x2 := box_cell X9 (j := 2) rfl
                have x3 := box_cell X9 (j := 3) rfl
                have x4 := box_cell X9 (j := 4) rfl
                have f0 := bfro X9 0
                have f1 := bfro X9 1
                have f2 := bfro X9 2
                have f3 := bfro X9 3
                have f4 := bfro X9 4
                go_wp2
                exact bodyPost_ret (v := .tuple #[.agg #[.slice none 0 0, .slice none 0 0, .slice none 0 0, .slice none 0 0, .bool false], .int .i64 8]) (by simp [results, Try.results10, go_sem, x0, x1, x2, x3, x4]) rfl (build_err _ _ _ _ _ BB9 (Nat.le_refl _) (unhide HR9))
              · have hm9 : (S.words L).length ≤ 200 := by rw [← (show S.words M = S.words L from S.words_perm (unhide HP9)), ← unhide HW9]; omega
                have HRR : Hid (S.seg M = r.1 ∧ r.2.1 = true ∧ r.2.2 = 0) := by
                  rw [← unhide HR, S.build_yes (unhide HMA) (by omega) hm9]
                  exact ⟨by rw [← unhide HMM]; rfl, rfl, rfl⟩
                obtain ⟨iT, hiT, hzT0, hzT1, hzT2⟩ := info_parts Try.infoT
                have hwl9 : ws.length ≤ 200 := by omega
                clear hm9 BB9 X9
                rename World => w6
                go_wp2
                go_loopw [14] (fun iv wr => ∃ (i : Nat) (tv : Value) (ps : List (Tm × Pts)), i ≤ ws.length ∧ iv = .int .i64 i ∧ ps.length ≤ i ∧ Hid (ps.map (·.1) = (ws.take i).map (S.term M)) ∧ Bx w5.heap.size wr vi vk vl tv true ids keys lens ∧ wr.ownsRow (w5.heap.size + 1) 66 2 tv ps.length (ps.flatMap encT) ∧ Hid (OwnT (w5.heap.size + 1) wr ps) ∧ wr.ownsRow (w5.heap.size + 1) 9 1 (.slice oa ws.length oc) ws.length (ws.map Value.string) ∧ Below w5.heap.size w5 wr ∧ w5.heap.size < wr.heap.size) (fun iv _ => ws.length - (intOf iv).toNat)
                case atStart => exact ⟨0, _, [], Nat.zero_le _, rfl, Nat.zero_le _, rfl, hbx, World.ownsRow_nil _ _ _ _, hide (fun p hp => by cases hp), how, hbel, hsz⟩
                case round =>
                  clear hbx how hbel hsz hfar
                  obtain ⟨i, tv, ps, hi, rfl, hpl, HPS, hbx, hot, HOT, how, hbel, hsz⟩ := hrel
                  by_cases hlt2 : i < ws.length
                  · obtain ⟨x, hx⟩ : ∃ x, ws[i]? = some x := ⟨ws[i], List.getElem?_eq_getElem hlt2⟩
                    obtain ⟨oa', oc', hv9, -, -, -, ho9⟩ := (Gl.owned how).open
                    simp only [Value.slice.injEq, true_and] at hv9
                    obtain ⟨rfl, rfl⟩ := hv9
                    obtain ⟨b9, off9, rfl, hb9, hc9⟩ := ho9 (by omega)
                    have d0 := hc9 i x hx
                    have hgl : w5.heap.size + 1 ≤ b9 := own_first9 how
                    obtain ⟨tva, tvc, htv, -⟩ := id (Kl.owned encT_len (by decide) hot)
                    subst htv
                    have s3 : wr.cell? ⟨w5.heap.size, 3, none⟩ = some (.slice tva ps.length tvc) := box_cell hbx.1 rfl
                    have f3 := bfro hbx.1 3
                    have HSN := hide (take_snoc8 hx)
                    have HCP := hide (postings_any _ M x wr.drew ((C5.below hbel).below (below_dr (Below.refl _ _) 1)) (by omega) (fun c hc => by have := (unhide HFC c hc).1; omega))
                    have HBX := hide hbx
                    have HOW := hide how
                    have HHOT := hide hot
                    have q9 : (i : Int) < (ws.length : Int) := by omega
                    clear hbx how hot hc9 ho9 hx
                    go_upto_region 34 with fail
                    go_region_law (first
                      | (go_simp
                         refine (unhide HCP).mono ?_
                         rintro e w7 ⟨⟨pa, pn, pc⟩, qs, rfl, Q7, P7, B7⟩
                         have B7' : Below wr.heap.size wr w7 := below_trans' (below_dr (Below.refl _ _) 1) B7
                         have O7 := own_below (unhide HHOT) B7'
                         have t3 := cell_keep s3 B7'
                         have t4 := frozen_keep8 f3 B7' hsz
                         have t5 := cell_keep d0 B7'
                         have hs7 := B7'.size
                         have hsz7 : w5.heap.size < w7.heap.size := Nat.lt_of_lt_of_le hsz B7'.size
                         have hbz7 : b9 < w7.heap.size := Nat.lt_of_lt_of_le hb9 B7'.size
                         simp only [sv])
                      | (refine step_append_lies _ (by rfl) _ _ _ (by rfl) (w5.heap.size + 1) 66 iT _ 2 40 Try.underlying29 hiT hzT0 hzT1 hzT2 rfl (by omega) (.slice tva ps.length tvc) _ _ (by rfl) (O7.alloc _)
                          ⟨w7.heap.size, 0, none⟩ 1 1 [.string x, .slice pa pn pc] (by rfl) (by rfl) (World.news_of_block (cs := #[.string x, .slice pa pn pc]) (t := 66) (fr := (0, 0)) (heap_alloc_new w7 _)) (by simp [Value.oneCell'])
                          (by omega) (by unfold maxLen; omega) (by omega) (by simp; omega) (w7.heap.size + 1) (by simp) ?_
                         intro g5 q5 u5w O5 g5' l5 lt5
                         have hne : (Value.slice tva ps.length tvc).ownBlock ≠ some w5.heap.size := fun e => by have := (O7.lt _ e).1; omega
                         have s5 := (g5'.cell_far ⟨w5.heap.size, 3, none⟩ (by simp; omega) (Ne.symm hne)).trans (cell_keep t3 (below_alloc w7 _))
                         have f5 := (g5'.frozen_far ⟨w5.heap.size, 3, none⟩ (by simp; omega) (Ne.symm hne)).trans (frozen_keep8 t4 (below_alloc w7 _) hsz7)))
                    all_goals
                      have hg := (grown_below (below_alloc w7 (.cells #[.string x, .slice pa pn pc] 66)) (Value.slice tva ps.length tvc).ownBlock).trans g5'
                      have K5 := ((unhide HBX).below B7').terms O7 hg (.slice (some ⟨g5, 0, none⟩) (ps.length + 1) q5)
                      have T5 : (u5w.setCell ⟨w5.heap.size, 3, none⟩ (.slice (some ⟨g5, 0, none⟩) (ps.length + 1) q5)).ownsRow (w5.heap.size + 1) 66 2 (.slice (some ⟨g5, 0, none⟩) (ps.length + 1) q5) (ps ++ [(S.term M x, (pa, pn, pc))]).length ((ps ++ [(S.term M x, (pa, pn, pc))]).flatMap encT) := by
                        have := row_set O5 3 (.slice (some ⟨g5, 0, none⟩) (ps.length + 1) q5)
                        simpa [encT, S.term, sv] using this
                      have W5 := row_set ((own_below (unhide HOW) B7').kept hg (own_apart (own_below (unhide HOW) B7') O7 (by decide))) 3 (.slice (some ⟨g5, 0, none⟩) (ps.length + 1) q5)
                      have OT5 : OwnT (w5.heap.size + 1) (u5w.setCell ⟨w5.heap.size, 3, none⟩ (.slice (some ⟨g5, 0, none⟩) (ps.length + 1) q5)) (ps ++ [(S.term M x, (pa, pn, pc))]) := fun p hp => by
                        rcases List.mem_append.1 hp with h9 | h9
                        · obtain ⟨qs', h1, h2⟩ := (unhide HOT).below B7' p h9
                          exact ⟨qs', h1.grow O7 hg _, h2⟩
                        · simp only [List.mem_singleton] at h9
                          subst h9
                          exact ⟨qs, (P7.mono (by simp; omega)).grow O7 hg _, Q7⟩
                      have B6 : Below w5.heap.size w5 (u5w.setCell ⟨w5.heap.size, 3, none⟩ (.slice (some ⟨g5, 0, none⟩) (ps.length + 1) q5)) := ((hbel.trans (B7'.mono (by omega))).grown hg (by omega) (fun j hj => by have := (O7.lt j hj).1; omega)).setCell (Nat.le_refl _) _
                      have z5 : w5.heap.size < (u5w.setCell ⟨w5.heap.size, 3, none⟩ (.slice (some ⟨g5, 0, none⟩) (ps.length + 1) q5)).heap.size := by have := hg.size; simp at this ⊢; omega
                      have HK5 := hide K5
                      have HT5 := hide T5
                      have HW5 := hide W5
                      have HOT5 := hide OT5
                      clear K5 T5 W5 OT5 O5 s5 f5 hg g5' O7 P7 Q7 t3 t4 t5
                      go_wp2
                      go_roundw
                      case rel =>
                        refine ⟨i + 1, _, ps ++ [(S.term M x, (pa, pn, pc))], by omega, by go_num, by simp; omega, ?_, unhide HK5, unhide HT5, HOT5, unhide HW5, B6, z5⟩
                        show _ = _
                        rw [unhide HSN, List.map_append, List.map_append, unhide HPS]
                        rfl
                      case measure => simp [intOf]; omega
                  · have X9 : wr.heap[w.heap.size]? = some (.cells #[.slice none 0 0, .slice none 0 0, .slice none 0 0, .slice none 0 0, .bool false] 31 (0, 0)) := (hbel.block _ hZ5).trans X5
                    obtain ⟨tva, tvc, htv, -⟩ := id (Kl.owned encT_len (by decide) hot)
                    subst htv
                    obtain ⟨ia, ic, hvi, -⟩ := id (Gl.owned hbx.2.1)
                    obtain ⟨ka, kc, hvk, -⟩ := id (Sl.owned hbx.2.2.1)
                    obtain ⟨lna, lnc, hvl, -⟩ := id (Sl.owned hbx.2.2.2.1)
                    subst hvi hvk hvl
                    have s0 := box_cell hbx.1 (j := 0) rfl
                    have s1 := box_cell hbx.1 (j := 1) rfl
                    have s2 := box_cell hbx.1 (j := 2) rfl
                    have s3 := box_cell hbx.1 (j := 3) rfl
                    have s4 := box_cell hbx.1 (j := 4) rfl
                    have x0 := box_cell X9 (j := 0) rfl
                    have x1 := box_cell X9 (j := 1) rfl
                    have x2 := box_cell X9 (j := 2) rfl
                    have x3 := box_cell X9 (j := 3) rfl
                    have x4 := box_cell X9 (j := 4) rfl
                    have f0 := bfro X9 0
                    have f1 := bfro X9 1
                    have f2 := bfro X9 2
                    have f3 := bfro X9 3
                    have f4 := bfro X9 4
                    have HEND := hide (rbuild_end (so := true) (r := r) hbx hot (unhide HOT) (by rw [unhide HPS, List.take_of_length_le (by omega), unhide HW9]) hbel B5 hZ5 (unhide HI9) (unhide HK9) (unhide HL9) (unhide HRR))
                    clear X9 hbx hot how hbel
                    go_wp2
                    exact bodyPost_ret (v := .tuple #[.agg #[.slice ia ids.length ic, .slice ka keys.length kc, .slice lna lens.length lnc, .slice tva ps.length tvc, .bool true], .int .i64 0]) (by simp [results, Try.results10, go_sem, x0, x1, x2, x3, x4]) rfl (unhide HEND)

        | false =>
          obtain ⟨w5, hw5⟩ : ∃ w5, w5 = wr := ⟨_, rfl⟩
          have C5 := HR0
          have B5 := BB
          have X5 := XR
          rw [← hw5] at C5 B5 X5 ⊢
          have hZ5 : w.heap.size < w5.heap.size := (Array.getElem?_eq_some_iff.1 X5).1
          obtain ⟨a5, cap5, hv5, hl5, hm5, hna5, hoL⟩ := C5.open
          simp only [Value.slice.injEq, true_and] at hv5
          obtain ⟨rfl, rfl⟩ := hv5
          obtain ⟨i9, hi9, hz90, hz91, hz92⟩ := info_parts Try.infoS
          obtain ⟨j0, hj, hj0, hj1, hj2⟩ := info_parts Try.info3
          have h64' : L.length ≤ 64 := by omega
          have HFC : Hid (∀ c ∈ L, c.w.length ≤ 120 ∧ ∀ x ∈ c.w, x.size ≤ 40) := hide (S.small (unhide HMA) (unhide HFW) (fun _ h => h))
          clear hw5
          go_wp2
          go_loopw [11, 12] (fun ov iv wr => ∃ (k : Nat) (vi vk vl : Value) (ids ws : List ByteArray) (keys lens : List Int), k ≤ L.length ∧ iv = .int .i64 k ∧ Hid (ids = (L.take k).map (·.id)) ∧ Hid (keys = (L.take k).map (·.key)) ∧ Hid (lens = (L.take k).map (fun c => (c.w.length : Int))) ∧ Hid (ws = S.words (L.take k)) ∧ ids.length ≤ k ∧ keys.length ≤ k ∧ lens.length ≤ k ∧ Bx w5.heap.size wr vi vk vl (.slice none 0 0) false ids keys lens ∧ wr.ownsRow (w5.heap.size + 1) 9 1 ov ws.length (ws.map Value.string) ∧ Far ov vi ∧ Below w5.heap.size w5 wr ∧ w5.heap.size < wr.heap.size) (fun _ iv _ => L.length - (intOf iv).toNat)
          case atStart => exact ⟨0, _, _, _, [], [], [], [], Nat.zero_le _, rfl, rfl, rfl, rfl, rfl, Nat.zero_le _, Nat.zero_le _, Nat.zero_le _, ⟨heap_alloc_new w5 _, World.ownsRow_nil _ _ _ _, World.ownsRow_nil _ _ _ _, World.ownsRow_nil _ _ _ _, fun b hb => by cases hb⟩, World.ownsRow_nil _ _ _ _, (fun b hb => by cases hb), below_alloc _ _, by simp⟩
          case round =>
            obtain ⟨k, vi, vk, vl, ids, ws, keys, lens, hk, rfl, HI, HK, HLN, HWS, hi1, hk1, hl1, hbx, how, hfar, hbel, hsz⟩ := hrel
            by_cases hlt : k < L.length
            · obtain ⟨b, off, rfl, hb, hc⟩ := hoL (by omega)
              obtain ⟨c, hx⟩ : ∃ c, L[k]? = some c := ⟨L[k]'(by omega), List.getElem?_eq_getElem _⟩
              obtain ⟨wa, wc, c0, c1, c2, G⟩ := hc k c hx
              have HG := hide G
              have HCL := hide (show ∀ wx, Below w5.heap.size w5 wx → wx.cell? ⟨b, off + k * 3, none⟩ = some (.string c.id) ∧ wx.cell? ⟨b, off + k * 3 + 1, none⟩ = some (.int .i64 c.key) ∧ wx.cell? ⟨b, off + k * 3 + 2, none⟩ = some (.slice wa c.w.length wc) from fun wx hb9 => ⟨(hb9.cell (p := ⟨b, off + k * 3, none⟩) hb).trans c0, (hb9.cell (p := ⟨b, off + k * 3 + 1, none⟩) hb).trans c1, (hb9.cell (p := ⟨b, off + k * 3 + 2, none⟩) hb).trans c2⟩)
              have HX := hide hx
              clear hc c0 c1 c2 hoL G hx
              have d0 := (unhide HCL wr hbel).1
              have s0 := box_cell hbx.1 (j := 0) rfl
              have f0 := bfro hbx.1 0
              obtain ⟨via, vic, hvi, -⟩ := id (Gl.owned hbx.2.1)
              subst hvi
              have q1 : b ≠ wr.heap.size := by have := hbel.size; omega
              have q3 : w5.heap.size ≠ wr.heap.size := by omega
              have OI := hbx.2.1
              have hne : (Value.slice via ids.length vic).ownBlock ≠ some w5.heap.size := fun e => by have := (OI.lt _ e).1; omega
              have HBX := hide hbx
              clear hbx
              go_upto_region 22 with fail
              go_cut [] from 62 to 71 (fun wx => ∃ g q, Bx w5.heap.size wx (.slice (some ⟨g, 0, none⟩) (ids.length + 1) q) vk vl (.slice none 0 0) false (ids ++ [c.id]) keys lens ∧ wx.ownsRow (w5.heap.size + 1) 9 1 u11 ws.length (ws.map Value.string) ∧ Far u11 (.slice (some ⟨g, 0, none⟩) (ids.length + 1) q) ∧ Below w5.heap.size w5 wx ∧ w5.heap.size < wx.heap.size)
              case first =>
                go_region_law
                  ((refine step_append_lies _ (by rfl) _ _ _ (by rfl) (w5.heap.size + 1) 9 i9 _ 1 16 Try.underlying23 hi9 hz90 hz91 hz92 rfl (by omega) (.slice via ids.length vic) _ _ (by rfl) ((OI.alloc _).drew)
                            ⟨wr.heap.size, 0, none⟩ 1 1 [.string c.id] (by rfl) (by rfl) (World.news_of_block (cs := #[.string c.id]) (t := 9) (fr := (0, 0)) (heap_alloc_new wr _)) (by simp [Value.oneCell'])
                            (by omega) (by unfold maxLen; omega) (by omega) (by simp; omega) (wr.heap.size + 1) (by simp) ?_; intro g5 q5 u5w O5 g5' l5 lt5; have s5 := (g5'.cell_far ⟨w5.heap.size, 0, none⟩ (by simp; omega) (Ne.symm hne)).trans (cell_keep s0 (below_alloc wr _).drew); have f5 := (g5'.frozen_far ⟨w5.heap.size, 0, none⟩ (by simp; omega) (Ne.symm hne)).trans (frozen_keep8 f0 (below_alloc wr _).drew hsz)))
                all_goals
                  have hg := (grown_below (below_alloc wr (.cells #[.string c.id] 9)).drew (Value.slice via ids.length vic).ownBlock).trans g5'
                  have K5 := (unhide HBX).ids (x := c.id) (n := ids.length + 1) (cap := q5) (by simpa using O5) hg
                  have W5 := row_set (hfar.symm.kept how hg) 0 (.slice (some ⟨g5, 0, none⟩) (ids.length + 1) q5)
                  have F5 : Far u11 (.slice (some ⟨g5, 0, none⟩) (ids.length + 1) q5) := far_new hfar how (c := wr.heap.size) (by rcases l5 with l5 | l5 <;> first | exact .inl l5 | (right; simp at l5; omega) | (right; omega)) (Nat.le_refl _)
                  have B6 : Below w5.heap.size w5 (u5w.setCell ⟨w5.heap.size, 0, none⟩ (.slice (some ⟨g5, 0, none⟩) (ids.length + 1) q5)) := (hbel.grown hg (by omega) (fun j hj => by have := (OI.lt j hj).1; omega)).setCell (Nat.le_refl _) _
                  have z5 : w5.heap.size < (u5w.setCell ⟨w5.heap.size, 0, none⟩ (.slice (some ⟨g5, 0, none⟩) (ids.length + 1) q5)).heap.size := by have := hg.size; simp at this ⊢; omega
                  have HK5 := hide K5
                  have HW5 := hide W5
                  clear K5 W5 O5 s5 f5 hg
                  go_wp2_with fail
                  go_meet
                  exact ⟨g5, q5, unhide HK5, unhide HW5, F5, B6, z5⟩
              case rest =>
              obtain ⟨g0, r0, hbx, how', hfar', hbel', hsz'⟩ := hcut
              clear hfar how hbel hsz d0 s0 f0 q1 q3 OI hne HBX
              have how := how'
              have hfar := hfar'
              have hbel := hbel'
              have hsz := hsz'
              clear how' hfar' hbel' hsz'
              obtain ⟨w0c, hwc0⟩ : ∃ w0c, w0c = wc := ⟨_, rfl⟩
              rw [← hwc0] at hbx how hbel hsz ⊢
              clear hwc0
              have d0 := (unhide HCL w0c hbel).2.1
              have s0 := box_cell hbx.1 (j := 1) rfl
              have f0 := bfro hbx.1 1
              obtain ⟨via, vic, hvi, -⟩ := id (Sl.owned hbx.2.2.1)
              subst hvi
              have q1 : b ≠ w0c.heap.size := by have := hbel.size; omega
              have q3 : w5.heap.size ≠ w0c.heap.size := by omega
              have OI := hbx.2.2.1
              have hne : (Value.slice via keys.length vic).ownBlock ≠ some w5.heap.size := fun e => by have := (OI.lt _ e).1; omega
              have HBX := hide hbx
              clear hbx
              go_upto_region 23 with fail
              go_cut [] from 72 to 81 (fun wx => ∃ g q, Bx w5.heap.size wx (.slice (some ⟨g0, 0, none⟩) (ids.length + 1) r0) (.slice (some ⟨g, 0, none⟩) (keys.length + 1) q) vl (.slice none 0 0) false (ids ++ [c.id]) (keys ++ [c.key]) lens ∧ wx.ownsRow (w5.heap.size + 1) 9 1 u11 ws.length (ws.map Value.string) ∧ Far u11 (.slice (some ⟨g0, 0, none⟩) (ids.length + 1) r0) ∧ Below w5.heap.size w5 wx ∧ w5.heap.size < wx.heap.size)
              case first =>
                go_region_law
                  ((refine step_append_lies _ (by rfl) _ _ _ (by rfl) (w5.heap.size + 1) 3 j0 _ 1 8 Try.underlying28 hj hj0 hj1 hj2 rfl (by omega) (.slice via keys.length vic) _ _ (by rfl) ((OI.alloc _).drew)
                            ⟨w0c.heap.size, 0, none⟩ 1 1 [.int .i64 c.key] (by rfl) (by rfl) (World.news_of_block (cs := #[.int .i64 c.key]) (t := 3) (fr := (0, 0)) (heap_alloc_new w0c _)) (by simp [Value.oneCell'])
                            (by omega) (by unfold maxLen; omega) (by omega) (by simp; omega) (w0c.heap.size + 1) (by simp) ?_; intro g5 q5 u5w O5 g5' l5 lt5; have s5 := (g5'.cell_far ⟨w5.heap.size, 1, none⟩ (by simp; omega) (Ne.symm hne)).trans (cell_keep s0 (below_alloc w0c _).drew); have f5 := (g5'.frozen_far ⟨w5.heap.size, 1, none⟩ (by simp; omega) (Ne.symm hne)).trans (frozen_keep8 f0 (below_alloc w0c _).drew hsz)))
                all_goals
                  have hg := (grown_below (below_alloc w0c (.cells #[.int .i64 c.key] 3)).drew (Value.slice via keys.length vic).ownBlock).trans g5'
                  have K5 := (unhide HBX).keys (x := c.key) (n := keys.length + 1) (cap := q5) (by simpa using O5) hg (by rcases l5 with l5 | l5 <;> first | exact .inl l5 | (right; simp at l5; omega) | (right; omega))
                  have W5 := row_set (how.kept hg (own_apart how OI (by decide))) 1 (.slice (some ⟨g5, 0, none⟩) (keys.length + 1) q5)
                  have F5 : Far u11 (.slice (some ⟨g0, 0, none⟩) (ids.length + 1) r0) := hfar
                  have B6 : Below w5.heap.size w5 (u5w.setCell ⟨w5.heap.size, 1, none⟩ (.slice (some ⟨g5, 0, none⟩) (keys.length + 1) q5)) := (hbel.grown hg (by omega) (fun j hj => by have := (OI.lt j hj).1; omega)).setCell (Nat.le_refl _) _
                  have z5 : w5.heap.size < (u5w.setCell ⟨w5.heap.size, 1, none⟩ (.slice (some ⟨g5, 0, none⟩) (keys.length + 1) q5)).heap.size := by have := hg.size; simp at this ⊢; omega
                  have HK5 := hide K5
                  have HW5 := hide W5
                  clear K5 W5 O5 s5 f5 hg
                  go_wp2_with fail
                  go_meet
                  exact ⟨g5, q5, unhide HK5, unhide HW5, F5, B6, z5⟩
              case rest =>
              obtain ⟨g1, r1, hbx, how', hfar', hbel', hsz'⟩ := hcut
              clear hfar how hbel hsz d0 s0 f0 q1 q3 OI hne HBX
              have how := how'
              have hfar := hfar'
              have hbel := hbel'
              have hsz := hsz'
              clear how' hfar' hbel' hsz'
              obtain ⟨w1c, hwc1⟩ : ∃ w1c, w1c = wc := ⟨_, rfl⟩
              rw [← hwc1] at hbx how hbel hsz ⊢
              clear hwc1
              have d0 := (unhide HCL w1c hbel).2.2
              have s0 := box_cell hbx.1 (j := 2) rfl
              have f0 := bfro hbx.1 2
              obtain ⟨via, vic, hvi, -⟩ := id (Sl.owned hbx.2.2.2.1)
              subst hvi
              have q1 : b ≠ w1c.heap.size := by have := hbel.size; omega
              have q3 : w5.heap.size ≠ w1c.heap.size := by omega
              have OI := hbx.2.2.2.1
              have hne : (Value.slice via lens.length vic).ownBlock ≠ some w5.heap.size := fun e => by have := (OI.lt _ e).1; omega
              have HBX := hide hbx
              clear hbx
              go_upto_region 24 with fail
              go_cut [] from 82 to 92 (fun wx => ∃ g q, Bx w5.heap.size wx (.slice (some ⟨g0, 0, none⟩) (ids.length + 1) r0) (.slice (some ⟨g1, 0, none⟩) (keys.length + 1) r1) (.slice (some ⟨g, 0, none⟩) (lens.length + 1) q) (.slice none 0 0) false (ids ++ [c.id]) (keys ++ [c.key]) (lens ++ [(c.w.length : Int)]) ∧ wx.ownsRow (w5.heap.size + 1) 9 1 u11 ws.length (ws.map Value.string) ∧ Far u11 (.slice (some ⟨g0, 0, none⟩) (ids.length + 1) r0) ∧ Below w5.heap.size w5 wx ∧ w5.heap.size < wx.heap.size)
              case first =>
                go_region_law
                  ((refine step_append_lies _ (by rfl) _ _ _ (by rfl) (w5.heap.size + 1) 3 j0 _ 1 8 Try.underlying28 hj hj0 hj1 hj2 rfl (by omega) (.slice via lens.length vic) _ _ (by rfl) ((OI.alloc _).drew)
                            ⟨w1c.heap.size, 0, none⟩ 1 1 [.int .i64 (c.w.length : Int)] (by rfl) (by rfl) (World.news_of_block (cs := #[.int .i64 (c.w.length : Int)]) (t := 3) (fr := (0, 0)) (heap_alloc_new w1c _)) (by simp [Value.oneCell'])
                            (by omega) (by unfold maxLen; omega) (by omega) (by simp; omega) (w1c.heap.size + 1) (by simp) ?_; intro g5 q5 u5w O5 g5' l5 lt5; have s5 := (g5'.cell_far ⟨w5.heap.size, 2, none⟩ (by simp; omega) (Ne.symm hne)).trans (cell_keep s0 (below_alloc w1c _).drew); have f5 := (g5'.frozen_far ⟨w5.heap.size, 2, none⟩ (by simp; omega) (Ne.symm hne)).trans (frozen_keep8 f0 (below_alloc w1c _).drew hsz)))
                all_goals
                  have hg := (grown_below (below_alloc w1c (.cells #[.int .i64 (c.w.length : Int)] 3)).drew (Value.slice via lens.length vic).ownBlock).trans g5'
                  have K5 := (unhide HBX).lens (x := (c.w.length : Int)) (n := lens.length + 1) (cap := q5) (by simpa using O5) hg (by rcases l5 with l5 | l5 <;> first | exact .inl l5 | (right; simp at l5; omega) | (right; omega))
                  have W5 := row_set (how.kept hg (own_apart how OI (by decide))) 2 (.slice (some ⟨g5, 0, none⟩) (lens.length + 1) q5)
                  have F5 : Far u11 (.slice (some ⟨g0, 0, none⟩) (ids.length + 1) r0) := hfar
                  have B6 : Below w5.heap.size w5 (u5w.setCell ⟨w5.heap.size, 2, none⟩ (.slice (some ⟨g5, 0, none⟩) (lens.length + 1) q5)) := (hbel.grown hg (by omega) (fun j hj => by have := (OI.lt j hj).1; omega)).setCell (Nat.le_refl _) _
                  have z5 : w5.heap.size < (u5w.setCell ⟨w5.heap.size, 2, none⟩ (.slice (some ⟨g5, 0, none⟩) (lens.length + 1) q5)).heap.size := by have := hg.size; simp at this ⊢; omega
                  have HK5 := hide K5
                  have HW5 := hide W5
                  clear K5 W5 O5 s5 f5 hg
                  go_wp2_with fail
                  go_meet
                  exact ⟨g5, q5, unhide HK5, unhide HW5, F5, B6, z5⟩
              case rest =>
              obtain ⟨g2, r2, hbx, how', hfar', hbel', hsz'⟩ := hcut
              clear hfar how hbel hsz d0 s0 f0 q1 q3 OI hne HBX
              have how := how'
              have hfar := hfar'
              have hbel := hbel'
              have hsz := hsz'
              clear how' hfar' hbel' hsz'
              obtain ⟨w2c, hwc2⟩ : ∃ w2c, w2c = wc := ⟨_, rfl⟩
              rw [← hwc2] at hbx how hbel hsz ⊢
              clear hwc2
              obtain ⟨hcl, hcz⟩ := unhide HFC c (List.mem_of_getElem? (unhide HX))
              have HCZ := hide hcz
              have hwsl : ws.length ≤ k * 120 := by rw [unhide HWS]; exact S.words_len (fun c hc => (unhide HFC c hc).1) k hk
              have HWZ : Hid (∀ x ∈ ws, x.size ≤ 40) := hide (fun x hx => by rw [unhide HWS] at hx; obtain ⟨c', hc', hx'⟩ := S.mem_words.1 hx; exact (unhide HFC c' (List.mem_of_mem_take hc')).2 x hx')
              have HWR : Hid (D.Rise ws) := hide (by rw [unhide HWS]; exact S.words_rise _)
              obtain ⟨wa', wc', hv', hlw, hmw, hnw, hoW⟩ := (unhide HG).open
              simp only [Value.slice.injEq, true_and] at hv'
              obtain ⟨rfl, rfl⟩ := hv'
              have hvb : g0 < w2c.heap.size := (hbx.2.1.lt g0 rfl).2
              have d0 := (unhide HCL w2c hbel).2.2
              have HBX := hide hbx
              clear hbx hcz
              go_wp2
              go_loopw [11, 13] (fun ov mv wr => ∃ (m : Nat) (wsm : List ByteArray), m ≤ c.w.length ∧ mv = .int .i64 m ∧ Hid (wsm = D.adds ws (c.w.take m)) ∧ wr.ownsRow (w5.heap.size + 1) 9 1 ov wsm.length (wsm.map Value.string) ∧ Far ov (.slice (some ⟨g0, 0, none⟩) (ids.length + 1) r0) ∧ Below w2c.heap.size w2c wr) (fun _ mv _ => c.w.length - (intOf mv).toNat)
              case atStart => exact ⟨0, ws, Nat.zero_le _, rfl, rfl, how, hfar, Below.refl _ _⟩
              case round =>
                clear how hfar d0
                obtain ⟨m, wsm, hm9, rfl, HWM, hown, hfar, hbm⟩ := hrel
                have hbw : Below w5.heap.size w5 wr := hbel.trans (hbm.mono (by omega))
                have e2 := (unhide HCL wr hbw).2.2
                by_cases hlm : m < c.w.length
                · obtain ⟨x, hx⟩ : ∃ x, c.w[m]? = some x := ⟨c.w[m], List.getElem?_eq_getElem hlm⟩
                  obtain ⟨b1, off1, rfl, hb1, hc1⟩ := hoW (by omega)
                  have e3 := (hbw.cell (p := ⟨b1, off1 + m, none⟩) hb1).trans (hc1 m x hx)
                  have hwm : wsm.length ≤ 1000000 := by
                    have := D.adds_len (c.w.take m) ws
                    rw [← unhide HWM] at this
                    have h9 : (c.w.take m).length ≤ m := List.length_take_le _ _
                    omega
                  have HST := hide (S.adds_step (o := ws) hx)
                  have CA := radd_own u11 wsm x wr (Gl.owned hown) (fun y hy => by
                    rw [unhide HWM] at hy
                    unfold maxLen
                    rcases D.mem_adds.1 hy with h9 | h9
                    · have := unhide HWZ y h9; omega
                    · have := unhide HCZ y (List.mem_of_mem_take h9); omega) (by rw [unhide HWM]; exact D.adds_rise (unhide HWR)) hwm _ rfl
                  have HO := hide hown
                  have hsr := hbm.size
                  clear hc1 hx hown
                  go_wp2_with fail
                  refine CA.mono ?_
                  rintro e w7 ⟨v7, rfl, G7, B7, O7⟩
                  have B9 := below_trans' hbm B7
                  have O9 : w7.ownsRow (w5.heap.size + 1) 9 1 v7 (D.add wsm x).length ((D.add wsm x).map Value.string) := O7.own G7 (unhide HO) B7 (by omega)
                  have F9 : Far v7 (.slice (some ⟨g0, 0, none⟩) (ids.length + 1) r0) := O7.far hfar (by omega)
                  clear G7 B7 O7 CA
                  go_wp2
                  go_roundw
                  case rel =>
                    refine ⟨m + 1, D.add wsm x, by omega, by go_num, ?_, O9, F9, B9⟩
                    show _ = _
                    rw [unhide HST, ← unhide HWM]
                  case measure => simp [intOf]; omega
                · have hml : m = c.w.length := by omega
                  have hsr := hbm.size
                  have HTS := hide (take_snoc8 (unhide HX))
                  have HWS2 : Hid (wsm = S.words (L.take (k + 1))) := by
                    show _ = _
                    rw [S.words_step (unhide HX), unhide HWM, hml, List.take_length, unhide HWS]
                  have K9 := (unhide HBX).below hbm
                  have HK9 := hide K9
                  clear K9
                  go_wp2
                  go_roundw
                  case rel =>
                    refine ⟨k + 1, _, _, _, ids ++ [c.id], wsm, keys ++ [c.key], lens ++ [(c.w.length : Int)], by omega, by go_num, ?_, ?_, ?_, HWS2, by simp; omega, by simp; omega, by simp; omega, unhide HK9, hown, hfar, hbw, by omega⟩
                    · show _ = _
                      rw [unhide HTS, List.map_append, ← unhide HI]; rfl
                    · show _ = _
                      rw [unhide HTS, List.map_append, ← unhide HK]; rfl
                    · show _ = _
                      rw [unhide HTS, List.map_append, ← unhide HLN]; rfl
                  case measure => simp [intOf]; omega
            · have HW9 : Hid (ws = S.words L) := by
                show _ = _
                rw [unhide HWS, List.take_of_length_le (by omega)]
              have HI9 : Hid (ids = L.map (·.id)) := by
                show _ = _
                rw [unhide HI, List.take_of_length_le (by omega)]
              have HK9 : Hid (keys = L.map (·.key)) := by
                show _ = _
                rw [unhide HK, List.take_of_length_le (by omega)]
              have HL9 : Hid (lens = L.map (fun c => (c.w.length : Int))) := by
                show _ = _
                rw [unhide HLN, List.take_of_length_le (by omega)]
              have X9 : wr.heap[w.heap.size]? = some (.cells #[.slice none 0 0, .slice none 0 0, .slice none 0 0, .slice none 0 0, .bool false] 31 (0, 0)) := (hbel.block _ hZ5).trans X5
              have BB9 : Below w.heap.size w wr := B5.trans (hbel.mono (by omega))
              obtain ⟨oa, oc, hov, -⟩ := id (Gl.owned how)
              subst hov
              clear HI HK HLN HWS hoL
              by_cases h200 : (200 : Int) < (ws.length : Int)
              · have hm9 : 200 < (S.words L).length := by rw [← (rfl : S.words L = S.words L), ← unhide HW9]; omega
                clear hbx how hfar
                have HR9 := hide ((unhide HR).symm.trans (S.build_many (unhide HMA) (by omega) hm9))
                have x0 := box_cell X9 (j := 0) rfl
                have x1 := box_cell X9 (j := 1) rfl
                have x2 := box_cell X9 (j := 2) rfl
                have x3 := box_cell X9 (j := 3) rfl
                have x4 := box_cell X9 (j := 4) rfl
                have f0 := bfro X9 0
                have f1 := bfro X9 1
                have f2 := bfro X9 2
                have f3 := bfro X9 3
                have f4 := bfro X9 4
                go_wp2
                exact bodyPost_ret (v := .tuple #[.agg #[.slice none 0 0, .slice none 0 0, .slice none 0 0, .slice none 0 0, .bool false], .int .i64 8]) (by simp [results, Try.results10, go_sem, x0, x1, x2, x3, x4]) rfl (build_err _ _ _ _ _ BB9 (Nat.le_refl _) (unhide HR9))
              · have hm9 : (S.words L).length ≤ 200 := by rw [← (rfl : S.words L = S.words L), ← unhide HW9]; omega
                have HRR : Hid (S.seg L = r.1 ∧ r.2.1 = false ∧ r.2.2 = 0) := by
                  rw [← unhide HR, S.build_yes (unhide HMA) (by omega) hm9]
                  exact ⟨rfl, rfl, rfl⟩
                obtain ⟨iT, hiT, hzT0, hzT1, hzT2⟩ := info_parts Try.infoT
                have hwl9 : ws.length ≤ 200 := by omega
                clear hm9 BB9 X9
                rename World => w6
                go_wp2
                go_loopw [14] (fun iv wr => ∃ (i : Nat) (tv : Value) (ps : List (Tm × Pts)), i ≤ ws.length ∧ iv = .int .i64 i ∧ ps.length ≤ i ∧ Hid (ps.map (·.1) = (ws.take i).map (S.term L)) ∧ Bx w5.heap.size wr vi vk vl tv false ids keys lens ∧ wr.ownsRow (w5.heap.size + 1) 66 2 tv ps.length (ps.flatMap encT) ∧ Hid (OwnT (w5.heap.size + 1) wr ps) ∧ wr.ownsRow (w5.heap.size + 1) 9 1 (.slice oa ws.length oc) ws.length (ws.map Value.string) ∧ Below w5.heap.size w5 wr ∧ w5.heap.size < wr.heap.size) (fun iv _ => ws.length - (intOf iv).toNat)
                case atStart => exact ⟨0, _, [], Nat.zero_le _, rfl, Nat.zero_le _, rfl, hbx, World.ownsRow_nil _ _ _ _, hide (fun p hp => by cases hp), how, hbel, hsz⟩
                case round =>
                  clear hbx how hbel hsz hfar
                  obtain ⟨i, tv, ps, hi, rfl, hpl, HPS, hbx, hot, HOT, how, hbel, hsz⟩ := hrel
                  by_cases hlt2 : i < ws.length
                  · obtain ⟨x, hx⟩ : ∃ x, ws[i]? = some x := ⟨ws[i], List.getElem?_eq_getElem hlt2⟩
                    obtain ⟨oa', oc', hv9, -, -, -, ho9⟩ := (Gl.owned how).open
                    simp only [Value.slice.injEq, true_and] at hv9
                    obtain ⟨rfl, rfl⟩ := hv9
                    obtain ⟨b9, off9, rfl, hb9, hc9⟩ := ho9 (by omega)
                    have d0 := hc9 i x hx
                    have hgl : w5.heap.size + 1 ≤ b9 := own_first9 how
                    obtain ⟨tva, tvc, htv, -⟩ := id (Kl.owned encT_len (by decide) hot)
                    subst htv
                    have s3 : wr.cell? ⟨w5.heap.size, 3, none⟩ = some (.slice tva ps.length tvc) := box_cell hbx.1 rfl
                    have f3 := bfro hbx.1 3
                    have HSN := hide (take_snoc8 hx)
                    have HCP := hide (postings_any _ L x wr.drew ((C5.below hbel).below (below_dr (Below.refl _ _) 1)) (by omega) (fun c hc => by have := (unhide HFC c hc).1; omega))
                    have HBX := hide hbx
                    have HOW := hide how
                    have HHOT := hide hot
                    have q9 : (i : Int) < (ws.length : Int) := by omega
                    clear hbx how hot hc9 ho9 hx
                    go_upto_region 34 with fail
                    go_region_law (first
                      | (go_simp
                         refine (unhide HCP).mono ?_
                         rintro e w7 ⟨⟨pa, pn, pc⟩, qs, rfl, Q7, P7, B7⟩
                         have B7' : Below wr.heap.size wr w7 := below_trans' (below_dr (Below.refl _ _) 1) B7
                         have O7 := own_below (unhide HHOT) B7'
                         have t3 := cell_keep s3 B7'
                         have t4 := frozen_keep8 f3 B7' hsz
                         have t5 := cell_keep d0 B7'
                         have hs7 := B7'.size
                         have hsz7 : w5.heap.size < w7.heap.size := Nat.lt_of_lt_of_le hsz B7'.size
                         have hbz7 : b9 < w7.heap.size := Nat.lt_of_lt_of_le hb9 B7'.size
                         simp only [sv])
                      | (refine step_append_lies _ (by rfl) _ _ _ (by rfl) (w5.heap.size + 1) 66 iT _ 2 40 Try.underlying29 hiT hzT0 hzT1 hzT2 rfl (by omega) (.slice tva ps.length tvc) _ _ (by rfl) (O7.alloc _)
                          ⟨w7.heap.size, 0, none⟩ 1 1 [.string x, .slice pa pn pc] (by rfl) (by rfl) (World.news_of_block (cs := #[.string x, .slice pa pn pc]) (t := 66) (fr := (0, 0)) (heap_alloc_new w7 _)) (by simp [Value.oneCell'])
                          (by omega) (by unfold maxLen; omega) (by omega) (by simp; omega) (w7.heap.size + 1) (by simp) ?_
                         intro g5 q5 u5w O5 g5' l5 lt5
                         have hne : (Value.slice tva ps.length tvc).ownBlock ≠ some w5.heap.size := fun e => by have := (O7.lt _ e).1; omega
                         have s5 := (g5'.cell_far ⟨w5.heap.size, 3, none⟩ (by simp; omega) (Ne.symm hne)).trans (cell_keep t3 (below_alloc w7 _))
                         have f5 := (g5'.frozen_far ⟨w5.heap.size, 3, none⟩ (by simp; omega) (Ne.symm hne)).trans (frozen_keep8 t4 (below_alloc w7 _) hsz7)))
                    all_goals
                      have hg := (grown_below (below_alloc w7 (.cells #[.string x, .slice pa pn pc] 66)) (Value.slice tva ps.length tvc).ownBlock).trans g5'
                      have K5 := ((unhide HBX).below B7').terms O7 hg (.slice (some ⟨g5, 0, none⟩) (ps.length + 1) q5)
                      have T5 : (u5w.setCell ⟨w5.heap.size, 3, none⟩ (.slice (some ⟨g5, 0, none⟩) (ps.length + 1) q5)).ownsRow (w5.heap.size + 1) 66 2 (.slice (some ⟨g5, 0, none⟩) (ps.length + 1) q5) (ps ++ [(S.term L x, (pa, pn, pc))]).length ((ps ++ [(S.term L x, (pa, pn, pc))]).flatMap encT) := by
                        have := row_set O5 3 (.slice (some ⟨g5, 0, none⟩) (ps.length + 1) q5)
                        simpa [encT, S.term, sv] using this
                      have W5 := row_set ((own_below (unhide HOW) B7').kept hg (own_apart (own_below (unhide HOW) B7') O7 (by decide))) 3 (.slice (some ⟨g5, 0, none⟩) (ps.length + 1) q5)
                      have OT5 : OwnT (w5.heap.size + 1) (u5w.setCell ⟨w5.heap.size, 3, none⟩ (.slice (some ⟨g5, 0, none⟩) (ps.length + 1) q5)) (ps ++ [(S.term L x, (pa, pn, pc))]) := fun p hp => by
                        rcases List.mem_append.1 hp with h9 | h9
                        · obtain ⟨qs', h1, h2⟩ := (unhide HOT).below B7' p h9
                          exact ⟨qs', h1.grow O7 hg _, h2⟩
                        · simp only [List.mem_singleton] at h9
                          subst h9
                          exact ⟨qs, (P7.mono (by simp; omega)).grow O7 hg _, Q7⟩
                      have B6 : Below w5.heap.size w5 (u5w.setCell ⟨w5.heap.size, 3, none⟩ (.slice (some ⟨g5, 0, none⟩) (ps.length + 1) q5)) := ((hbel.trans (B7'.mono (by omega))).grown hg (by omega) (fun j hj => by have := (O7.lt j hj).1; omega)).setCell (Nat.le_refl _) _
                      have z5 : w5.heap.size < (u5w.setCell ⟨w5.heap.size, 3, none⟩ (.slice (some ⟨g5, 0, none⟩) (ps.length + 1) q5)).heap.size := by have := hg.size; simp at this ⊢; omega
                      have HK5 := hide K5
                      have HT5 := hide T5
                      have HW5 := hide W5
                      have HOT5 := hide OT5
                      clear K5 T5 W5 OT5 O5 s5 f5 hg g5' O7 P7 Q7 t3 t4 t5
                      go_wp2
                      go_roundw
                      case rel =>
                        refine ⟨i + 1, _, ps ++ [(S.term L x, (pa, pn, pc))], by omega, by go_num, by simp; omega, ?_, unhide HK5, unhide HT5, HOT5, unhide HW5, B6, z5⟩
                        show _ = _
                        rw [unhide HSN, List.map_append, List.map_append, unhide HPS]
                        rfl
                      case measure => simp [intOf]; omega
                  · have X9 : wr.heap[w.heap.size]? = some (.cells #[.slice none 0 0, .slice none 0 0, .slice none 0 0, .slice none 0 0, .bool false] 31 (0, 0)) := (hbel.block _ hZ5).trans X5
                    obtain ⟨tva, tvc, htv, -⟩ := id (Kl.owned encT_len (by decide) hot)
                    subst htv
                    obtain ⟨ia, ic, hvi, -⟩ := id (Gl.owned hbx.2.1)
                    obtain ⟨ka, kc, hvk, -⟩ := id (Sl.owned hbx.2.2.1)
                    obtain ⟨lna, lnc, hvl, -⟩ := id (Sl.owned hbx.2.2.2.1)
                    subst hvi hvk hvl
                    have s0 := box_cell hbx.1 (j := 0) rfl
                    have s1 := box_cell hbx.1 (j := 1) rfl
                    have s2 := box_cell hbx.1 (j := 2) rfl
                    have s3 := box_cell hbx.1 (j := 3) rfl
                    have s4 := box_cell hbx.1 (j := 4) rfl
                    have x0 := box_cell X9 (j := 0) rfl
                    have x1 := box_cell X9 (j := 1) rfl
                    have x2 := box_cell X9 (j := 2) rfl
                    have x3 := box_cell X9 (j := 3) rfl
                    have x4 := box_cell X9 (j := 4) rfl
                    have f0 := bfro X9 0
                    have f1 := bfro X9 1
                    have f2 := bfro X9 2
                    have f3 := bfro X9 3
                    have f4 := bfro X9 4
                    have HEND := hide (rbuild_end (so := false) (r := r) hbx hot (unhide HOT) (by rw [unhide HPS, List.take_of_length_le (by omega), unhide HW9]) hbel B5 hZ5 (unhide HI9) (unhide HK9) (unhide HL9) (unhide HRR))
                    clear X9 hbx hot how hbel
                    go_wp2
                    exact bodyPost_ret (v := .tuple #[.agg #[.slice ia ids.length ic, .slice ka keys.length kc, .slice lna lens.length lnc, .slice tva ps.length tvc, .bool false], .int .i64 0]) (by simp [results, Try.results10, go_sem, x0, x1, x2, x3, x4]) rfl (unhide HEND)

end Go.Proofs.Ytonhehhmnobciaa
