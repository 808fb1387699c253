/-
  The contract of the document's own postings.
-/
import Derived.Test.YtonhehhmnobciaaRSmall8
import Derived.Test.YtonhehhmnobciaaBehind8
namespace Go.Proofs.Ytonhehhmnobciaa
set_option maxRecDepth 100000
open Go.RowKit

/-- Postings of the call's own. -/
def OwnP (B : Nat) (w : World) (s : Pts) (qs : List (Pt × Pts)) : Prop :=
  w.ownsRow B 51 2 (sv s) qs.length (qs.flatMap encP) ∧ ∀ q ∈ qs, Pa B w (sv q.2) q.1.a
theorem OwnP.below {B : Nat} {w w' : World} {s : Pts} {qs : List (Pt × Pts)} (h : OwnP B w s qs) (hb : Below w.heap.size w w') : OwnP B w' s qs := ⟨own_below h.1 hb, fun q hq => own_below (h.2 q hq) hb⟩
theorem OwnP.mono {B B' : Nat} {w : World} {s : Pts} {qs : List (Pt × Pts)} (h : OwnP B w s qs) (hB : B' ≤ B) : OwnP B' w s qs := ⟨own_mono h.1 hB, fun q hq => own_mono (h.2 q hq) hB⟩
theorem OwnP.pl {B : Nat} {w : World} {s : Pts} {qs : List (Pt × Pts)} (h : OwnP B w s qs) : Pl w (sv s) (qs.map (·.1)) := by
  obtain ⟨a, cap, hv, hl, hm, hn, hc⟩ := Kl.owned encP_len (by decide) h.1
  refine ⟨a, cap, by rw [hv, List.length_map], by simpa using hl, hm, hn, fun x hx i p hi => ?_⟩
  rw [List.getElem?_map] at hi
  obtain ⟨q, hq, rfl⟩ := Option.map_eq_some_iff.1 hi
  exact ⟨sv q.2, hc x hx i q hq 0 _ rfl, hc x hx i q hq 1 _ rfl, Pa.sl (h.2 q (List.mem_of_getElem? hq))⟩

set_option maxRecDepth 100000 in
set_option maxHeartbeats 4000000 in
theorem postings_any (v : Value) (L : List Cd) (t : ByteArray) (w : World) (h : Cs w v L) (hll : L.length ≤ 1000) (hcw : ∀ c ∈ L, c.w.length ≤ 1000) :
    Calls Try.prog 36 #[v, .string t] w fun e w' => ∃ s qs, e = .returned (sv s) ∧ qs.map (·.1) = (S.posts L t).map S.pt ∧ OwnP w.heap.size w' s qs ∧ Below w.heap.size w w' := by
  obtain ⟨i0, hi, hz0, hz1, hz2⟩ := info_parts Try.infoP
  have H := h
  obtain ⟨a, cap, rfl, hl, hm, hna, -⟩ := h.open
  have HCW := hide hcw
  clear h hcw
  go_enter Try.func36, Try.ntmps36
  go_wp2
  go_loopw [5, 6] (fun ov iv wr => ∃ (k : Nat) (s : Pts) (qs : List (Pt × Pts)), k ≤ L.length ∧ iv = .int .i64 k ∧ ov = sv s ∧ Hid (qs.map (·.1) = (S.posts (L.take k) t).map S.pt) ∧ qs.length ≤ k ∧ OwnP w.heap.size wr s qs ∧ Below w.heap.size w wr) (fun _ iv _ => L.length - (intOf iv).toNat)
  case atStart => exact ⟨0, (none, 0, 0), [], Nat.zero_le _, rfl, rfl, rfl, Nat.zero_le _, ⟨World.ownsRow_nil _ _ _ _, (fun q hq => by cases hq)⟩, Below.refl _ _⟩
  case round =>
    obtain ⟨k, s, qs, hk, rfl, rfl, HP, hql, hO, hbel⟩ := hrel
    by_cases hlt : k < L.length
    · obtain ⟨a', c', hv', -, -, -, ho⟩ := (H.below hbel).open
      simp only [Value.slice.injEq, true_and] at hv'
      obtain ⟨rfl, rfl⟩ := hv'
      obtain ⟨b, off, rfl, hb, hc⟩ := ho (by omega)
      obtain ⟨c, hx⟩ : ∃ c, L[k]? = some c := ⟨L[k], List.getElem?_eq_getElem hlt⟩
      obtain ⟨wa, wc, c0, c1, c2, G⟩ := hc k c hx
      have hcl := unhide HCW c (List.mem_of_getElem? hx)
      have HST := hide (S.posts_step hx t)
      have hbs := hbel.size
      have HO := hide hO
      clear ho hc hx hO
      go_wp2_with fail
      refine (rplaces_any _ c.w t wr G hcl).mono ?_
      rintro e w1 ⟨v1, rfl, P1, B1⟩
      obtain ⟨dva, dvc, rfl, -⟩ := id P1.sl
      obtain ⟨z, hz⟩ : ∃ z, S.places c.w t = z := ⟨_, rfl⟩
      rw [hz] at P1 HST ⊢
      have O1 := (unhide HO).below B1
      have BB1 := below_trans' hbel B1
      have hb1 := BB1.size
      clear G c0 c1 c2 hz
      by_cases hz0' : z.length = 0
      · have hze : z = [] := List.eq_nil_of_length_eq_zero hz0'
        rw [if_pos hze, List.append_nil] at HST
        clear hze P1
        have q1 : ¬ (0 : Int) < (z.length : Int) := by omega
        go_wp2
        go_roundw
        case rel =>
          refine ⟨k + 1, s, qs, by omega, by go_num, rfl, ?_, by omega, O1, BB1⟩
          show _ = _
          rw [unhide HST]
          exact unhide HP
        case measure => simp [intOf]; omega
      · have hze : z ≠ [] := fun e => hz0' (by rw [e]; rfl)
        rw [if_neg hze] at HST
        clear hze
        have q1 : (0 : Int) < (z.length : Int) := by omega
        have HO1 := hide O1
        have OO := O1.1
        have HP1 := hide P1
        clear O1 P1
        go_wp2_with (at_builtin; refine append_oneF (f := encP) rfl _ _ 48 rfl Try.underlying48 hi hz0 hz1 hz2 rfl (by decide) encP_len encP_one (pre := qs) (⟨(k : Int), z⟩, (dva, z.length, dvc)) rfl rfl rfl rfl OO (by omega) (by omega) (by decide) ?_; intro g3 q3 w3 O3 g3' l3)
        have K3 : ∀ u y, Pa w.heap.size w1 u y → Pa w.heap.size w3 u y := fun u y h => World.ownsRow.kept h g3' (own_apart h OO (by decide))
        have OE : OwnP w.heap.size w3 (some ⟨g3, 0, none⟩, qs.length + 1, q3) (qs ++ [(⟨(k : Int), z⟩, (dva, z.length, dvc))]) := ⟨O3, fun q hq => by
          rcases List.mem_append.1 hq with hq | hq
          · exact K3 _ _ ((unhide HO1).2 q hq)
          · simp only [List.mem_cons, List.not_mem_nil, or_false] at hq
            subst hq
            exact K3 _ _ (own_mono (unhide HP1) hbs)⟩
        have B3 : Below w.heap.size w w3 := BB1.grown g3' hb1 (fun j hj => (OO.lt j hj).1)
        have HOE := hide OE
        clear K3 g3' l3 O3 OO OE
        go_wp2
        go_roundw
        case rel =>
          refine ⟨k + 1, (some ⟨g3, 0, none⟩, qs.length + 1, q3), qs ++ [(⟨(k : Int), z⟩, (dva, z.length, dvc))], by omega, by go_num, rfl, ?_, by simp; omega, unhide HOE, B3⟩
          show _ = _
          rw [unhide HST, List.map_append, List.map_append, unhide HP]
          rfl
        case measure => simp [intOf]; omega
    · have HF : Hid (qs.map (·.1) = (S.posts L t).map S.pt) := by
        show _ = _
        rw [unhide HP, List.take_of_length_le (by omega)]
      go_wp2
      go_ret
      exact ⟨s, qs, rfl, unhide HF, hO, hbel⟩
end Go.Proofs.Ytonhehhmnobciaa
