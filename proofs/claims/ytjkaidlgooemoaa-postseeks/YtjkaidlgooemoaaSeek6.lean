/-
  The contracts of the document's own Unpack, of Seek, and of the document's own Seek.
-/
import Derived.Test.YtjkaidlgooemoaaUnp6
import Derived.Test.YtjkaidlgooemoaaRd6
import Derived.Test.YtjkaidlgooemoaaRPack6
namespace Go.Proofs.Ytjkaidlgooemoaa
open Go.RowKit

theorem Q.unp_ans (l : List Int) : (Q.unp l = none ∧ Q.unpA l = [] ∧ Q.unpE l = 5) ∨ ∃ L, Q.unp l = some L ∧ Q.unpA l = L ∧ Q.unpE l = 0 := by
  unfold Q.unpA Q.unpE
  cases h : Q.unp l with
  | none => exact .inl ⟨rfl, rfl, rfl⟩
  | some L => exact .inr ⟨L, rfl, rfl, rfl⟩

theorem Q.unp_no {l : List Int} (h : Q.unp l = none) : Q.unpA l = [] ∧ Q.unpE l = 5 := by simp [Q.unpA, Q.unpE, h]
theorem Q.unp_yes {l : List Int} {L : List Pt} (h : Q.unp l = some L) : Q.unpA l = L ∧ Q.unpE l = 0 := by simp [Q.unpA, Q.unpE, h]

set_option maxHeartbeats 2000000 in
theorem runpack_any (v : Value) (l : List Int) (w : World) (hs : Sl .u8 w v l) (hbt : V.Byt l) (hl : l.length ≤ 1000000) :
    Calls Try.prog 23 #[v] w fun e w' => UnpEnd w l e w' := by
  obtain ⟨va, vc, hv, -⟩ := id hs
  subst hv
  have HRD := hide (rd_any _ l w hs hbt hl)
  have hur := Q.unp_rd hbt
  cases h1 : Q.rd l with
  | none =>
    rw [h1] at hur
    have HU := hide (Q.unp_no hur)
    have H1 := hide h1
    clear hur h1
    go_enter Try.func23, Try.ntmps23
    go_wp2_with fail
    refine (unhide HRD).mono ?_
    intro e w1 h2
    unfold RdEnd at h2
    rw [unhide H1] at h2
    obtain ⟨rfl, B1⟩ := h2
    go_wp2
    exact bodyPost_ret (v := .tuple #[.slice none 0 0, .int .i64 5]) (by simp [results, Try.results23, go_sem]) rfl (unp_end (unhide HU) B1)
  | some Le =>
    obtain ⟨L, e0⟩ := Le
    rw [h1] at hur
    simp only [] at hur
    have HUR := hide hur
    have H1 := hide h1
    clear hur h1
    go_enter Try.func23, Try.ntmps23
    go_wp2_with fail
    refine (unhide HRD).mono ?_
    intro e w1 h2
    unfold RdEnd at h2
    rw [unhide H1] at h2
    obtain ⟨v1, rfl, P1, B1⟩ := h2
    obtain ⟨a1, n1, c1, hv1⟩ : ∃ a n c, v1 = .slice a n c := by
      obtain ⟨a, c, h⟩ := P1.pl.form
      exact ⟨_, _, _, h⟩
    subst hv1
    go_wp2_with fail
    refine (rpack_any _ L _ P1.pl).mono ?_
    rintro e w2 ⟨v2, rfl, P2, B2⟩
    have S2 := P2.sl
    obtain ⟨a2, n2, c2, hv2⟩ : ∃ a n c, v2 = .slice a n c := by
      obtain ⟨a, c, h, -⟩ := id S2
      exact ⟨_, _, _, h⟩
    subst hv2
    have BB2 := below_trans' B1 B2
    have hs2 := hs.below BB2
    obtain ⟨sm, hsm⟩ : ∃ sm, decide (Q.packA L = l) = sm := ⟨_, rfl⟩
    obtain ⟨pe, hpe⟩ : ∃ pe, Q.packE L = pe := ⟨_, rfl⟩
    have HSM := hide hsm
    have HPE := hide hpe
    rw [hpe]
    clear hsm hpe
    go_wp2_with fail
    refine (bytes_b _ _ (Q.packA L) l _ S2 hs2 sm (unhide HSM)).mono ?_
    rintro e w3 ⟨rfl, B3⟩
    have BB3 := below_trans' BB2 B3
    have P3 := (P1.below B2).below B3
    obtain ⟨mb, hmb⟩ : ∃ mb, Q.may L = mb := ⟨_, rfl⟩
    cases mb with
    | false =>
      have hp1 : pe = 1 := by rw [← unhide HPE, (Q.packA_out hmb).2]
      subst hp1
      have HU := hide (Q.unp_no (l := l) (by rw [unhide HUR, if_neg (by rw [hmb]; simp)]))
      clear hmb
      go_wp2
      exact bodyPost_ret (v := .tuple #[.slice none 0 0, .int .i64 5]) (by simp [results, Try.results23, go_sem]) rfl (unp_end (unhide HU) BB3)
    | true =>
      have hp1 : pe = 0 := by rw [← unhide HPE, (Q.packA_in hmb).2]
      subst hp1
      have hpa := (Q.packA_in hmb).1
      cases sm with
      | false =>
        have HU := hide (Q.unp_no (l := l) (by rw [unhide HUR, if_neg (by rintro ⟨-, h⟩; have := unhide HSM; rw [hpa, h] at this; simp at this)]))
        clear hmb hpa
        go_wp2
        exact bodyPost_ret (v := .tuple #[.slice none 0 0, .int .i64 5]) (by simp [results, Try.results23, go_sem]) rfl (unp_end (unhide HU) BB3)
      | true =>
        have HU := hide (Q.unp_yes (l := l) (L := L) (by rw [unhide HUR, if_pos ⟨hmb, by have := unhide HSM; rw [hpa] at this; simpa using this⟩]))
        clear hmb hpa
        go_wp2
        exact bodyPost_ret (v := .tuple #[.slice a1 n1 c1, .int .i64 0]) (by simp [results, Try.results23, go_sem]) rfl ⟨_, by rw [(unhide HU).2], by rw [(unhide HU).1]; exact P3, BB3⟩

/-- What Seek answers. -/
def SeekEnd (w : World) (l : List Int) (d : Int) (e : Ending) (w' : World) : Prop :=
  ∃ va vn vc, e = .returned (.tuple #[.agg #[.int .i64 (Q.seekP l d).d, .slice va vn vc], .int .i64 (Q.seekN l d), .int .i64 (Q.seekE l d)]) ∧ Sl .i64 w' (.slice va vn vc) (Q.seekP l d).a ∧ Below w.heap.size w w'

theorem Q.seek_bad {l : List Int} {d : Int} (h : Q.unpA l = [] ∧ Q.unpE l = 5) : Q.seekP l d = ⟨0, []⟩ ∧ Q.seekN l d = 0 ∧ Q.seekE l d = 5 := by
  simp [Q.seekP, Q.seekN, Q.seekE, h.1, h.2]
theorem Q.seek_none {l : List Int} {d : Int} {L : List Pt} (h : Q.unpA l = L ∧ Q.unpE l = 0) (hf : Q.first L d = L.length) : Q.seekP l d = ⟨0, []⟩ ∧ Q.seekN l d = 0 ∧ Q.seekE l d = 2 := by
  simp [Q.seekP, Q.seekN, Q.seekE, h.1, h.2, hf]
theorem Q.seek_at {l : List Int} {d : Int} {L : List Pt} {i : Nat} {p : Pt} (h : Q.unpA l = L ∧ Q.unpE l = 0) (hf : Q.first L d = i) (hp : L[i]? = some p) : Q.seekP l d = p ∧ Q.seekN l d = ((i / 4 : Nat) : Int) ∧ Q.seekE l d = 0 := by
  have hi := (List.getElem?_eq_some_iff.1 hp).1
  have he := (List.getElem?_eq_some_iff.1 hp).2
  simp [Q.seekP, Q.seekN, Q.seekE, h.1, h.2, hf, hi, he]

theorem seek_zero {w w' : World} {l : List Int} {d n e : Int} (h : Q.seekP l d = ⟨0, []⟩ ∧ Q.seekN l d = n ∧ Q.seekE l d = e) (hb : Below w.heap.size w w') : SeekEnd w l d (.returned (.tuple #[.agg #[.int .i64 0, .slice none 0 0], .int .i64 n, .int .i64 e])) w' :=
  ⟨none, 0, 0, by rw [h.1, h.2.1, h.2.2], by rw [h.1]; exact Sl.nil _ _, hb⟩

theorem Sl.set2 {k : IntKind} {w : World} {v : Value} {l : List Int} {g : Nat} (h : Sl k w v l) (hg : ∀ a n c, v = .slice (some a) n c → 0 < n → a.block ≠ g) (u1 u2 : Value) : Sl k ((w.setCell ⟨g, 0, none⟩ u1).setCell ⟨g, 1, none⟩ u2) v l :=
  h.grown ((grown_set w ⟨g, 0, none⟩ u1).trans (grown_set _ ⟨g, 1, none⟩ u2)) hg

set_option maxHeartbeats 2000000 in
theorem seek_any (v : Value) (l : List Int) (d : Int) (w : World) (hs : Sl .u8 w v l) (hbt : V.Byt l) (hl : l.length ≤ 1000000) :
    Calls Try.prog 25 #[v, .int .i64 d] w fun e w' => SeekEnd w l d e w' := by
  obtain ⟨va, vc, hv, -⟩ := id hs
  subst hv
  obtain ⟨W0, hW0⟩ : ∃ W0, W0 = w.alloc (.cells #[.int .i64 0, .slice none 0 0] 39) := ⟨_, rfl⟩
  have b0 : Below w.heap.size w W0 := by rw [hW0]; exact below_alloc _ _
  have hr0 : W0.heap[w.heap.size]? = some (.cells #[.int .i64 0, .slice none 0 0] 39 (0, 0)) := by rw [hW0]; exact heap_alloc_new w _
  have HW0 := hide hW0
  have HUP := hide (unpack_any _ l W0 (hs.below b0) hbt hl)
  clear hW0
  go_enter Try.func25, Try.ntmps25
  go_wp2_with fail
  rw [← unhide HW0]
  refine (unhide HUP).mono ?_
  rintro e w1 ⟨v1, rfl, P1, B1⟩
  have br := box_below hr0 B1
  have y0 : w1.cell? ⟨w.heap.size, 0, none⟩ = some (.int .i64 0) := box_cell br rfl
  have y1 : w1.cell? ⟨w.heap.size, 1, none⟩ = some (.slice none 0 0) := box_cell br rfl
  have z0 := box_frozen br 0
  have z1 := box_frozen br 1
  have BB1 := below_trans' b0 B1
  have BBE : ∀ u1 u2, Below w.heap.size w ((w1.setCell ⟨w.heap.size, 0, none⟩ u1).setCell ⟨w.heap.size, 1, none⟩ u2) := fun u1 u2 => (BB1.setCell (p := ⟨w.heap.size, 0, none⟩) (Nat.le_refl w.heap.size) _).setCell (p := ⟨w.heap.size, 1, none⟩) (Nat.le_refl w.heap.size) _
  have HBE := hide BBE
  have HBR := hide br
  clear hr0 br BBE
  rcases Q.unp_ans l with ⟨-, hA, hE⟩ | ⟨L, -, hA, hE⟩
  · have HS := hide (Q.seek_bad (d := d) ⟨hA, hE⟩)
    rw [hE]
    obtain ⟨a1, n1, c1, hv1⟩ : ∃ a n c, v1 = .slice a n c := by
      obtain ⟨a, c, h⟩ := P1.pl.form
      exact ⟨_, _, _, h⟩
    subst hv1
    clear hA hE P1
    go_wp2
    exact bodyPost_ret (v := .tuple #[.agg #[.int .i64 0, .slice none 0 0], .int .i64 0, .int .i64 5]) (by simp [results, Try.results25, go_sem, y0, y1]) rfl (seek_zero (unhide HS) (unhide HBE _ _))
  · rw [hA] at P1
    rw [hE]
    have HAE := hide (And.intro hA hE)
    clear hA hE
    obtain ⟨a1, c1, hv1⟩ := P1.pl.form
    subst hv1
    obtain ⟨i, hi⟩ : ∃ i, Q.first L d = i := ⟨_, rfl⟩
    have hle := Q.first_le L d
    rw [hi] at hle
    have HI := hide hi
    clear hi
    go_wp2_with fail
    refine (first_any _ _ _ _ P1.pl).mono ?_
    rintro e w2 ⟨rfl, rfl⟩
    rw [unhide HI]
    by_cases hlt : i < L.length
    · obtain ⟨a', cap', hv', -, hcm, -, ho⟩ := P1.pl.open
      simp only [Value.slice.injEq, true_and] at hv'
      obtain ⟨rfl, rfl⟩ := hv'
      obtain ⟨b, off, rfl, hb, hc⟩ := ho (by omega)
      obtain ⟨p, hp⟩ : ∃ p, L[i]? = some p := ⟨L[i], List.getElem?_eq_getElem hlt⟩
      obtain ⟨da, dc, c0, c1', c2⟩ := hc i p hp
      have HS := hide (Q.seek_at (unhide HAE) (unhide HI) hp)
      have hne : ((i : Int) == (L.length : Int)) = false := by rw [beq_eq_false_iff_ne]; omega
      have hPL := P1.pl.len
      obtain ⟨f1, f2⟩ := P1.far hp c1'
      have zW : W0.heap.size = w.heap.size + 1 := by rw [unhide HW0]; simp
      have hfar : ∀ a n c, Value.slice da p.a.length dc = .slice (some a) n c → 0 < n → a.block ≠ w.heap.size := fun a n c h _ e => by have := f2 a n c h; omega
      have HFS := hide (f1.set2 hfar (.int .i64 p.d) (.slice da p.a.length dc))
      obtain ⟨x, hx⟩ : ∃ x, p.d = x := ⟨_, rfl⟩
      obtain ⟨pn, hpn⟩ : ∃ n, p.a.length = n := ⟨_, rfl⟩
      rw [hx] at c0 HFS
      rw [hpn] at c1' HFS
      have HX := hide hx
      clear ho hc hp f1 f2 hfar c2 hx P1 zW hpn
      go_wp2
      exact bodyPost_ret (v := .tuple #[.agg #[.int .i64 x, .slice da pn dc], .int .i64 ((i : Int) / 4), .int .i64 0]) (by simp [results, Try.results25, go_sem, y0, y1]) rfl ⟨da, pn, dc, by rw [(unhide HS).1, (unhide HS).2.1, (unhide HS).2.2, unhide HX, show ((i / 4 : Nat) : Int) = (i : Int) / 4 by omega], by rw [(unhide HS).1]; exact unhide HFS, unhide HBE _ _⟩
    · have hie : i = L.length := by omega
      have heq : ((i : Int) == (L.length : Int)) = true := by rw [beq_iff_eq]; omega
      have HS := hide (Q.seek_none (unhide HAE) (by rw [unhide HI, hie]))
      clear hie hlt hle P1
      go_wp2
      exact bodyPost_ret (v := .tuple #[.agg #[.int .i64 0, .slice none 0 0], .int .i64 0, .int .i64 2]) (by simp [results, Try.results25, go_sem, y0, y1]) rfl (seek_zero (unhide HS) (unhide HBE _ _))

set_option maxHeartbeats 2000000 in
theorem rseek_any (v : Value) (l : List Int) (d : Int) (w : World) (hs : Sl .u8 w v l) (hbt : V.Byt l) (hl : l.length ≤ 1000000) :
    Calls Try.prog 26 #[v, .int .i64 d] w fun e w' => SeekEnd w l d e w' := by
  obtain ⟨va, vc, hv, -⟩ := id hs
  subst hv
  obtain ⟨W0, hW0⟩ : ∃ W0, W0 = w.alloc (.cells #[.int .i64 0, .slice none 0 0] 39) := ⟨_, rfl⟩
  have b0 : Below w.heap.size w W0 := by rw [hW0]; exact below_alloc _ _
  have hr0 : W0.heap[w.heap.size]? = some (.cells #[.int .i64 0, .slice none 0 0] 39 (0, 0)) := by rw [hW0]; exact heap_alloc_new w _
  have HW0 := hide hW0
  have HUP := hide (runpack_any _ l W0 (hs.below b0) hbt hl)
  clear hW0
  go_enter Try.func26, Try.ntmps26
  go_wp2_with fail
  rw [← unhide HW0]
  refine (unhide HUP).mono ?_
  rintro e w1 ⟨v1, rfl, P1, B1⟩
  have br := box_below hr0 B1
  have y0 : w1.cell? ⟨w.heap.size, 0, none⟩ = some (.int .i64 0) := box_cell br rfl
  have y1 : w1.cell? ⟨w.heap.size, 1, none⟩ = some (.slice none 0 0) := box_cell br rfl
  have z0 := box_frozen br 0
  have z1 := box_frozen br 1
  have BB1 := below_trans' b0 B1
  have BBE : ∀ u1 u2, Below w.heap.size w ((w1.setCell ⟨w.heap.size, 0, none⟩ u1).setCell ⟨w.heap.size, 1, none⟩ u2) := fun u1 u2 => (BB1.setCell (p := ⟨w.heap.size, 0, none⟩) (Nat.le_refl w.heap.size) _).setCell (p := ⟨w.heap.size, 1, none⟩) (Nat.le_refl w.heap.size) _
  have HBE := hide BBE
  have HBR := hide br
  clear hr0 br BBE
  rcases Q.unp_ans l with ⟨-, hA, hE⟩ | ⟨L, -, hA, hE⟩
  · have HS := hide (Q.seek_bad (d := d) ⟨hA, hE⟩)
    rw [hE]
    obtain ⟨a1, n1, c1, hv1⟩ : ∃ a n c, v1 = .slice a n c := by
      obtain ⟨a, c, h⟩ := P1.pl.form
      exact ⟨_, _, _, h⟩
    subst hv1
    clear hA hE P1
    go_wp2
    exact bodyPost_ret (v := .tuple #[.agg #[.int .i64 0, .slice none 0 0], .int .i64 0, .int .i64 5]) (by simp [results, Try.results26, go_sem, y0, y1]) rfl (seek_zero (unhide HS) (unhide HBE _ _))
  · rw [hA] at P1
    rw [hE]
    have HAE := hide (And.intro hA hE)
    clear hA hE
    obtain ⟨a1, c1, hv1⟩ := P1.pl.form
    subst hv1
    have hPL := P1.pl.len
    obtain ⟨a', cap', hv', -, hcm, -, ho⟩ := P1.pl.open
    simp only [Value.slice.injEq, true_and] at hv'
    obtain ⟨rfl, rfl⟩ := hv'
    go_wp2
    go_loop [9] (fun iv => ∃ k : Nat, k ≤ L.length ∧ iv = .int .i64 k ∧ ∀ i y, i < k → (L.map Pt.d)[i]? = some y → y < d) (fun iv => L.length - (intOf iv).toNat)
    case atStart => exact ⟨0, Nat.zero_le _, rfl, fun i y hi _ => by omega⟩
    case round =>
      obtain ⟨i, hk, rfl, hall⟩ := hrel
      have HA := hide hall
      clear hall
      by_cases hlt : i < L.length
      · obtain ⟨b, off, rfl, hb, hc⟩ := ho (by omega)
        obtain ⟨p, hp⟩ : ∃ p, L[i]? = some p := ⟨L[i], List.getElem?_eq_getElem hlt⟩
        obtain ⟨da, dc, c0, c1', c2⟩ := hc i p hp
        obtain ⟨f1, f2⟩ := P1.far hp c1'
        have zW : W0.heap.size = w.heap.size + 1 := by rw [unhide HW0]; simp
        have hfar : ∀ a n c, Value.slice da p.a.length dc = .slice (some a) n c → 0 < n → a.block ≠ w.heap.size := fun a n c h _ e => by have := f2 a n c h; omega
        have HFS := hide (f1.set2 hfar (.int .i64 p.d) (.slice da p.a.length dc))
        obtain ⟨x, hx⟩ : ∃ x, p.d = x := ⟨_, rfl⟩
        obtain ⟨pn, hpn⟩ : ∃ n, p.a.length = n := ⟨_, rfl⟩
        rw [hx] at c0 HFS
        rw [hpn] at c1' HFS
        have HX := hide hx
        have HP := hide hp
        clear ho hc hp f1 f2 hfar c2 hx zW hpn
        by_cases hxd : d ≤ x
        · have HI := hide (show Q.first L d = i from Q.ahead_is (by simp; omega) (unhide HA) (fun y hy => by
            rw [List.getElem?_map, unhide HP] at hy
            simp at hy
            have := unhide HX
            omega))
          have HS := hide (Q.seek_at (unhide HAE) (unhide HI) (unhide HP))
          clear P1
          go_wp2
          exact bodyPost_ret (v := .tuple #[.agg #[.int .i64 x, .slice da pn dc], .int .i64 ((i : Int) / 4), .int .i64 0]) (by simp [results, Try.results26, go_sem, y0, y1]) rfl ⟨da, pn, dc, by rw [(unhide HS).1, (unhide HS).2.1, (unhide HS).2.2, unhide HX, show ((i / 4 : Nat) : Int) = (i : Int) / 4 by omega], by rw [(unhide HS).1]; exact unhide HFS, unhide HBE _ _⟩
        · clear P1
          go_wp2
          go_round
          case rel =>
            refine ⟨i + 1, by omega, by go_num, fun j y hi hy => ?_⟩
            by_cases e : j = i
            · subst e
              rw [List.getElem?_map, unhide HP] at hy
              simp at hy
              have := unhide HX
              omega
            · exact unhide HA j y (by omega) hy
          case measure => simp [intOf]; omega
      · have HI := hide (show Q.first L d = L.length from Q.ahead_is (by simp) (fun j y hj hy => unhide HA j y (by omega) hy) (fun y hy => by rw [List.getElem?_eq_none (by simp)] at hy; simp at hy))
        have HS := hide (Q.seek_none (unhide HAE) (unhide HI))
        clear P1
        go_wp2
        exact bodyPost_ret (v := .tuple #[.agg #[.int .i64 0, .slice none 0 0], .int .i64 0, .int .i64 2]) (by simp [results, Try.results26, go_sem, y0, y1]) rfl (seek_zero (unhide HS) (unhide HBE _ _))
end Go.Proofs.Ytjkaidlgooemoaa
