/-
  The contract of Pack: the bytes of postings.
-/
import Derived.Test.YtjkaidlgooemoaaBody6
import Derived.Test.YtjkaidlgooemoaaCut6
namespace Go.Proofs.Ytjkaidlgooemoaa
open Go.RowKit

theorem Q.packA_in {L : List Pt} (h : Q.may L = true) : Q.packA L = Q.bytes L ∧ Q.packE L = 0 := by simp [Q.packA, Q.packE, h]
theorem Q.packA_out {L : List Pt} (h : Q.may L = false) : Q.packA L = [] ∧ Q.packE L = 1 := by simp [Q.packA, Q.packE, h]

theorem Q.lastD_at : ∀ {g : List Pt} {m : Int} {p : Pt}, g[g.length - 1]? = some p → Q.lastD m g = p.d
  | [], _, _, h => by simp at h
  | [x], _, _, h => by simp at h; subst h; rfl
  | x :: y :: r, m, p, h => by
    rw [Q.lastD]
    exact Q.lastD_at (g := y :: r) (by simpa using h)

def PackEnd (w : World) (L : List Pt) (e : Ending) (w' : World) : Prop :=
  ∃ v', e = .returned (.tuple #[v', .int .i64 (Q.packE L)]) ∧ Pb w.heap.size w' v' (Q.packA L) ∧ Below w.heap.size w w'

set_option maxHeartbeats 4000000 in
theorem pack_any (v : Value) (L : List Pt) (w : World) (h : Pl w v L) :
    Calls Try.prog 20 #[v] w fun e w' => PackEnd w L e w' := by
  obtain ⟨i5, hi5, hz0, hz1, hz2⟩ := info_parts Try.info5
  have H := h
  obtain ⟨a, cap, rfl, hl, hm, hna, -⟩ := h.open
  clear h
  obtain ⟨mb, hmb⟩ : ∃ mb, Q.may L = mb := ⟨_, rfl⟩
  have HM := hide hmb
  cases mb with
  | false =>
    have HF := hide (Q.packA_out hmb)
    clear hmb
    go_enter Try.func20, Try.ntmps20
    go_wp2_with (go_at_call 15; refine (may_any _ _ _ H).mono ?_; rintro e w1 ⟨rfl, B1⟩; rw [unhide HM])
    exact bodyPost_ret (v := .tuple #[.slice none 0 0, .int .i64 1]) (by simp [results, Try.results20, go_sem]) rfl ⟨_, by rw [(unhide HF).2], by rw [(unhide HF).1]; exact World.ownsRow_nil _ _ _ _, B1⟩
  | true =>
    have HF := hide (Q.packA_in hmb)
    have hL := Q.may_le hmb
    have hbb := Q.bytes_len hmb
    clear hmb
    go_enter Try.func20, Try.ntmps20
    go_wp2_with (go_at_call 15; refine (may_any _ _ _ H).mono ?_; rintro e w1 ⟨rfl, B1⟩; rw [unhide HM])
    go_wp2_with fail
    refine (put_any _ _).mono ?_
    rintro e w2 ⟨v2, rfl, O2, B2⟩
    have BB := below_trans' B1 B2
    have O2' := own_mono O2 B1.size
    clear O2 B2 B1
    go_wp2
    go_loopw [4, 5, 6] (fun bv av iv wr => ∃ (j fr : Nat) (m : Int) (pre : List Int), fr = 4 * j ∧ fr ≤ L.length + 3 ∧ iv = .int .i64 fr ∧ av = .int .i64 m ∧ (-1 ≤ m ∧ m ≤ 63) ∧ Q.mayB (m + 1) (L.drop fr) = true ∧ Q.bytes L = pre ++ Q.blks (17 - j) m (L.drop fr) ∧ Pb w.heap.size wr bv pre ∧ Below w.heap.size w wr) (fun _ _ iv _ => L.length + 4 - (intOf iv).toNat)
    case atStart => exact ⟨0, 0, -1, V.putA (L.length : Int), rfl, by omega, rfl, rfl, by omega, unhide HM, rfl, O2', BB⟩
    case round =>
      obtain ⟨j, fr, m, pre, hfr, hfl, rfl, rfl, hmm, hmay, heq, hown, hbel⟩ := hrel
      have hpl : pre.length ≤ 50000 := by
        have := congrArg List.length heq
        simp only [List.length_append] at this
        omega
      have HE := hide heq
      have HFR := hide hfr
      have HMAY := hide hmay
      clear heq hfr hmay
      by_cases hlt : fr < L.length
      · have H1 := H.below hbel
        obtain ⟨hi, hhi⟩ : ∃ hi, hi = min (fr + 4) L.length := ⟨_, rfl⟩
        have C1 := H1.cut fr hi (by omega) (by omega)
        have htk : (L.drop fr).take (hi - fr) = (L.drop fr).take 4 := by
          rw [hhi]
          rcases Nat.le_total (fr + 4) L.length with h4 | h4
          · rw [Nat.min_eq_left h4, show fr + 4 - fr = 4 by omega]
          · rw [Nat.min_eq_right h4, List.take_of_length_le (by simp), List.take_of_length_le (by simp; omega)]
        rw [htk] at C1
        have R1 : ∀ x : Int, x = hi → ∀ w', (Instr.slice 22 (.slice a L.length cap) (some (.int .i64 (fr : Int))) (some (.int .i64 x)) none).run Try.prog w' = .ok (sliced a fr hi cap 2) w' := fun x hx w' => by rw [hx]; exact run_pl_within a L.length cap fr hi (by omega) (by omega) w'
        obtain ⟨gv, hgv⟩ : ∃ gv, gv = sliced a fr hi cap 2 := ⟨_, rfl⟩
        rw [← hgv] at C1 R1
        obtain ⟨G, hG⟩ : ∃ G, G = (L.drop fr).take 4 := ⟨_, rfl⟩
        rw [← hG] at C1
        have hGl : 1 ≤ G.length ∧ G.length ≤ 4 := by rw [hG]; simp; omega
        have hst := Q.blks_step (f := 16 - j) (m := m) (L := L.drop fr) (by intro e; have := congrArg List.length e; simp at this; omega)
        rw [show 16 - j + 1 = 17 - j by have := unhide HFR; omega, ← hG, List.drop_drop] at hst
        have HST := hide hst
        obtain ⟨k1, k2⟩ := Q.may_take (unhide HMAY) 4
        rw [← hG] at k1 k2
        rw [List.drop_drop] at k2
        obtain ⟨l1, l2, l3⟩ := Q.lastD_bd k1 hmm.1 hmm.2
        have hl0 := l3 (by intro e; rw [e] at hGl; simp at hGl)
        have HK2 := hide k2
        have hgall : ∀ p ∈ G, (0 ≤ p.d ∧ p.d ≤ 63) ∧ Q.places p.a = true := fun p hp => by
          have := Q.may_all k1 p hp
          exact ⟨by omega, this.2⟩
        have HB := hide (body_any gv G m wr C1 hGl.2 hmm hgall)
        have hbl := Q.body_len (g := G) (m := m) (fun p hp => (hgall p hp).2)
        obtain ⟨ga, gc, hgf⟩ := C1.form
        obtain ⟨gn, hgn⟩ : ∃ gn, gn = G.length := ⟨_, rfl⟩
        obtain ⟨p, hp⟩ : ∃ p, G[gn - 1]? = some p := ⟨G[gn - 1]'(by omega), List.getElem?_eq_getElem (by omega)⟩
        have hlast : Q.lastD m G = p.d := Q.lastD_at (by rw [← hgn]; exact hp)
        obtain ⟨a', c', hv', -, -, -, ho⟩ := C1.open
        rw [hgf] at hv'
        simp only [Value.slice.injEq, true_and] at hv'
        obtain ⟨rfl, rfl⟩ := hv'
        obtain ⟨gb, goff, rfl, hgb, hc⟩ := ho (by omega)
        obtain ⟨da, dc, c0, -, -⟩ := hc (gn - 1) p hp
        rw [← hgn] at hgf
        subst hgf
        rw [← hlast] at c0
        obtain ⟨ld, hld⟩ : ∃ ld, ld = Q.lastD m G := ⟨_, rfl⟩
        rw [← hld] at c0 l1 l2 hl0
        have HLD := hide hld
        have HG := hide hG
        have HGN := hide hgn
        have hgn1 : 1 ≤ gn ∧ gn ≤ 4 := by omega
        have HHI := hide hhi
        have HOWN := hide hown
        clear hst k1 k2 l3 hgall hGl ho hc hlast hp hgv hG hgn hhi C1 H1 htk hld hown
        by_cases h4 : fr + 4 ≤ L.length
        · have R2 := R1 ((fr : Int) + 4) (by have := unhide HHI; omega)
          have h4' : (fr : Int) + 4 ≤ (L.length : Int) := by omega
          clear R1
          go_wp2_with fail
          refine (unhide HB).mono ?_
          rintro e w3 ⟨v3, rfl, P3, B3⟩
          have d0 := cell_keep c0 B3
          have O3 := own_below (unhide HOWN) B3
          have BB3 := below_trans' hbel B3
          have F3 : Far u4 v3 := Far.new (unhide HOWN) P3 (Nat.le_refl _)
          have T3 : P3 = P3 := rfl
          obtain ⟨bd, hbd⟩ : ∃ l, Q.body m G = l := ⟨_, rfl⟩
          rw [hbd] at P3 hbl
          have HBD := hide hbd
          have hbl2 : bd.length ≤ 2440 := by have := unhide HGN; omega
          obtain ⟨v3a, v3c, hv3, -⟩ := id P3.sl
          subst hv3
          have HP3 := hide P3
          clear hbd c0 P3 T3 hbl
          go_wp2_with fail
          refine (put_any _ _).mono ?_
          rintro e w4 ⟨v4, rfl, P4, B4⟩
          have O4 := own_below O3 B4
          have BB4 := below_trans' BB3 B4
          have P34 := own_below (unhide HP3) B4
          have S4 := Sl.owned P4
          have n4 : 0 < (V.putA ld).length := by rw [V.putA_in ⟨hl0, by omega⟩]; have := (V.put_len ld).1; omega
          have m4 := V.putA_len ld
          obtain ⟨v4a, v4c, hv4, -⟩ := id S4
          subst hv4
          obtain ⟨pl, hpl4⟩ : ∃ l, V.putA ld = l := ⟨_, rfl⟩
          rw [hpl4] at S4 n4 m4
          rw [hpl4]
          have HPL := hide hpl4
          clear hpl4 P4 O3 BB3 d0 B3 B4
          go_wp2_with (at_builtin; refine append_allL rfl (.tmp 39) (.tmp 41) 31 rfl Try.underlying31 hi5 hz0 hz1 hz2 rfl (pre := pre) (zs := pl) rfl rfl S4 n4 O4 BB4 BB4.size (by omega) (by decide) ?_; intro v5 w5 O5 BB5 G5 L5; have P35 := Far.kept F3 P34 G5; have F5 := Far.step F3 P34 L5)
          go_wp2_with fail
          refine (put_any _ _).mono ?_
          rintro e w6 ⟨v6, rfl, P6, B6⟩
          have O6 := own_below O5 B6
          have BB6 := below_trans' BB5 B6
          have P36 := own_below P35 B6
          have S6 := Sl.owned P6
          have n6 : 0 < (V.putA (bd.length : Int)).length := by rw [V.putA_in ⟨by omega, by omega⟩]; have := (V.put_len (bd.length : Int)).1; omega
          have m6 := V.putA_len (bd.length : Int)
          obtain ⟨v6a, v6c, hv6, -⟩ := id S6
          subst hv6
          obtain ⟨pn, hpn⟩ : ∃ l, V.putA (bd.length : Int) = l := ⟨_, rfl⟩
          rw [hpn] at S6 n6 m6
          rw [hpn]
          have HPN := hide hpn
          clear hpn P6 O5 BB5 O4 BB4 S4 P34 G5 L5 B6 P35
          go_wp2_with (first
            | (at_builtin; refine append_allL rfl (.tmp 43) (.tmp 46) 31 rfl Try.underlying31 hi5 hz0 hz1 hz2 rfl (pre := pre ++ pl) (zs := pn) rfl rfl S6 n6 O6 BB6 BB6.size (by simp; omega) (by decide) ?_; intro v7 w7 O7 BB7 G7 L7; have P37 := Sl.owned (Far.kept F5 P36 G7))
            | (at_builtin; refine append_allK rfl (.tmp 48) (.tmp 49) 31 rfl Try.underlying31 hi5 hz0 hz1 hz2 rfl (pre := pre ++ pl ++ pn) (zs := bd) rfl rfl P37 O7 BB7 BB7.size (by simp; omega) (by decide) ?_; intro v8 w8 O8 BB8 G8))
          go_roundw
          case rel =>
            refine ⟨j + 1, fr + 4, ld, pre ++ pl ++ pn ++ bd, by have := unhide HFR; omega, by omega, by go_num, rfl, by omega, by rw [unhide HLD]; exact unhide HK2, ?_, O8, BB8⟩
            rw [unhide HE, unhide HST, show 17 - (j + 1) = 16 - j by omega, Q.head, unhide HBD, unhide HPN, ← unhide HLD, unhide HPL]
            simp
          case measure => simp [intOf]; omega
        · have R2 := R1 (L.length : Int) (by have := unhide HHI; omega)
          have h4' : (L.length : Int) < (fr : Int) + 4 := by omega
          clear R1
          go_wp2_with fail
          refine (unhide HB).mono ?_
          rintro e w3 ⟨v3, rfl, P3, B3⟩
          have d0 := cell_keep c0 B3
          have O3 := own_below (unhide HOWN) B3
          have BB3 := below_trans' hbel B3
          have F3 : Far u4 v3 := Far.new (unhide HOWN) P3 (Nat.le_refl _)
          have T3 : P3 = P3 := rfl
          obtain ⟨bd, hbd⟩ : ∃ l, Q.body m G = l := ⟨_, rfl⟩
          rw [hbd] at P3 hbl
          have HBD := hide hbd
          have hbl2 : bd.length ≤ 2440 := by have := unhide HGN; omega
          obtain ⟨v3a, v3c, hv3, -⟩ := id P3.sl
          subst hv3
          have HP3 := hide P3
          clear hbd c0 P3 T3 hbl
          go_wp2_with fail
          refine (put_any _ _).mono ?_
          rintro e w4 ⟨v4, rfl, P4, B4⟩
          have O4 := own_below O3 B4
          have BB4 := below_trans' BB3 B4
          have P34 := own_below (unhide HP3) B4
          have S4 := Sl.owned P4
          have n4 : 0 < (V.putA ld).length := by rw [V.putA_in ⟨hl0, by omega⟩]; have := (V.put_len ld).1; omega
          have m4 := V.putA_len ld
          obtain ⟨v4a, v4c, hv4, -⟩ := id S4
          subst hv4
          obtain ⟨pl, hpl4⟩ : ∃ l, V.putA ld = l := ⟨_, rfl⟩
          rw [hpl4] at S4 n4 m4
          rw [hpl4]
          have HPL := hide hpl4
          clear hpl4 P4 O3 BB3 d0 B3 B4
          go_wp2_with (at_builtin; refine append_allL rfl (.tmp 39) (.tmp 41) 31 rfl Try.underlying31 hi5 hz0 hz1 hz2 rfl (pre := pre) (zs := pl) rfl rfl S4 n4 O4 BB4 BB4.size (by omega) (by decide) ?_; intro v5 w5 O5 BB5 G5 L5; have P35 := Far.kept F3 P34 G5; have F5 := Far.step F3 P34 L5)
          go_wp2_with fail
          refine (put_any _ _).mono ?_
          rintro e w6 ⟨v6, rfl, P6, B6⟩
          have O6 := own_below O5 B6
          have BB6 := below_trans' BB5 B6
          have P36 := own_below P35 B6
          have S6 := Sl.owned P6
          have n6 : 0 < (V.putA (bd.length : Int)).length := by rw [V.putA_in ⟨by omega, by omega⟩]; have := (V.put_len (bd.length : Int)).1; omega
          have m6 := V.putA_len (bd.length : Int)
          obtain ⟨v6a, v6c, hv6, -⟩ := id S6
          subst hv6
          obtain ⟨pn, hpn⟩ : ∃ l, V.putA (bd.length : Int) = l := ⟨_, rfl⟩
          rw [hpn] at S6 n6 m6
          rw [hpn]
          have HPN := hide hpn
          clear hpn P6 O5 BB5 O4 BB4 S4 P34 G5 L5 B6 P35
          go_wp2_with (first
            | (at_builtin; refine append_allL rfl (.tmp 43) (.tmp 46) 31 rfl Try.underlying31 hi5 hz0 hz1 hz2 rfl (pre := pre ++ pl) (zs := pn) rfl rfl S6 n6 O6 BB6 BB6.size (by simp; omega) (by decide) ?_; intro v7 w7 O7 BB7 G7 L7; have P37 := Sl.owned (Far.kept F5 P36 G7))
            | (at_builtin; refine append_allK rfl (.tmp 48) (.tmp 49) 31 rfl Try.underlying31 hi5 hz0 hz1 hz2 rfl (pre := pre ++ pl ++ pn) (zs := bd) rfl rfl P37 O7 BB7 BB7.size (by simp; omega) (by decide) ?_; intro v8 w8 O8 BB8 G8))
          go_roundw
          case rel =>
            refine ⟨j + 1, fr + 4, ld, pre ++ pl ++ pn ++ bd, by have := unhide HFR; omega, by omega, by go_num, rfl, by omega, by rw [unhide HLD]; exact unhide HK2, ?_, O8, BB8⟩
            rw [unhide HE, unhide HST, show 17 - (j + 1) = 16 - j by omega, Q.head, unhide HBD, unhide HPN, ← unhide HLD, unhide HPL]
            simp
          case measure => simp [intOf]; omega
      · have hfin : Q.bytes L = pre := by rw [unhide HE, List.drop_eq_nil_of_le (by omega), Q.blks_nil, List.append_nil]
        have HFI := hide hfin
        clear hfin
        obtain ⟨xa, xc, hx, -⟩ := id (Pb.sl hown)
        subst hx
        go_wp2
        exact bodyPost_ret (v := .tuple #[.slice xa pre.length xc, .int .i64 0]) (by simp [results, Try.results20, go_sem]) rfl ⟨_, by rw [(unhide HF).2], by rw [(unhide HF).1, unhide HFI]; exact hown, hbel⟩
end Go.Proofs.Ytjkaidlgooemoaa
