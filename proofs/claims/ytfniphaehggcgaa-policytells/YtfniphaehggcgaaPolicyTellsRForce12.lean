/-
  The contract of the document's own Force.
-/
import Derived.Test.YtfniphaehggcgaaPolicyTellsRAlone12
import Derived.Test.YtfniphaehggcgaaPolicyTellsRMay12
import Derived.Test.YtfniphaehggcgaaQ19
import Derived.Test.YtfniphaehggcgaaPolicyTellsIdle12
namespace Go.Proofs.Ytfniphaehggcgaa
set_option maxRecDepth 100000
open Go.RowKit Go.Deep

set_option maxRecDepth 100000 in
set_option maxHeartbeats 4000000 in
theorem rforce_any (v : Value) (L : List Sz) (n : Int) (w : World) (h : Zl w v L) (hn : n ≤ 9223372036854775807) (r mb : Bool) (hr : r = true ↔ Z.Ready L) (hm : mb = true ↔ 1 ≤ n) :
    Calls Try.prog 16 #[v, .int .i64 n] w fun e w' => ∃ v', e = .returned v' ∧ Tl w' v' (if (r && mb) = true then Z.prop false L (Z.forceG n L) else []) ∧ Below w.heap.size w w' := by
  obtain ⟨i0, hi, hz0, hz1, hz2⟩ := info_parts Try.infoLI
  obtain ⟨j0, hj, hj0, hj1, hj2⟩ := info_parts Try.infoI10
  have HV := hide h
  have CM := rmay_any v L w h r hr
  obtain ⟨a, cap, rfl, hcl, -, -, ho⟩ := h.open
  obtain ⟨R, hR⟩ : ∃ R, (if (r && mb) = true then Z.prop false L (Z.forceG n L) else []) = R := ⟨_, rfl⟩
  rw [hR]
  have HRR := hide hR
  have HR := hide hr
  have HM := hide hm
  have HO := hide ho
  clear h hr hm ho hR
  go_enter Try.func16, Try.ntmps16
  go_wp2_with fail
  refine CM.mono ?_
  rintro e w1 ⟨rfl, B1⟩
  clear CM
  cases r with
  | false =>
    have hR0 : R = [] := by rw [← unhide HRR]; exact if_neg (by simp)
    subst hR0
    go_wp2
    go_ret
    exact ⟨_, rfl, (LiO.nil 0 _ (.slice none 0 0)).tl, B1⟩
  | true =>
    cases mb with
    | false =>
      have hR0 : R = [] := by rw [← unhide HRR]; exact if_neg (by simp)
      subst hR0
      have hn1 : decide (n < 1) = true := by
        have : ¬ 1 ≤ n := fun h9 => by have := (unhide HM).2 h9; cases this
        simp
        omega
      go_wp2
      go_ret
      exact ⟨_, rfl, (LiO.nil 0 _ (.slice none 0 0)).tl, B1⟩
    | true =>
      have hn1 := (unhide HM).1 rfl
      have hn1' : decide (n < 1) = false := by simp; omega
      have hRdy := (unhide HR).1 rfl
      have hFit := hRdy.fit
      have hll := hFit.1
      obtain ⟨F, hF⟩ : ∃ F, L.filter Z.idle = F := ⟨_, rfl⟩
      have hFl : F.length ≤ 16 := by rw [← hF]; exact Nat.le_trans (List.length_filter_le _ _) hll
      have HRES : Hid (R = ((if (F.length : Int) ≤ n then [] else [F.take (F.length - n.toNat + 1)]).map Z.gens) ++ ((L.filter Z.idle).filter (Z.one false ((if (F.length : Int) ≤ n then [] else [F.take (F.length - n.toNat + 1)]).map Z.gens).flatten)).map fun s => [s.gen]) := by
        show _ = _
        rw [← unhide HRR, if_pos (by simp), Z.prop, Z.forceG, hF]
      have HFF := hide hF
      have HF := hide hFit
      clear hRdy hFit hF HRR
      go_wp2
      go_loopw [6, 7] (fun tv kv wr => ∃ (k : Nat) (N : List Int), k ≤ L.length ∧ kv = .int .i64 k ∧ N.length ≤ k ∧ Hid (N = Z.gens ((L.take k).filter Z.idle)) ∧ Hid (wr.ownsRow w.heap.size 3 1 tv N.length (N.map (Value.int .i64))) ∧ Below w.heap.size w wr) (fun _ kv _ => L.length - (intOf kv).toNat)
      case atStart => exact ⟨0, [], Nat.zero_le _, rfl, by simp, rfl, World.ownsRow_nil _ _ _ _, B1⟩
      case round =>
        clear B1
        obtain ⟨k, N, hk, rfl, hNk, HN, HOW, hbel⟩ := hrel
        by_cases hlk : k < L.length
        · obtain ⟨b, off, rfl, hb, hc⟩ := unhide HO (by omega)
          obtain ⟨s, hx⟩ : ∃ x, L[k]? = some x := ⟨L[k], List.getElem?_eq_getElem hlk⟩
          obtain ⟨e0, e1, e2, e3⟩ := hc k s hx
          have c0 := (hbel.cell (p := ⟨b, off + k * 4, none⟩) hb).trans e0
          have c3 := (hbel.cell (p := ⟨b, off + k * 4 + 3, none⟩) hb).trans e3
          have HTK := hide (take_snoc12 hx)
          obtain ⟨g, d, x, bu⟩ := s
          simp only at c0 c3
          clear hc hx e0 e1 e2 e3
          cases bu with
          | true =>
            have HN2 : Hid (N = Z.gens ((L.take (k + 1)).filter Z.idle)) := by
              show _ = _
              rw [unhide HTK, List.filter_append, unhide HN]
              simp [Z.idle]
            go_wp2
            go_roundw
            case rel => exact ⟨k + 1, N, by omega, by go_num, by omega, HN2, HOW, hbel⟩
            case measure => simp [intOf]; omega
          | false =>
            have HN2 : Hid (N ++ [g] = Z.gens ((L.take (k + 1)).filter Z.idle)) := by
              show _ = _
              rw [unhide HTK, List.filter_append, unhide HN]
              simp [Z.idle, Z.gens]
            have OW := unhide HOW
            have hbs := hbel.size
            go_wp2_with (at_builtin; refine append_oneL (f := Value.int .i64) rfl _ _ 47 rfl Try.underlying47 hj hj0 hj1 hj2 rfl (fun _ => rfl) (pre := N) g rfl rfl rfl OW (by omega) (by omega) (by omega) ?_; intro g7 c7 w7 O7 g7' l7; have B7 := hbel.grown g7' hbs (fun j hj => (OW.lt j hj).1))
            have HO7 := hide O7
            clear O7 g7' l7 OW
            go_roundw
            case rel => exact ⟨k + 1, N ++ [g], by omega, by go_num, by simp; omega, HN2, HO7, B7⟩
            case measure => simp [intOf]; omega
        · have hN := unhide HN
          rw [List.take_of_length_le (by omega), unhide HFF] at hN
          have hNF : N.length = F.length := by rw [hN]; simp [Z.gens]
          obtain ⟨M, hM⟩ : ∃ M, N.length = M := ⟨_, rfl⟩
          have hMF : F.length = M := by omega
          have OW := unhide HOW
          rw [hM] at OW
          obtain ⟨a1, cap1, rfl, hc1, hc2, hsp⟩ := zl_spot OW
          have hM16 : M ≤ 16 := by omega
          have hres := unhide HRES
          rw [hMF] at hres
          have CAl := fun (u tk : Value) (P : List (List Int)) (w1 : World) (hb : Below w.heap.size w w1) (hp : LiO w.heap.size w1 u tk P) (hl : P.length ≤ 1000) => ralone_any false _ u tk w.heap.size L P w1 ((unhide HV).below hb) hp (unhide HF) hl
          have HO2 := hide OW
          have HNN := hide hN
          clear hN hNF hM hMF HOW OW HN
          by_cases hle : (M : Int) ≤ n
          · have hle' : decide (n < (M : Int)) = false := by simp; omega
            rw [if_pos hle] at hres
            have CA := CAl (.slice none 0 0) (.slice none 0 0) [] wr hbel (LiO.nil _ _ _) (by simp)
            rw [show ([] : List (List Int)) ++ ((L.filter Z.idle).filter (Z.one false ([] : List (List Int)).flatten)).map (fun s => [s.gen]) = R from hres.symm] at CA
            clear hres CAl hle
            go_wp2_with fail
            refine CA.mono ?_
            rintro e w5 ⟨v5, rfl, T5, B5⟩
            obtain ⟨a5, c5, rfl, -⟩ := T5.at
            have HT5 := hide T5
            have BB5 := below_trans' hbel B5
            clear CA T5 B5
            go_wp2
            go_ret
            exact ⟨_, rfl, unhide HT5, BB5⟩
          · have hle' : decide (n < (M : Int)) = true := by simp; omega
            rw [if_neg hle] at hres
            obtain ⟨m, hm⟩ : ∃ m, M - n.toNat + 1 = m := ⟨_, rfl⟩
            rw [hm] at hres
            have hm2 : (M : Int) - n + 1 = (m : Int) := by omega
            have hmM : m ≤ M := by omega
            have R1 := Try.ito a1 M cap1 m ((M : Int) - n + 1) hm2 (by omega) hsp
            have hw1 : IntKind.i64.wrap ((M : Int) - n) = (M : Int) - n := by rw [IntKind.wrap_i64]; omega
            have hw2 : IntKind.i64.wrap ((M : Int) - n + 1) = (M : Int) - n + 1 := by rw [IntKind.wrap_i64]; omega
            have I1 : Il wr (sv (a1, m, cap1)) (N.take m) := Gl.take12 (Gl.owned (unhide HO2)) m hmM
            have T1 : Ty12 3 wr (sv (a1, m, cap1)) := (Ty12.own (unhide HO2)).cut
            have HI := hide I1
            have HT := hide T1
            have hgl : Z.gens (F.take m) = N.take m := by rw [unhide HNN]; simp [Z.gens]
            have hres2 : R = [N.take m] ++ ((L.filter Z.idle).filter (Z.one false [N.take m].flatten)).map fun s => [s.gen] := by
              rw [hres]
              simp only [List.map_cons, List.map_nil, hgl]
            have HRE := hide hres2
            have hbs := hbel.size
            clear hres hres2 hgl I1 T1 hm hle
            go_wp2_with (at_builtin; refine append_oneL (f := sv) rfl _ _ 27 rfl Try.underlying27 hi hz0 hz1 hz2 rfl sv_one12 (pre := []) (a1, m, cap1) rfl rfl rfl (World.ownsRow_nil _ w.heap.size _ _) hbs (by simp) (by simp) ?_; intro g8 c8 w8 O8 g8' l8; have B8 := hbel.grown g8' hbs (fun j hj => by cases hj))
            have LI8 := LiO.more (s := (a1, m, cap1)) (World.ownsRow_nil _ w.heap.size _ _) (Gg.nil _) (unhide HI) (unhide HT) O8 g8'
            have CA := CAl _ _ [N.take m] w8 B8 LI8 (by simp)
            rw [← unhide HRE] at CA
            clear CAl O8 g8' l8 LI8
            refine CA.mono ?_
            rintro e w5 ⟨v5, rfl, T5, B5⟩
            obtain ⟨a5, c5, rfl, -⟩ := T5.at
            have HT5 := hide T5
            have BB5 := below_trans' B8 B5
            clear CA T5 B5
            go_wp2
            go_ret
            exact ⟨_, rfl, unhide HT5, BB5⟩
end Go.Proofs.Ytfniphaehggcgaa
