/-
  The contract of the document's own read: the postings that bytes would have.
-/
import Derived.Test.YtjkaidlgooemoaaPlainRd6
import Derived.Test.YtjkaidlgooemoaaPostings6
import Derived.Test.YtjkaidlgooemoaaRefRead
namespace Go.Proofs.Ytjkaidlgooemoaa
open Go.RowKit

theorem Q.rd_64 {c i : Nat} {m : Int} {l : List Int} {p : Nat} {pre : List Pt} (h : 64 ≤ i) : Q.onto pre (Q.rdN (c + 1) i m l p) = none := by
  rw [Q.rdN, if_pos h]
  rfl
theorem Q.rd_hop {c i : Nat} {m : Int} {l : List Int} {p : Nat} {pre : List Pt} (h : ¬ 64 ≤ i) (h1 : Q.hop i l p = none) : Q.onto pre (Q.rdN (c + 1) i m l p) = none := by
  rw [Q.rdN, if_neg h, h1]
  rfl
theorem Q.rd_get {c i : Nat} {m : Int} {l : List Int} {p p1 : Nat} {pre : List Pt} (h : ¬ 64 ≤ i) (h1 : Q.hop i l p = some p1) (h2 : V.getH 5 (l.drop p1) = none) : Q.onto pre (Q.rdN (c + 1) i m l p) = none := by
  rw [Q.rdN, if_neg h, h1]
  simp only []
  rw [h2]
  rfl
theorem Q.rd_read {c i k : Nat} {m s : Int} {l : List Int} {p p1 : Nat} {pre : List Pt} (h : ¬ 64 ≤ i) (h1 : Q.hop i l p = some p1) (h2 : V.getH 5 (l.drop p1) = some (s, k)) (h3 : V.readP l (p1 + k) = none) : Q.onto pre (Q.rdN (c + 1) i m l p) = none := by
  rw [Q.rdN, if_neg h, h1]
  simp only []
  rw [h2]
  simp only []
  rw [h3]
  rfl
theorem Q.rd_go {c i k : Nat} {m s : Int} {l r : List Int} {p p1 p2 : Nat} {pre : List Pt} (h : ¬ 64 ≤ i) (h1 : Q.hop i l p = some p1) (h2 : V.getH 5 (l.drop p1) = some (s, k)) (h3 : V.readP l (p1 + k) = some (r, p2)) :
    Q.onto pre (Q.rdN (c + 1) i m l p) = Q.onto (pre ++ [⟨m + 1 + s, r⟩]) (Q.rdN c (i + 1) (m + 1 + s) l p2) := by
  rw [Q.rdN, if_neg h, h1]
  simp only []
  rw [h2]
  simp only []
  rw [h3]
  simp only []
  cases Q.rdN c (i + 1) (m + 1 + s) l p2 with
  | none => rfl
  | some z => simp [Q.onto]
theorem Q.hop_not {i : Nat} {l : List Int} {p : Nat} (h : ¬ i % 4 = 0) : Q.hop i l p = some p := by unfold Q.hop; rw [if_neg h]
theorem Q.hop_1 {i : Nat} {l : List Int} {p : Nat} (h : i % 4 = 0) (h1 : V.getH 5 (l.drop p) = none) : Q.hop i l p = none := by unfold Q.hop; rw [if_pos h, h1]
theorem Q.hop_2 {i k1 : Nat} {a : Int} {l : List Int} {p : Nat} (h : i % 4 = 0) (h1 : V.getH 5 (l.drop p) = some (a, k1)) (h2 : V.getH 5 (l.drop (p + k1)) = none) : Q.hop i l p = none := by
  unfold Q.hop
  rw [if_pos h, h1]
  simp only []
  rw [h2]
theorem Q.hop_3 {i k1 k2 : Nat} {a b : Int} {l : List Int} {p : Nat} (h : i % 4 = 0) (h1 : V.getH 5 (l.drop p) = some (a, k1)) (h2 : V.getH 5 (l.drop (p + k1)) = some (b, k2)) : Q.hop i l p = some (p + k1 + k2) := by
  unfold Q.hop
  rw [if_pos h, h1]
  simp only []
  rw [h2]

theorem rget_b (v : Value) (l : List Int) (x : Int) (w : World) (h : Sl .u8 w v l) (hb : V.Byt l) (hll : l.length ≤ 1000000) (a b c : Int) (hr : V.get l x = (a, b, c)) :
    Calls Try.prog 61 #[v, .int .i64 x] w fun e w' => e = .returned (.tuple #[.int .i64 a, .int .i64 b, .int .i64 c]) ∧ Below w.heap.size w w' :=
  (refGet_any v l x w h hb (by omega)).mono fun e w' ⟨h1, h2⟩ => ⟨by rw [h1, hr], h2⟩
theorem rread_b (v : Value) (l : List Int) (x : Int) (w : World) (h : Sl .u8 w v l) (hb : V.Byt l) (hll : l.length ≤ 1000000) (r : List Int) (b c : Int) (hr : V.read l x = (r, b, c)) :
    Calls Try.prog 62 #[v, .int .i64 x] w fun e w' => ∃ va vn vc, e = .returned (.tuple #[.slice va vn vc, .int .i64 b, .int .i64 c]) ∧ Pa w.heap.size w' (.slice va vn vc) r ∧ Below w.heap.size w w' := by
  refine (refRead_any v l x w h hb (by omega)).mono ?_
  rintro e w' ⟨v', he, ho, hbb⟩
  rw [hr] at he ho
  obtain ⟨a, n, c', hv⟩ : ∃ a n c, v' = .slice a n c := by
    rcases own_form ho with ⟨rfl, h0⟩ | ⟨g', cap, rfl, -⟩
    · exact ⟨_, _, _, rfl⟩
    · exact ⟨_, _, _, rfl⟩
  subst hv
  exact ⟨_, _, _, he, ho, hbb⟩

/-- What read answers. -/
def RdEnd (w : World) (l : List Int) (e : Ending) (w' : World) : Prop :=
  match Q.rd l with
  | some (L, _) => ∃ v', e = .returned (.tuple #[v', .bool true]) ∧ PlO w.heap.size w' v' L ∧ Below w.heap.size w w'
  | none => e = .returned (.tuple #[.slice none 0 0, .bool false]) ∧ Below w.heap.size w w'

theorem rd_end {w w' : World} {l : List Int} (h : Q.rd l = none) (hb : Below w.heap.size w w') : RdEnd w l (.returned (.tuple #[.slice none 0 0, .bool false])) w' := by
  unfold RdEnd
  rw [h]
  exact ⟨rfl, hb⟩

set_option maxHeartbeats 8000000 in
set_option maxRecDepth 100000 in
theorem rd_any (v : Value) (l : List Int) (w : World) (hs : Sl .u8 w v l) (hbt : V.Byt l) (hl : l.length ≤ 1000000) :
    Calls Try.prog 47 #[v] w fun e w' => RdEnd w l e w' := by
  obtain ⟨i0, hi0, hz0, hz1, hz2⟩ := info_parts Try.infoP
  obtain ⟨va, vc, hv, -⟩ := id hs
  subst hv
  cases h1 : V.getH 5 l with
  | none =>
    have HG := hide (rget_b (.slice va l.length vc) l 0 w hs hbt hl 0 0 5 (get_none (p := 0) (Nat.zero_le _) h1))
    have HR := hide (show Q.rd l = none by unfold Q.rd; rw [h1])
    clear h1
    go_enter Try.func47, Try.ntmps47
    go_wp2_with fail
    refine (unhide HG).mono ?_
    rintro e w1 ⟨rfl, B1⟩
    go_wp2
    go_loop [7, 9] (fun ov iv => ov = .slice none 0 0 ∧ iv = .int .i64 0) (fun _ _ => 0)
    case atStart => exact ⟨rfl, rfl⟩
    case round =>
      obtain ⟨rfl, rfl⟩ := hrel
      go_wp2
      exact bodyPost_ret (v := .tuple #[.slice none 0 0, .bool false]) (by simp [results, Try.results47, go_sem]) rfl (rd_end (unhide HR) B1)
  | some nk =>
    obtain ⟨n, k⟩ := nk
    obtain ⟨a1, a2, a3, a4, a5⟩ := V.put_getH hbt h1
    obtain ⟨N, hN⟩ : ∃ N : Nat, n = N := Int.eq_ofNat_of_zero_le a2
    subst hN
    unfold V.Top at a3
    have HG := hide (rget_b (.slice va l.length vc) l 0 w hs hbt hl (N : Int) (k : Int) 0 (by have := get_some (p := 0) (Nat.zero_le _) h1; simpa using this))
    have HR := hide (show Q.rd l = Q.rdN N 0 (-1) l k by unfold Q.rd; rw [h1]; simp)
    clear h1 a1 a4
    go_enter Try.func47, Try.ntmps47
    go_wp2_with fail
    refine (unhide HG).mono ?_
    rintro e w1 ⟨rfl, B1⟩
    go_wp2
    go_loopw [5, 7, 8, 9] (fun pv ov mv iv wr => ∃ (i p : Nat) (pre : List Pt) (m : Int) (cs : List Value), i ≤ N ∧ i ≤ 64 ∧ iv = .int .i64 i ∧ pv = .int .i64 p ∧ mv = .int .i64 m ∧ p ≤ l.length ∧ pre.length = i ∧ (-1 ≤ m ∧ m ≤ (i : Int) * 34359738368) ∧ Hid (Q.rdN N 0 (-1) l k = Q.onto pre (Q.rdN (N - i) i m l p)) ∧
        wr.ownsRow w.heap.size 39 2 ov pre.length cs ∧ PCp (Pa w.heap.size wr) cs pre ∧ Below w.heap.size w wr) (fun _ _ _ iv _ => 65 - (intOf iv).toNat)
    case atStart => exact ⟨0, k, [], -1, [], Nat.zero_le _, by omega, rfl, rfl, rfl, a5, rfl, by omega, hide (by rw [Q.onto_nil]; rfl), World.ownsRow_nil _ _ _ _, trivial, B1⟩
    case round =>
      obtain ⟨i, p, pre, m, cs, hi, hi64, rfl, rfl, rfl, hp, hpl, hmm, HON, hown, hpc, hbel⟩ := hrel
      have hsr := hs.below hbel
      have hwz := hbel.size
      have hpl2 : pre.length ≤ 64 := by omega
      have HPL := hide hpl
      clear hpl
      by_cases hlt : i < N
      · have hlt' : (i : Int) < (N : Int) := by omega
        have hN1 : N - i = N - i - 1 + 1 := by omega
        have HN1 := hide hN1
        clear hN1
        by_cases h64 : 64 ≤ i
        · have h64' : (64 : Int) ≤ (i : Int) := by omega
          have HF := hide (show Q.rd l = none by rw [unhide HR, unhide HON, unhide HN1]; exact Q.rd_64 h64)
          go_wp2
          exact bodyPost_ret (v := .tuple #[.slice none 0 0, .bool false]) (by simp [results, Try.results47, go_sem]) rfl (rd_end (unhide HF) hbel)
        · have h64' : ¬ ((64 : Int) ≤ (i : Int)) := by omega
          by_cases h4 : i % 4 = 0
          · have t4 : (i : Int) % 4 = 0 := by omega
            have H4 := hide h4
            clear h4
            cases g1 : V.getH 5 (l.drop p) with
            | none =>
              have HF := hide (show Q.rd l = none by rw [unhide HR, unhide HON, unhide HN1]; exact Q.rd_hop h64 (Q.hop_1 (unhide H4) g1))
              obtain ⟨x1, x2, x3, hx⟩ : ∃ x1 x2 x3, V.get l 0 = (x1, x2, x3) := ⟨_, _, _, rfl⟩
              have HX := hide hx
              have HG1 := hide (rget_b (.slice va l.length vc) l (p : Int) wr hsr hbt hl 0 0 5 (get_none hp g1))
              clear hx g1
              go_wp2_with fail
              refine (unhide HG1).mono ?_
              rintro e w2 ⟨rfl, B2⟩
              go_wp2_with fail
              refine (rget_b (.slice va l.length vc) l 0 w2 (hsr.below B2) hbt hl x1 x2 x3 (unhide HX)).mono ?_
              rintro e w3 ⟨rfl, B3⟩
              go_wp2
              exact bodyPost_ret (v := .tuple #[.slice none 0 0, .bool false]) (by simp [results, Try.results47, go_sem]) rfl (rd_end (unhide HF) (below_trans' (below_trans' hbel B2) B3))
            | some ak =>
              obtain ⟨aa, k1⟩ := ak
              obtain ⟨-, -, -, -, e5⟩ := V.put_getH (hbt.drop p) g1
              simp only [List.length_drop] at e5
              have hp1 : p + k1 ≤ l.length := by omega
              have HG1 := hide (rget_b (.slice va l.length vc) l (p : Int) wr hsr hbt hl aa ((p + k1 : Nat) : Int) 0 (by rw [get_some hp g1]; simp))
              cases g2 : V.getH 5 (l.drop (p + k1)) with
              | none =>
                have HF := hide (show Q.rd l = none by rw [unhide HR, unhide HON, unhide HN1]; exact Q.rd_hop h64 (Q.hop_2 (unhide H4) g1 g2))
                have HG2 := hide (fun w' S => rget_b (.slice va l.length vc) l ((p + k1 : Nat) : Int) w' S hbt hl 0 0 5 (get_none hp1 g2))
                clear g1 g2
                obtain ⟨q1, hq1⟩ : ∃ q1 : Nat, p + k1 = q1 := ⟨_, rfl⟩
                rw [hq1] at HG1 HG2 hp1
                go_wp2_with fail
                refine (unhide HG1).mono ?_
                rintro e w2 ⟨rfl, B2⟩
                go_wp2_with fail
                refine (unhide HG2 w2 (hsr.below B2)).mono ?_
                rintro e w3 ⟨rfl, B3⟩
                go_wp2
                exact bodyPost_ret (v := .tuple #[.slice none 0 0, .bool false]) (by simp [results, Try.results47, go_sem]) rfl (rd_end (unhide HF) (below_trans' (below_trans' hbel B2) B3))
              | some bk =>
                obtain ⟨bb, k2⟩ := bk
                obtain ⟨-, -, -, -, f5⟩ := V.put_getH (hbt.drop (p + k1)) g2
                simp only [List.length_drop] at f5
                have HHOP := hide (Q.hop_3 (unhide H4) g1 g2)
                have HG2 := hide (fun w' S => rget_b (.slice va l.length vc) l ((p + k1 : Nat) : Int) w' S hbt hl bb ((p + k1 + k2 : Nat) : Int) 0 (by rw [get_some hp1 g2]; simp))
                clear g1 g2
                have hp3 : p + k1 + k2 ≤ l.length := by omega
                obtain ⟨p1, hp1'⟩ : ∃ p1 : Nat, p + k1 + k2 = p1 := ⟨_, rfl⟩
                rw [hp1'] at HG2 hp3 HHOP
                obtain ⟨q1, hq1⟩ : ∃ q1 : Nat, p + k1 = q1 := ⟨_, rfl⟩
                rw [hq1] at HG1 HG2 hp1
                clear hp1' hq1
                go_wp2_with fail
                refine (unhide HG1).mono ?_
                rintro e w2 ⟨rfl, B2⟩
                go_wp2_with fail
                refine (unhide HG2 w2 (hsr.below B2)).mono ?_
                rintro e w3 ⟨rfl, B3⟩
                have BQ := below_trans' B2 B3
                have hs3 := hsr.below BQ
                have BB3 := below_trans' hbel BQ
                have O3 := own_below hown BQ
                have C3 : PCp (Pa w.heap.size w3) cs pre := hpc.turn (fun u z h => own_below h BQ)
                clear hown hpc
                cases g3 : V.getH 5 (l.drop p1) with
                | none =>
                  have HF := hide (show Q.rd l = none by rw [unhide HR, unhide HON, unhide HN1]; exact Q.rd_get h64 (unhide HHOP) g3)
                  obtain ⟨x1, x2, x3, hx⟩ : ∃ x1 x2 x3, V.read l 0 = (x1, x2, x3) := ⟨_, _, _, rfl⟩
                  have HX := hide hx
                  have HG3 := hide (rget_b (.slice va l.length vc) l (p1 : Int) w3 hs3 hbt hl 0 0 5 (get_none hp3 g3))
                  clear hx g3 O3 C3
                  go_wp2_with fail
                  refine (unhide HG3).mono ?_
                  rintro e w4 ⟨rfl, B4⟩
                  go_wp2_with fail
                  refine (rread_b (.slice va l.length vc) l 0 w4 (hs3.below B4) hbt hl x1 x2 x3 (unhide HX)).mono ?_
                  rintro e w5 ⟨ya, yn, yc, rfl, P5, B5⟩
                  go_wp2
                  exact bodyPost_ret (v := .tuple #[.slice none 0 0, .bool false]) (by simp [results, Try.results47, go_sem]) rfl (rd_end (unhide HF) (below_trans' (below_trans' BB3 B4) B5))
                | some sk =>
                  obtain ⟨s, ks⟩ := sk
                  obtain ⟨-, s2, s3, -, s5⟩ := V.put_getH (hbt.drop p1) g3
                  simp only [List.length_drop] at s5
                  unfold V.Top at s3
                  have hps : p1 + ks ≤ l.length := by omega
                  have HG3 := hide (rget_b (.slice va l.length vc) l (p1 : Int) w3 hs3 hbt hl s ((p1 + ks : Nat) : Int) 0 (by rw [get_some hp3 g3]; simp))
                  cases g4 : V.readP l (p1 + ks) with
                  | none =>
                    have HF := hide (show Q.rd l = none by rw [unhide HR, unhide HON, unhide HN1]; exact Q.rd_read h64 (unhide HHOP) g3 g4)
                    have HG4 := hide (fun w' S => rread_b (.slice va l.length vc) l ((p1 + ks : Nat) : Int) w' S hbt hl [] 0 5 (read_none hps g4))
                    clear g3 g4 O3 C3
                    obtain ⟨q4, hq4⟩ : ∃ q4 : Nat, p1 + ks = q4 := ⟨_, rfl⟩
                    rw [hq4] at HG3 HG4 hps
                    clear hq4
                    go_wp2_with fail
                    refine (unhide HG3).mono ?_
                    rintro e w4 ⟨rfl, B4⟩
                    go_wp2_with fail
                    refine (unhide HG4 w4 (hs3.below B4)).mono ?_
                    rintro e w5 ⟨ya, yn, yc, rfl, P5, B5⟩
                    go_wp2
                    exact bodyPost_ret (v := .tuple #[.slice none 0 0, .bool false]) (by simp [results, Try.results47, go_sem]) rfl (rd_end (unhide HF) (below_trans' (below_trans' BB3 B4) B5))
                  | some rq =>
                    obtain ⟨r, p2⟩ := rq
                    obtain ⟨-, r2, -, -⟩ := V.readP_back hbt hps g4
                    have HN := hide (show Q.rdN N 0 (-1) l k = Q.onto (pre ++ [⟨m + 1 + s, r⟩]) (Q.rdN (N - (i + 1)) (i + 1) (m + 1 + s) l p2) by
                      rw [unhide HON, unhide HN1, show N - (i + 1) = N - i - 1 by omega]; exact Q.rd_go h64 (unhide HHOP) g3 g4)
                    have HG4 := hide (fun w' S => rread_b (.slice va l.length vc) l ((p1 + ks : Nat) : Int) w' S hbt hl r (p2 : Int) 0 (read_some hps g4))
                    clear g3 g4
                    obtain ⟨q4, hq4⟩ : ∃ q4 : Nat, p1 + ks = q4 := ⟨_, rfl⟩
                    rw [hq4] at HG3 HG4 hps
                    clear hq4
                    go_wp2_with fail
                    refine (unhide HG3).mono ?_
                    rintro e w4 ⟨rfl, B4⟩
                    have O4 := own_below O3 B4
                    have C4 : PCp (Pa w.heap.size w4) cs pre := C3.turn (fun u z h => own_below h B4)
                    have BB4 := below_trans' BB3 B4
                    have hs4 := hs3.below B4
                    clear O3 C3
                    go_wp2_with fail
                    refine (unhide HG4 w4 hs4).mono ?_
                    rintro e w5 ⟨ya, yn, yc, rfl, P5, B5⟩
                    have O5 := own_below O4 B5
                    have C5 : PCp (Pa w.heap.size w5) cs pre := C4.turn (fun u z h => own_below h B5)
                    have BB5 := below_trans' BB4 B5
                    have P5' : Pa w.heap.size w5 (.slice ya yn yc) r := own_mono P5 BB4.size
                    obtain ⟨d, hd⟩ : ∃ d, d = m + 1 + s := ⟨_, rfl⟩
                    have HD := hide hd
                    rw [← hd] at HN
                    have hdb : -1 ≤ d ∧ d ≤ ((i : Int) + 1) * 34359738368 := by omega
                    have HKA := hide (fun u z (h : Pa w.heap.size w5 u z) => own_apart h O5 (by decide : (3 : TypeId) ≠ 39))
                    have HO5 := hide O5
                    clear hd O4 C4 P5
                    go_wp2_with (at_builtin; rw [← unhide HD]; refine append_post_p (f := ⟨d, r⟩) Pa.one rfl _ _ rfl rfl rfl rfl O5 C5 P5' BB5.size (by omega) ?_; intro v6 w6 cs6 O6 C6 G6 E6)
                    have C7 : PCp (Pa w.heap.size w6) cs6 (pre ++ [(⟨d, r⟩ : Pt)]) := C6.turn (fun u z h => World.ownsRow.kept h G6 (unhide HKA u z h))
                    have BB6 := BB5.grown G6 BB5.size (fun j hj => ((unhide HO5).lt j hj).1)
                    go_roundw
                    case rel => exact ⟨i + 1, p2, pre ++ [(⟨d, r⟩ : Pt)], d, cs6, by omega, by omega, by go_num, rfl, by first | rfl | rw [unhide HD], r2, by rw [List.length_append, unhide HPL]; rfl, by omega, HN, O6, C7, BB6⟩
                    case measure => simp [intOf]; omega
          · have t4 : ¬ ((i : Int) % 4 = 0) := by omega
            have t5 : ((i : Int) % 4 == 0) = false := by rw [beq_eq_false_iff_ne]; exact t4
            obtain ⟨w3, hw3⟩ : ∃ w3, w3 = wr := ⟨_, rfl⟩
            have BQ : Below wr.heap.size wr w3 := by rw [hw3]; exact Below.refl _ _
            obtain ⟨p1, hp1⟩ : ∃ p1, p1 = p := ⟨_, rfl⟩
            have hp3 : p1 ≤ l.length := by omega
            have HHOP : Hid (Q.hop i l p = some p1) := hide (by rw [hp1]; exact Q.hop_not h4)
            rw [← hp1, ← hw3]
            clear h4 hw3 hp1
            have hs3 := hsr.below BQ
            have BB3 := below_trans' hbel BQ
            have O3 := own_below hown BQ
            have C3 : PCp (Pa w.heap.size w3) cs pre := hpc.turn (fun u z h => own_below h BQ)
            clear hown hpc
            cases g3 : V.getH 5 (l.drop p1) with
            | none =>
              have HF := hide (show Q.rd l = none by rw [unhide HR, unhide HON, unhide HN1]; exact Q.rd_get h64 (unhide HHOP) g3)
              obtain ⟨x1, x2, x3, hx⟩ : ∃ x1 x2 x3, V.read l 0 = (x1, x2, x3) := ⟨_, _, _, rfl⟩
              have HX := hide hx
              have HG3 := hide (rget_b (.slice va l.length vc) l (p1 : Int) w3 hs3 hbt hl 0 0 5 (get_none hp3 g3))
              clear hx g3 O3 C3
              go_wp2_with fail
              refine (unhide HG3).mono ?_
              rintro e w4 ⟨rfl, B4⟩
              go_wp2_with fail
              refine (rread_b (.slice va l.length vc) l 0 w4 (hs3.below B4) hbt hl x1 x2 x3 (unhide HX)).mono ?_
              rintro e w5 ⟨ya, yn, yc, rfl, P5, B5⟩
              go_wp2
              exact bodyPost_ret (v := .tuple #[.slice none 0 0, .bool false]) (by simp [results, Try.results47, go_sem]) rfl (rd_end (unhide HF) (below_trans' (below_trans' BB3 B4) B5))
            | some sk =>
              obtain ⟨s, ks⟩ := sk
              obtain ⟨-, s2, s3, -, s5⟩ := V.put_getH (hbt.drop p1) g3
              simp only [List.length_drop] at s5
              unfold V.Top at s3
              have hps : p1 + ks ≤ l.length := by omega
              have HG3 := hide (rget_b (.slice va l.length vc) l (p1 : Int) w3 hs3 hbt hl s ((p1 + ks : Nat) : Int) 0 (by rw [get_some hp3 g3]; simp))
              cases g4 : V.readP l (p1 + ks) with
              | none =>
                have HF := hide (show Q.rd l = none by rw [unhide HR, unhide HON, unhide HN1]; exact Q.rd_read h64 (unhide HHOP) g3 g4)
                have HG4 := hide (fun w' S => rread_b (.slice va l.length vc) l ((p1 + ks : Nat) : Int) w' S hbt hl [] 0 5 (read_none hps g4))
                clear g3 g4 O3 C3
                obtain ⟨q4, hq4⟩ : ∃ q4 : Nat, p1 + ks = q4 := ⟨_, rfl⟩
                rw [hq4] at HG3 HG4 hps
                clear hq4
                go_wp2_with fail
                refine (unhide HG3).mono ?_
                rintro e w4 ⟨rfl, B4⟩
                go_wp2_with fail
                refine (unhide HG4 w4 (hs3.below B4)).mono ?_
                rintro e w5 ⟨ya, yn, yc, rfl, P5, B5⟩
                go_wp2
                exact bodyPost_ret (v := .tuple #[.slice none 0 0, .bool false]) (by simp [results, Try.results47, go_sem]) rfl (rd_end (unhide HF) (below_trans' (below_trans' BB3 B4) B5))
              | some rq =>
                obtain ⟨r, p2⟩ := rq
                obtain ⟨-, r2, -, -⟩ := V.readP_back hbt hps g4
                have HN := hide (show Q.rdN N 0 (-1) l k = Q.onto (pre ++ [⟨m + 1 + s, r⟩]) (Q.rdN (N - (i + 1)) (i + 1) (m + 1 + s) l p2) by
                  rw [unhide HON, unhide HN1, show N - (i + 1) = N - i - 1 by omega]; exact Q.rd_go h64 (unhide HHOP) g3 g4)
                have HG4 := hide (fun w' S => rread_b (.slice va l.length vc) l ((p1 + ks : Nat) : Int) w' S hbt hl r (p2 : Int) 0 (read_some hps g4))
                clear g3 g4
                obtain ⟨q4, hq4⟩ : ∃ q4 : Nat, p1 + ks = q4 := ⟨_, rfl⟩
                rw [hq4] at HG3 HG4 hps
                clear hq4
                go_wp2_with fail
                refine (unhide HG3).mono ?_
                rintro e w4 ⟨rfl, B4⟩
                have O4 := own_below O3 B4
                have C4 : PCp (Pa w.heap.size w4) cs pre := C3.turn (fun u z h => own_below h B4)
                have BB4 := below_trans' BB3 B4
                have hs4 := hs3.below B4
                clear O3 C3
                go_wp2_with fail
                refine (unhide HG4 w4 hs4).mono ?_
                rintro e w5 ⟨ya, yn, yc, rfl, P5, B5⟩
                have O5 := own_below O4 B5
                have C5 : PCp (Pa w.heap.size w5) cs pre := C4.turn (fun u z h => own_below h B5)
                have BB5 := below_trans' BB4 B5
                have P5' : Pa w.heap.size w5 (.slice ya yn yc) r := own_mono P5 BB4.size
                obtain ⟨d, hd⟩ : ∃ d, d = m + 1 + s := ⟨_, rfl⟩
                have HD := hide hd
                rw [← hd] at HN
                have hdb : -1 ≤ d ∧ d ≤ ((i : Int) + 1) * 34359738368 := by omega
                have HKA := hide (fun u z (h : Pa w.heap.size w5 u z) => own_apart h O5 (by decide : (3 : TypeId) ≠ 39))
                have HO5 := hide O5
                clear hd O4 C4 P5
                go_wp2_with (at_builtin; rw [← unhide HD]; refine append_post_p (f := ⟨d, r⟩) Pa.one rfl _ _ rfl rfl rfl rfl O5 C5 P5' BB5.size (by omega) ?_; intro v6 w6 cs6 O6 C6 G6 E6)
                have C7 : PCp (Pa w.heap.size w6) cs6 (pre ++ [(⟨d, r⟩ : Pt)]) := C6.turn (fun u z h => World.ownsRow.kept h G6 (unhide HKA u z h))
                have BB6 := BB5.grown G6 BB5.size (fun j hj => ((unhide HO5).lt j hj).1)
                go_roundw
                case rel => exact ⟨i + 1, p2, pre ++ [(⟨d, r⟩ : Pt)], d, cs6, by omega, by omega, by go_num, rfl, by first | rfl | rw [unhide HD], r2, by rw [List.length_append, unhide HPL]; rfl, by omega, HN, O6, C7, BB6⟩
                case measure => simp [intOf]; omega
      · have hlt' : ¬ ((i : Int) < (N : Int)) := by omega
        have HF := hide (show Q.rd l = some (pre, p) by rw [unhide HR, unhide HON, show N - i = 0 by omega]; simp [Q.rdN, Q.onto])
        have PLr : PlO w.heap.size wr u7 pre := ⟨cs, hown, hpc⟩
        obtain ⟨oa, on, oc, hov⟩ : ∃ oa on oc, u7 = .slice oa on oc := by
          rcases own_form hown with ⟨rfl, h0⟩ | ⟨g', cap, rfl, -⟩
          · exact ⟨_, _, _, rfl⟩
          · exact ⟨_, _, _, rfl⟩
        subst hov
        clear hown hpc
        go_wp2
        refine bodyPost_ret (v := .tuple #[.slice oa on oc, .bool true]) (by simp [results, Try.results47, go_sem]) rfl ?_
        unfold RdEnd
        rw [unhide HF]
        exact ⟨_, rfl, PLr, hbel⟩
end Go.Proofs.Ytjkaidlgooemoaa
