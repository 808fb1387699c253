/-
  The contract of Unpack: the postings whose bytes these are.
-/
import Derived.Test.YtjkaidlgooemoaaNext6
import Derived.Test.YtjkaidlgooemoaaSmall6
import Derived.Test.YtjkaidlgooemoaaPack6
namespace Go.Proofs.Ytjkaidlgooemoaa
open Go.RowKit

theorem Q.blks_none {f c : Nat} {m : Int} {l : List Int} {p : Nat} {pre : List Pt} (h : Q.blkP (min 4 (c + 1)) m l p = none) : Q.onto pre (Q.blksP (f + 1) (c + 1) m l p) = none := by
  rw [Q.blksP, h]
  rfl
theorem Q.blks_some {f c : Nat} {m : Int} {l : List Int} {p p' : Nat} {pre G : List Pt} (h : Q.blkP (min 4 (c + 1)) m l p = some (G, p')) : Q.onto pre (Q.blksP (f + 1) (c + 1) m l p) = Q.onto (pre ++ G) (Q.blksP f (c + 1 - 4) (Q.lastD m G) l p') := by
  rw [Q.blksP, h]
  simp only []
  cases Q.blksP f (c + 1 - 4) (Q.lastD m G) l p' with
  | none => rfl
  | some z => simp [Q.onto]
theorem Q.blks_done {f : Nat} {m : Int} {l : List Int} {p : Nat} {pre : List Pt} : Q.onto pre (Q.blksP f 0 m l p) = some (pre, p) := by
  cases f <;> simp [Q.blksP, Q.onto]

theorem Q.blkP_last {n : Nat} {m : Int} {l : List Int} {p : Nat} {G : List Pt} {e : Nat} (hb : V.Byt l) (h : Q.blkP n m l p = some (G, e)) : 0 ≤ Q.lastD m G ∧ Q.lastD m G ≤ 34359738367 := by
  cases h1 : V.getH 5 (l.drop p) with
  | none => rw [Q.blkP_none1 h1] at h; simp at h
  | some lk =>
    obtain ⟨last, k1⟩ := lk
    obtain ⟨a1, a2, a3, a4, a5⟩ := V.put_getH (hb.drop p) h1
    unfold V.Top at a3
    cases h2 : V.getH 5 (l.drop (p + k1)) with
    | none => rw [Q.blkP_none2 h1 h2] at h; simp at h
    | some sk =>
      obtain ⟨size, k2⟩ := sk
      rw [Q.blkP_at h1 h2] at h
      split at h
      · simp at h
      · cases h3 : Q.postN n m ((l.drop (p + k1 + k2)).take size.toNat) 0 with
        | none => rw [h3] at h; simp at h
        | some Ge =>
          obtain ⟨G', e'⟩ := Ge
          rw [h3] at h
          simp only [] at h
          split at h
          · rename_i hc
            simp at h
            obtain ⟨rfl, rfl⟩ := h
            rw [hc.2]
            exact ⟨a2, a3⟩
          · simp at h

theorem Q.unp_none {l : List Int} (h : V.getH 5 l = none) : Q.unpA l = [] ∧ Q.unpE l = 5 := by simp [Q.unpA, Q.unpE, Q.unp, h]
theorem Q.unp_many {l : List Int} {n : Int} {k : Nat} (h : V.getH 5 l = some (n, k)) (hn : 64 < n) : Q.unpA l = [] ∧ Q.unpE l = 5 := by simp [Q.unpA, Q.unpE, Q.unp, h, hn]
theorem Q.unp_bad {l : List Int} {n : Int} {k : Nat} (h : V.getH 5 l = some (n, k)) (hn : ¬ 64 < n) (hb : Q.blksP 17 n.toNat (-1) l k = none) : Q.unpA l = [] ∧ Q.unpE l = 5 := by simp [Q.unpA, Q.unpE, Q.unp, h, hn, hb]
theorem Q.unp_not {l : List Int} {n : Int} {k e : Nat} {L : List Pt} (h : V.getH 5 l = some (n, k)) (hn : ¬ 64 < n) (hb : Q.blksP 17 n.toNat (-1) l k = some (L, e)) (hc : ¬ (e = l.length ∧ Q.may L = true)) : Q.unpA l = [] ∧ Q.unpE l = 5 := by
  have : Q.unp l = none := by
    unfold Q.unp
    rw [h]
    simp only []
    rw [if_neg hn, hb]
    simp only []
    rw [if_neg hc]
  simp [Q.unpA, Q.unpE, this]
theorem Q.unp_is {l : List Int} {n : Int} {k e : Nat} {L : List Pt} (h : V.getH 5 l = some (n, k)) (hn : ¬ 64 < n) (hb : Q.blksP 17 n.toNat (-1) l k = some (L, e)) (hc : e = l.length ∧ Q.may L = true) : Q.unpA l = L ∧ Q.unpE l = 0 := by
  have : Q.unp l = some L := by
    unfold Q.unp
    rw [h]
    simp only []
    rw [if_neg hn, hb]
    simp only []
    rw [if_pos hc]
  simp [Q.unpA, Q.unpE, this]

/-- What Unpack answers. -/
def UnpEnd (w : World) (l : List Int) (e : Ending) (w' : World) : Prop :=
  ∃ v', e = .returned (.tuple #[v', .int .i64 (Q.unpE l)]) ∧ PlO w.heap.size w' v' (Q.unpA l) ∧ Below w.heap.size w w'

theorem unp_end {w w' : World} {l : List Int} (h : Q.unpA l = [] ∧ Q.unpE l = 5) (hb : Below w.heap.size w w') : UnpEnd w l (.returned (.tuple #[.slice none 0 0, .int .i64 5])) w' :=
  ⟨_, by rw [h.2], by rw [h.1]; exact PlO.nil _ _, hb⟩

theorem below_box {w W0 w1 : World} (b0 : Below w.heap.size w W0) (G1 : W0.grownBy w1 (some w.heap.size)) : Below w.heap.size w w1 := b0.trans (below_of_grown G1 (Nat.le_refl _) b0.size)

set_option maxHeartbeats 8000000 in
set_option maxRecDepth 100000 in
theorem unpack_any (v : Value) (l : List Int) (w : World) (hs : Sl .u8 w v l) (hbt : V.Byt l) (hl : l.length ≤ 1000000) :
    Calls Try.prog 22 #[v] w fun e w' => UnpEnd w l e w' := by
  obtain ⟨W0, hW0⟩ : ∃ W0, W0 = w.alloc (.cells #[v, .int .i64 0] 61) := ⟨_, rfl⟩
  have b0 : Below w.heap.size w W0 := by rw [hW0]; exact below_alloc _ _
  have hb0 : W0.heap[w.heap.size]? = some (.cells #[v, .int .i64 0] 61 (0, 0)) := by rw [hW0]; exact heap_alloc_new w _
  have hs0 := hs.below b0
  have hvg : ∀ a n c, v = .slice (some a) n c → 0 < n → a.block ≠ w.heap.size := fun a n c h hn e => by have := hs.blk a n c h hn; omega
  have HW0 := hide hW0
  obtain ⟨va, vc, hv, -⟩ := id hs
  subst hv
  clear hW0
  cases h1 : V.getH 5 l with
  | none =>
    have HN := hide (number_any w.heap.size _ _ _ l 0 W0 hb0 rfl rfl hs0 hbt (Nat.zero_le _) none h1)
    have HU := hide (Q.unp_none h1)
    clear h1 hb0
    go_enter Try.func22, Try.ntmps22
    go_wp2_with fail
    rw [← unhide HW0]
    refine (unhide HN).mono ?_
    rintro e w1 ⟨rfl, -, G1⟩
    go_wp2
    exact bodyPost_ret (v := .tuple #[.slice none 0 0, .int .i64 5]) (by simp [results, Try.results22, go_sem]) rfl (unp_end (unhide HU) (below_box b0 G1))
  | some nk =>
    obtain ⟨n, k⟩ := nk
    obtain ⟨a1, a2, a3, a4, a5⟩ := V.put_getH hbt h1
    have HN := hide (number_any w.heap.size _ _ _ l 0 W0 hb0 rfl rfl hs0 hbt (Nat.zero_le _) (some (n, k)) h1)
    by_cases hn : 64 < n
    · have HU := hide (Q.unp_many h1 hn)
      clear h1 hb0 a1 a4
      go_enter Try.func22, Try.ntmps22
      go_wp2_with fail
      rw [← unhide HW0]
      refine (unhide HN).mono ?_
      rintro e w1 ⟨rfl, -, G1⟩
      go_wp2
      exact bodyPost_ret (v := .tuple #[.slice none 0 0, .int .i64 5]) (by simp [results, Try.results22, go_sem]) rfl (unp_end (unhide HU) (below_box b0 G1))
    · have HUB := hide (Q.unp_bad h1 hn)
      have HUN := hide (fun e L => Q.unp_not (e := e) (L := L) h1 hn)
      have HUI := hide (fun e L => Q.unp_is (e := e) (L := L) h1 hn)
      obtain ⟨N, hN⟩ : ∃ N : Nat, n = N := Int.eq_ofNat_of_zero_le a2
      have hN64 : N ≤ 64 := by omega
      have hnt : n.toNat = N := by omega
      rw [hnt] at HUB HUN HUI
      subst hN
      clear h1 hb0 a1 a4 a2 a3 hnt
      go_enter Try.func22, Try.ntmps22
      go_wp2_with fail
      rw [← unhide HW0]
      refine (unhide HN).mono ?_
      rintro e w1 ⟨rfl, hb1, G1⟩
      have hb1' : w1.heap[w.heap.size]? = some (.cells #[.slice va l.length vc, .int .i64 (k : Int)] 61 (0, 0)) := by simpa using hb1
      have BB1 := below_box b0 G1
      have HB1 := hide hb1'
      clear hb1 hb1'
      go_wp2
      go_loopw [7, 8, 9] (fun ov av iv wr => ∃ (j fr p : Nat) (pre : List Pt) (m : Int) (cs : List Value), Hid (fr = 4 * j) ∧ fr ≤ N + 3 ∧ iv = .int .i64 fr ∧ av = .int .i64 m ∧ p ≤ l.length ∧ pre.length ≤ fr ∧ (-1 ≤ m ∧ m ≤ 34359738367) ∧ Hid (Q.blksP 17 N (-1) l k = Q.onto pre (Q.blksP (17 - j) (N - fr) m l p)) ∧
          wr.ownsRow w.heap.size 39 2 ov pre.length cs ∧ PCp (Pa w.heap.size wr) cs pre ∧ Hid (wr.heap[w.heap.size]? = some (.cells #[.slice va l.length vc, .int .i64 (p : Int)] 61 (0, 0))) ∧ Below w.heap.size w wr) (fun _ _ iv _ => N + 4 - (intOf iv).toNat)
      case atStart => exact ⟨0, 0, k, [], -1, [], hide rfl, by omega, rfl, rfl, a5, by simp, by omega, hide (by rw [Q.onto_nil]; rfl), World.ownsRow_nil _ _ _ _, trivial, HB1, BB1⟩
      case round =>
        obtain ⟨j, fr, p, pre, m, cs, HFR, hfl, rfl, rfl, hp, hpl, hmm, HON, hown, hpc, HBX, hbel⟩ := hrel
        have hsr := hs.below hbel
        have hwz := hbel.size
        by_cases hlt : fr < N
        · have hlt' : (fr : Int) < (N : Int) := by omega
          have hpl2 : pre.length ≤ 64 := by omega
          have kp : ∀ {e : TypeId} {K : Nat} {u : Value} {z : Nat} {xs : List Value} {w1 : World}, wr.ownsRow w.heap.size e K u z xs → 61 ≠ e → wr.grownBy w1 (some w.heap.size) → w1.ownsRow w.heap.size e K u z xs := fun {e K u z xs w1} o ne gg => by
            refine o.kept gg ?_
            exact .inr fun ee => own_ne_box o (unhide HBX) ne ee.symm
          have hwg : w.heap.size < wr.heap.size := (Array.getElem?_eq_some_iff.1 (unhide HBX)).1
          have HNX := hide (next_any w.heap.size _ l p (min 4 (N - fr)) m wr (unhide HBX) hsr hbt hp hl (by omega) (by omega) hvg)
          have HN2 := hide (unhide HNX (min 4 ((N : Int) - (fr : Int))) (by omega))
          clear HNX
          cases h2 : Q.blkP (min 4 (N - fr)) m l p with
          | none =>
            have HK := hide (unhide HUB (by rw [unhide HON, show 17 - j = 16 - j + 1 by have := unhide HFR; omega, show N - fr = N - fr - 1 + 1 by omega]; exact Q.blks_none (by rw [show N - fr - 1 + 1 = N - fr by omega]; exact h2)))
            have HN3 := unhide HN2
            rw [h2] at HN3
            have HN4 := hide HN3
            clear HN3 HN2 h2
            go_wp2_with fail
            refine (unhide HN4).mono ?_
            rintro e w2 ⟨⟨xa, xn, xc, rfl⟩, G2⟩
            go_wp2
            exact bodyPost_ret (v := .tuple #[.slice none 0 0, .int .i64 5]) (by simp [results, Try.results22, go_sem]) rfl (unp_end (unhide HK) (hbel.trans (below_of_grown G2 (Nat.le_refl _) hwz)))
          | some Gp =>
            obtain ⟨G, p'⟩ := Gp
            obtain ⟨b1, b2, b3, b4⟩ := Q.blkP_back hbt h2
            obtain ⟨d1, d2⟩ := Q.blkP_last hbt h2
            have HO2 := hide (show Q.blksP 17 N (-1) l k = Q.onto (pre ++ G) (Q.blksP (17 - (j + 1)) (N - (fr + 4)) (Q.lastD m G) l p') by
              rw [unhide HON, show 17 - j = 16 - j + 1 by have := unhide HFR; omega, show N - fr = N - fr - 1 + 1 by omega, Q.blks_some (by rw [show N - fr - 1 + 1 = N - fr by omega]; exact h2), show 17 - (j + 1) = 16 - j by omega, show N - fr - 1 + 1 - 4 = N - (fr + 4) by omega])
            have HN3 := unhide HN2
            rw [h2] at HN3
            have HN4 := hide HN3
            obtain ⟨gn, hgn⟩ : ∃ gn, gn = G.length := ⟨_, rfl⟩
            have hgn1 : 1 ≤ gn ∧ gn ≤ 4 ∧ fr + gn ≤ N := by omega
            obtain ⟨q, hq⟩ : ∃ q, G[gn - 1]? = some q := ⟨G[gn - 1]'(by omega), List.getElem?_eq_getElem (by omega)⟩
            have hlast : Q.lastD m G = q.d := Q.lastD_at (by rw [← hgn]; exact hq)
            have HGN := hide hgn
            have HLA := hide hlast
            have HQ := hide hq
            clear HN3 HN2 h2 b1 b4 hgn hlast hq
            go_wp2_with fail
            refine (unhide HN4).mono ?_
            rintro e w2 ⟨v2, ds, rfl, O2, C2, bx2, G2⟩
            have O2o := kp hown (by decide) G2
            have C2o := hpc.turn (fun u z h => kp h (by decide) G2)
            have F2 : Far u7 v2 := Far.new hown O2 (Nat.le_refl _)
            have C2m : PCp (Pa w.heap.size w2) ds G := C2.turn (fun u z h => own_mono h hwz)
            have CL2 := Cl.owned O2
            obtain ⟨ga, gc, hv2⟩ : ∃ ga gc, v2 = .slice (some ⟨ga, 0, none⟩) gn gc := by
              rcases own_form O2 with ⟨rfl, h0⟩ | ⟨g', cap, rfl, -⟩
              · exact absurd h0 (by have := unhide HGN; omega)
              · exact ⟨g', cap, by rw [unhide HGN]⟩
            subst hv2
            have BB2 := hbel.trans (below_of_grown G2 (Nat.le_refl _) hwz)
            have HBX2 := hide bx2
            have HO2r := hide O2
            obtain ⟨ld, hld⟩ : ∃ ld, ld = Q.lastD m G := ⟨_, rfl⟩
            have hds : ds[(gn - 1) * 2]? = some (.int .i64 ld) := by
              obtain ⟨-, h0, -, -⟩ := C2m.at (gn - 1) q (unhide HQ)
              rw [h0, hld, unhide HLA]
            have HDS := hide hds
            rw [← hld] at d1 d2
            have HLD := hide hld
            have HO2o := hide O2o
            have HKA := hide (fun u z (h : Pa w.heap.size w2 u z) => own_apart h O2o (by decide : (3 : TypeId) ≠ 39))
            clear O2 C2 bx2 kp hown hpc hds hld
            go_wp2_with (at_builtin; refine append_posts_c Pa.one rfl (.tmp 40) (.tmp 41) rfl rfl rfl CL2 C2m O2o C2o BB2.size (by have := unhide HGN; omega) ?_; intro v3 w3 O3 C3 G3; have Og := Far.kept F2 (unhide HO2r) G3; have cg := (own_room (by rw [← unhide HGN] at Og; exact Og)).2.2.1 _ _ (unhide HDS))
            have C4 : PCp (Pa w.heap.size w3) (cs ++ ds) (pre ++ G) := C3.turn (fun u z h => World.ownsRow.kept h G3 (unhide HKA u z h))
            have bx3 := box_grown (unhide HBX2) G3 (own_ne_box (unhide HO2o) (unhide HBX2) (by decide))
            have BB3 := BB2.grown G3 BB2.size (fun j hj => ((unhide HO2o).lt j hj).1)
            go_roundw
            case rel => exact ⟨j + 1, fr + 4, p', pre ++ G, ld, cs ++ ds, hide (by have := unhide HFR; omega), by omega, by go_num, rfl, b3, by rw [List.length_append, ← unhide HGN]; omega, by omega, hide (by rw [unhide HLD]; exact unhide HO2), O3, C4, hide bx3, BB3⟩
            case measure => simp [intOf]; omega
        · have HBK := hide (show Q.blksP 17 N (-1) l k = some (pre, p) by rw [unhide HON, show N - fr = 0 by omega, Q.blks_done])
          have hlt' : ¬ ((fr : Int) < (N : Int)) := by omega
          have HDN := hide (done_any w.heap.size _ _ _ l p wr (unhide HBX) rfl rfl hsr)
          have PLr : PlO w.heap.size wr u7 pre := ⟨cs, hown, hpc⟩
          obtain ⟨oa, on, oc, hov⟩ : ∃ oa on oc, u7 = .slice oa on oc := by
            rcases own_form hown with ⟨rfl, h0⟩ | ⟨g', cap, rfl, -⟩
            · exact ⟨_, _, _, rfl⟩
            · exact ⟨_, _, _, rfl⟩
          subst hov
          obtain ⟨dn, hdn⟩ : ∃ dn, decide (p = l.length) = dn := ⟨_, rfl⟩
          have HDD := hide hdn
          clear hdn hown hpc
          cases dn with
          | false =>
            have HF := hide (unhide HUN p pre (unhide HBK) (fun h => by have h2 := unhide HDD; simp at h2; exact h2 h.1))
            go_wp2_with (go_at_call 46; refine (unhide HDN).mono ?_; rintro e w2 ⟨rfl, B2⟩; rw [unhide HDD])
            exact bodyPost_ret (v := .tuple #[.slice none 0 0, .int .i64 5]) (by simp [results, Try.results22, go_sem]) rfl (unp_end (unhide HF) (below_trans' hbel B2))
          | true =>
            obtain ⟨mb, hmb⟩ : ∃ mb, Q.may pre = mb := ⟨_, rfl⟩
            have HM := hide hmb
            clear hmb
            cases mb with
            | false =>
              have HF := hide (unhide HUN p pre (unhide HBK) (fun h => by have h2 := unhide HM; rw [h2] at h; simp at h))
              go_wp2_with (first
                | (go_at_call 46; refine (unhide HDN).mono ?_; rintro e w2 ⟨rfl, B2⟩; rw [unhide HDD]; have PL2 := PLr.below B2)
                | (go_at_call 15; refine (may_any _ _ _ PL2.pl).mono ?_; rintro e w3 ⟨rfl, B3⟩; rw [unhide HM]))
              exact bodyPost_ret (v := .tuple #[.slice none 0 0, .int .i64 5]) (by simp [results, Try.results22, go_sem]) rfl (unp_end (unhide HF) (below_trans' (below_trans' hbel B2) B3))
            | true =>
              have HF := hide (unhide HUI p pre (unhide HBK) ⟨by have h2 := unhide HDD; simpa using h2, unhide HM⟩)
              go_wp2_with (first
                | (go_at_call 46; refine (unhide HDN).mono ?_; rintro e w2 ⟨rfl, B2⟩; rw [unhide HDD]; have PL2 := PLr.below B2)
                | (go_at_call 15; refine (may_any _ _ _ PL2.pl).mono ?_; rintro e w3 ⟨rfl, B3⟩; rw [unhide HM]))
              exact bodyPost_ret (v := .tuple #[.slice oa on oc, .int .i64 0]) (by simp [results, Try.results22, go_sem]) rfl ⟨_, by rw [(unhide HF).2], by rw [(unhide HF).1]; exact PL2.below B3, below_trans' (below_trans' hbel B2) B3⟩
end Go.Proofs.Ytjkaidlgooemoaa
