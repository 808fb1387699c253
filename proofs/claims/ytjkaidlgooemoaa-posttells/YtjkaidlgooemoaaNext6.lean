/-
  The contract of next: a block, with what is told of it ahead of its bytes.
-/
import Derived.Test.YtjkaidlgooemoaaPostings6
namespace Go.Proofs.Ytjkaidlgooemoaa
open Go.RowKit

/-- What next answers, and leaves. -/
def NextEnd (g : Nat) (v : Value) (w : World) (r : Option (List Pt × Nat)) (e : Ending) (w' : World) : Prop :=
  match r with
  | some (G, p') => ∃ v' cs, e = .returned (.tuple #[v', .bool true]) ∧ w'.ownsRow w.heap.size 39 2 v' G.length cs ∧ PCp (Pa w.heap.size w') cs G ∧
      w'.heap[g]? = some (.cells #[v, .int .i64 (p' : Int)] 61 (0, 0)) ∧ w.grownBy w' (some g)
  | none => (∃ a n c, e = .returned (.tuple #[.slice a n c, .bool false])) ∧ w.grownBy w' (some g)

/-- The parts of a block, one behind the other. -/
theorem Q.blkP_none1 {n : Nat} {m : Int} {l : List Int} {p : Nat} (h : V.getH 5 (l.drop p) = none) : Q.blkP n m l p = none := by unfold Q.blkP; rw [h]
theorem Q.blkP_none2 {n k1 : Nat} {m last : Int} {l : List Int} {p : Nat} (h : V.getH 5 (l.drop p) = some (last, k1)) (h2 : V.getH 5 (l.drop (p + k1)) = none) : Q.blkP n m l p = none := by
  unfold Q.blkP
  rw [h]
  simp only []
  rw [h2]
theorem Q.blkP_at {n k1 k2 : Nat} {m last size : Int} {l : List Int} {p : Nat} (h : V.getH 5 (l.drop p) = some (last, k1)) (h2 : V.getH 5 (l.drop (p + k1)) = some (size, k2)) :
    Q.blkP n m l p = if (l.length : Int) - ((p + k1 + k2 : Nat) : Int) < size then none else
      match Q.postN n m ((l.drop (p + k1 + k2)).take size.toNat) 0 with
      | none => none
      | some (g, e) => if e = size.toNat ∧ Q.lastD m g = last then some (g, p + k1 + k2 + size.toNat) else none := by
  unfold Q.blkP
  rw [h]
  simp only []
  rw [h2]
  rfl

set_option maxHeartbeats 4000000 in
theorem next_any (g : Nat) (v : Value) (l : List Int) (p n : Nat) (m : Int) (w : World) (hb : w.heap[g]? = some (.cells #[v, .int .i64 (p : Int)] 61 (0, 0)))
    (hs : Sl .u8 w v l) (hbt : V.Byt l) (hp : p ≤ l.length) (hl : l.length ≤ 1000000) (hn : n ≤ 4) (hm : -1 ≤ m ∧ m ≤ 100000000000) (hvg : ∀ a n c, v = .slice (some a) n c → 0 < n → a.block ≠ g) (x : Int) (hx : x = n) :
    Calls Try.prog 45 #[.pointer (some ⟨g, 0, none⟩), .int .i64 x, .int .i64 m] w fun e w' => NextEnd g v w (Q.blkP n m l p) e w' := by
  have hgw := (Array.getElem?_eq_some_iff.1 hb).1
  have HX := hide hx
  clear hx
  cases h1 : V.getH 5 (l.drop p) with
  | none =>
    have HN := hide (number_any g _ _ v l p w hb rfl rfl hs hbt hp none h1)
    have HE := hide (Q.blkP_none1 (n := n) (m := m) h1)
    clear h1 hb
    go_enter Try.func45, Try.ntmps45
    go_wp2_with fail
    refine (unhide HN).mono ?_
    rintro e w1 ⟨rfl, -, G1⟩
    go_wp2
    refine bodyPost_ret (v := .tuple #[.slice none 0 0, .bool false]) (by simp [results, Try.results45, go_sem]) rfl ?_
    rw [unhide HE]
    exact ⟨⟨_, _, _, rfl⟩, G1⟩
  | some lk =>
    obtain ⟨last, k1⟩ := lk
    obtain ⟨a1, a2, a3, a4, a5⟩ := V.put_getH (hbt.drop p) h1
    simp only [List.length_drop] at a5
    have HN := hide (number_any g _ _ v l p w hb rfl rfl hs hbt hp (some (last, k1)) h1)
    cases h2 : V.getH 5 (l.drop (p + k1)) with
    | none =>
      have HE := hide (Q.blkP_none2 (n := n) (m := m) h1 h2)
      have H2 := hide h2
      clear h1 h2 hb a1 a4
      go_enter Try.func45, Try.ntmps45
      go_wp2_with fail
      refine (unhide HN).mono ?_
      rintro e w1 ⟨rfl, hb1, G1⟩
      have hs1 := hs.grown G1 hvg
      have HN2 := hide (number_any g _ _ v l (p + k1) w1 hb1 rfl rfl hs1 hbt (by omega) none (unhide H2))
      clear hb1
      go_wp2_with fail
      refine (unhide HN2).mono ?_
      rintro e w2 ⟨rfl, -, G2⟩
      go_wp2
      refine bodyPost_ret (v := .tuple #[.slice none 0 0, .bool false]) (by simp [results, Try.results45, go_sem]) rfl ?_
      rw [unhide HE]
      exact ⟨⟨_, _, _, rfl⟩, G1.trans G2⟩
    | some sk =>
      obtain ⟨size, k2⟩ := sk
      obtain ⟨c1, c2, c3, c4, c5⟩ := V.put_getH (hbt.drop (p + k1)) h2
      simp only [List.length_drop] at c5
      have HE := hide (Q.blkP_at (n := n) (m := m) h1 h2)
      have H2 := hide h2
      obtain ⟨z, hz⟩ : ∃ z : Nat, size = z := Int.eq_ofNat_of_zero_le c2
      have HZ := hide hz
      clear h1 h2 hb a1 a4 c1 c4 hz
      go_enter Try.func45, Try.ntmps45
      go_wp2_with fail
      refine (unhide HN).mono ?_
      rintro e w1 ⟨rfl, hb1, G1⟩
      have hs1 := hs.grown G1 hvg
      have HN2 := hide (number_any g _ _ v l (p + k1) w1 hb1 rfl rfl hs1 hbt (by omega) (some (size, k2)) (unhide H2))
      clear hb1
      go_wp2_with fail
      refine (unhide HN2).mono ?_
      rintro e w2 ⟨rfl, hb2, G2⟩
      have hs2 := hs1.grown G2 hvg
      have hb2' : w2.heap[g]? = some (.cells #[v, .int .i64 ((p + k1 + k2 : Nat) : Int)] 61 (0, 0)) := by simpa using hb2
      have HPI := hide (piece_any g _ v l (p + k1 + k2) z size (unhide HZ) w2 hb2' hs2 (by omega) hl hvg)
      have GG2 := G1.trans G2
      clear hb2 hb2' G1 G2 hs1
      go_wp2_with fail
      refine (unhide HPI).mono ?_
      intro e w3 h3
      by_cases hsz : p + k1 + k2 + z ≤ l.length
      · unfold PieEnd at h3
        rw [if_pos hsz] at h3
        obtain ⟨sv, rfl, S3, hb3, G3⟩ := h3
        have GG3 := GG2.trans G3
        obtain ⟨qq, hqq⟩ : ∃ qq, qq = (l.drop (p + k1 + k2)).take z := ⟨_, rfl⟩
        rw [← hqq] at S3
        have hql : qq.length = z := by rw [hqq]; simp; omega
        have hqb : V.Byt qq := by rw [hqq]; exact (hbt.drop _).take _
        obtain ⟨sa, sc, hsv, -⟩ := id S3
        subst hsv
        obtain ⟨W, hW⟩ : ∃ W, W = (w3.alloc (.cells #[.slice sa qq.length sc, .int .i64 0] 61)).alloc (.cells #[.slice sa qq.length sc, .int .i64 0, .int .i64 m] 79) := ⟨_, rfl⟩
        have BW : Below w3.heap.size w3 W := by rw [hW]; exact (below_alloc _ _).alloc (by simp) _
        have bw : W.heap[w3.heap.size + 1]? = some (.cells #[.slice sa qq.length sc, .int .i64 0, .int .i64 m] 79 (0, 0)) := by
          rw [hW]
          have := heap_alloc_new (w3.alloc (.cells #[.slice sa qq.length sc, .int .i64 0] 61)) (.cells #[.slice sa qq.length sc, .int .i64 0, .int .i64 m] 79)
          simpa using this
        have SW := S3.below BW
        have HPS := hide (postings_any (w3.heap.size + 1) (.slice sa qq.length sc) qq m n W bw SW hqb hn hm (fun a n' c' h hn' e => by have := S3.blk a n' c' h hn'; omega))
        have bgW := box_below hb3 BW
        have GGW := GG3.trans (grown_below BW _)
        have hz3 := GG3.size
        have hzW : w.heap.size ≤ W.heap.size := GGW.size
        have HW := hide hW
        have HQQ := hide hqq
        have HQL := hide hql
        have HE2 := hide (show Q.blkP n m l p = (match Q.postN n m qq 0 with | none => none | some (g, e) => if e = z ∧ Q.lastD m g = last then some (g, p + k1 + k2 + z) else none) by
          rw [unhide HE, if_neg (by have := unhide HZ; omega), show size.toNat = z by have := unhide HZ; omega, hqq])
        have HBG := hide bgW
        clear hW bw SW hqq S3 hb3 bgW BW hql
        go_wp2_with fail
        rw [← unhide HW, unhide HX]
        refine (unhide HPS).mono ?_
        have hg2 : w.heap.size ≤ w3.heap.size + 1 := by omega
        have hgne : some g ≠ some (w3.heap.size + 1) := by simp; omega
        intro e w4 h4
        cases h5 : Q.postN n m qq 0 with
        | none =>
          rw [h5] at h4
          obtain ⟨rfl, G4⟩ := h4
          have HE3 := hide (show Q.blkP n m l p = none by rw [unhide HE2, h5])
          clear h5
          go_wp2
          go_quiet (fail)
          go_wp2
          refine bodyPost_ret (v := .tuple #[.slice none 0 0, .bool false]) (by simp [results, Try.results45, go_sem]) rfl ?_
          rw [unhide HE3]
          exact ⟨⟨_, _, _, rfl⟩, (grown_own GGW G4 (fun j hj => by simp at hj; omega)).trans (grown_drewN _ _ _)⟩
        | some Ge =>
          obtain ⟨G, e'⟩ := Ge
          rw [h5] at h4
          obtain ⟨v4, cs, rfl, O4, C4, bx4, G4⟩ := h4
          have HE3 := hide (show Q.blkP n m l p = if e' = z ∧ Q.lastD m G = last then some (G, p + k1 + k2 + z) else none by rw [unhide HE2, h5])
          obtain ⟨va, vn, vc, hv4⟩ : ∃ va vn vc, v4 = .slice va vn vc := by
            rcases own_form O4 with ⟨rfl, _⟩ | ⟨g', cap, rfl, -⟩
            · exact ⟨_, _, _, rfl⟩
            · exact ⟨_, _, _, rfl⟩
          subst hv4
          obtain ⟨ld, hld⟩ : ∃ ld, Q.lastD m G = ld := ⟨_, rfl⟩
          rw [hld] at bx4
          have HLD := hide hld
          have y2 : w4.cell? ⟨w3.heap.size + 1, 2, none⟩ = some (.int .i64 ld) := box_cell bx4 rfl
          have GG4 := grown_own GGW G4 (fun j hj => by simp at hj; omega)
          have bg4 := box_grown (unhide HBG) G4 hgne
          have HO4 := hide O4
          have HC4 := hide C4
          have HBG4 := hide bg4
          clear h5 hld O4 C4 bx4 bg4
          obtain ⟨dn, hdn⟩ : ∃ dn, decide (e' = qq.length) = dn := ⟨_, rfl⟩
          rw [hdn]
          have HDN := hide hdn
          clear hdn
          cases dn with
          | false =>
            have hne : ¬ (e' = z) := by
              have := unhide HDN
              rw [unhide HQL] at this
              simpa using this
            have HNE := hide hne
            clear hne
            go_wp2
            go_quiet (fail)
            go_wp2
            refine bodyPost_ret (v := .tuple #[.slice va vn vc, .bool false]) (by simp [results, Try.results45, go_sem]) rfl ?_
            rw [unhide HE3, if_neg (fun h => unhide HNE h.1)]
            exact ⟨⟨_, _, _, rfl⟩, GG4.trans (grown_drewN _ _ _)⟩
          | true =>
            have hee : e' = z := by
              have := unhide HDN
              rw [unhide HQL] at this
              simpa using this
            have HEE := hide hee
            clear hee
            by_cases hla : ld = last
            · have t1 : (ld == last) = true := by simpa using hla
              have HLA := hide hla
              clear hla
              go_wp2
              go_quiet (fail)
              go_wp2
              refine bodyPost_ret (v := .tuple #[.slice va vn vc, .bool true]) (by simp [results, Try.results45, go_sem]) rfl ?_
              rw [unhide HE3, if_pos ⟨unhide HEE, by rw [unhide HLD, unhide HLA]⟩]
              exact ⟨_, cs, rfl, own_mono (unhide HO4) hzW, (unhide HC4).turn (fun u z h => own_mono h hzW), unhide HBG4, GG4.trans (grown_drewN _ _ _)⟩
            · have t1 : (ld == last) = false := by simpa using hla
              have HLA := hide hla
              clear hla
              go_wp2
              go_quiet (fail)
              go_wp2
              refine bodyPost_ret (v := .tuple #[.slice va vn vc, .bool false]) (by simp [results, Try.results45, go_sem]) rfl ?_
              rw [unhide HE3, if_neg (fun h => unhide HLA (by rw [← unhide HLD]; exact h.2))]
              exact ⟨⟨_, _, _, rfl⟩, GG4.trans (grown_drewN _ _ _)⟩
      · unfold PieEnd at h3
        rw [if_neg hsz] at h3
        obtain ⟨rfl, G3⟩ := h3
        go_wp2
        refine bodyPost_ret (v := .tuple #[.slice none 0 0, .bool false]) (by simp [results, Try.results45, go_sem]) rfl ?_
        rw [unhide HE, if_pos (by have := unhide HZ; omega)]
        exact ⟨⟨_, _, _, rfl⟩, (GG2.trans G3).trans (World.grownBy_alloc _ _ _)⟩
end Go.Proofs.Ytjkaidlgooemoaa
