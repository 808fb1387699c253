/-
  Texts put together: Postings6, Next6, Unp6, Src9, Many9, Add9, Many9T.
-/
import Derived.Test.YtonhehhmnobciaaGreatK13
import Derived.Test.YtonhehhmnobciaaGreatK18
import Derived.Test.YtonhehhmnobciaaGreatK06
import Derived.Test.YtonhehhmnobciaaGreatK07
import Derived.Test.YtonhehhmnobciaaGreatK10
import Derived.Test.YtonhehhmnobciaaGreatK12
import Derived.Test.YtonhehhmnobciaaGreatK09
/-
  The contract of postings: a block of just n postings.
-/
namespace Go.Proofs.YtonhehhmnobciaaGreat
set_option maxRecDepth 100000
open Go.RowKit

def Q.onto (pre : List Pt) : Option (List Pt × Nat) → Option (List Pt × Nat)
  | none => none
  | some (L, e) => some (pre ++ L, e)
theorem Q.onto_nil (r : Option (List Pt × Nat)) : Q.onto [] r = r := by cases r <;> rfl
theorem Q.onto_none {c : Nat} {m : Int} {q : List Int} {p : Nat} {pre : List Pt} (h : Q.post1 q p = none) : Q.onto pre (Q.postN (c + 1) m q p) = none := by
  rw [Q.postN]
  unfold Q.post1 at h
  cases h1 : V.getH 5 (q.drop p) with
  | none => rfl
  | some sk =>
    obtain ⟨s, k⟩ := sk
    rw [h1] at h
    simp only [] at h ⊢
    cases h2 : V.readP q (p + k) with
    | none => rfl
    | some xq => rw [h2] at h; simp at h
theorem Q.onto_some {c : Nat} {m s : Int} {q xs : List Int} {p p' : Nat} {pre : List Pt} (h : Q.post1 q p = some (s, xs, p')) : Q.onto pre (Q.postN (c + 1) m q p) = Q.onto (pre ++ [⟨m + (s + 1), xs⟩]) (Q.postN c (m + (s + 1)) q p') := by
  rw [Q.postN]
  unfold Q.post1 at h
  cases h1 : V.getH 5 (q.drop p) with
  | none => rw [h1] at h; simp at h
  | some sk =>
    obtain ⟨s', k⟩ := sk
    rw [h1] at h
    simp only [] at h ⊢
    cases h2 : V.readP q (p + k) with
    | none => rw [h2] at h; simp at h
    | some xq =>
      obtain ⟨xs', q'⟩ := xq
      rw [h2] at h
      simp at h
      obtain ⟨rfl, rfl, rfl⟩ := h
      simp only []
      cases Q.postN c (m + (s' + 1)) q q' with
      | none => rfl
      | some z => simp [Q.onto]
theorem Q.post1_bd {q xs : List Int} {p p' : Nat} {s : Int} (hb : V.Byt q) (hp : p ≤ q.length) (h : Q.post1 q p = some (s, xs, p')) : (0 ≤ s ∧ s ≤ 34359738367) ∧ p' ≤ q.length ∧ xs.length ≤ 2000 := by
  unfold Q.post1 at h
  cases h1 : V.getH 5 (q.drop p) with
  | none => rw [h1] at h; simp at h
  | some sk =>
    obtain ⟨s', k⟩ := sk
    rw [h1] at h
    simp only [] at h
    obtain ⟨a1, a2, a3, a4, a5⟩ := V.put_getH (hb.drop p) h1
    unfold V.Top at a3
    simp only [List.length_drop] at a5
    cases h2 : V.readP q (p + k) with
    | none => rw [h2] at h; simp at h
    | some xq =>
      obtain ⟨xs', q'⟩ := xq
      rw [h2] at h
      simp at h
      obtain ⟨rfl, rfl, rfl⟩ := h
      obtain ⟨r1, r2, r3, r4⟩ := V.readP_back hb (by omega) h2
      simp only [V.rises, Bool.and_eq_true, decide_eq_true_eq] at r3
      exact ⟨⟨a2, a3⟩, r2, r3.1⟩
theorem Q.lastD_snoc : ∀ (pre : List Pt) (m : Int) (x : Pt), Q.lastD m (pre ++ [x]) = x.d
  | [], _, _ => rfl
  | _ :: r, _, x => Q.lastD_snoc r _ x

theorem grown_own {w a b : World} {g : Nat} {row : Option Nat} (h : w.grownBy a (some g)) (k : a.grownBy b row) (hr : ∀ j, row = some j → w.heap.size ≤ j) : w.grownBy b (some g) :=
  ⟨k.os.trans h.os, k.tape.trans h.tape, k.output.trans h.output, Nat.le_trans h.size k.size, fun j hj hj2 => (k.block j (Nat.lt_of_lt_of_le hj h.size) (fun e => by have := hr j e.symm; omega)).trans (h.block j hj hj2)⟩

/-- Postings in memory of the call's own, to their last lists. -/
def PlO (B : Nat) (w : World) (v : Value) (L : List Pt) : Prop := ∃ cs, w.ownsRow B 95 2 v L.length cs ∧ PCp (Pa B w) cs L
theorem PlO.pl {B : Nat} {w : World} {v : Value} {L : List Pt} (h : PlO B w v L) : Pl w v L := by
  obtain ⟨cs, h1, h2⟩ := h
  exact pl_of h1 (h2.turn fun u z h => Pa.sl h)
theorem PlO.below {B : Nat} {w w' : World} {v : Value} {L : List Pt} (h : PlO B w v L) (b : Below w.heap.size w w') : PlO B w' v L := by
  obtain ⟨cs, h1, h2⟩ := h
  exact ⟨cs, own_below h1 b, h2.turn fun u z h => own_below h b⟩
theorem PlO.mono {B B' : Nat} {w : World} {v : Value} {L : List Pt} (h : PlO B w v L) (hB : B' ≤ B) : PlO B' w v L := by
  obtain ⟨cs, h1, h2⟩ := h
  exact ⟨cs, own_mono h1 hB, h2.turn fun u z h => own_mono h hB⟩
theorem PlO.nil (B : Nat) (w : World) : PlO B w (.slice none 0 0) [] := ⟨[], World.ownsRow_nil _ _ _ _, trivial⟩
/-- The places of one of them: read, and in a block from B on. -/
theorem PlO.far {B : Nat} {w : World} {b off n cap : Nat} {L : List Pt} (h : PlO B w (.slice (some ⟨b, off, none⟩) n cap) L) {i : Nat} {p : Pt} (hp : L[i]? = some p) {dv : Value} (hd : w.cell? ⟨b, off + i * 2 + 1, none⟩ = some dv) :
    Sl .i64 w dv p.a ∧ ∀ a n c, dv = .slice (some a) n c → B ≤ a.block := by
  obtain ⟨cs, h1, h2⟩ := h
  obtain ⟨u, -, k1, hu⟩ := h2.at i p hp
  rcases own_form h1 with ⟨h0, -⟩ | ⟨g, cp, h0, -⟩
  · simp at h0
  · simp only [Value.slice.injEq, Option.some.injEq, Addr.mk.injEq, and_true] at h0
    obtain ⟨⟨rfl, rfl⟩, rfl, rfl⟩ := h0
    have k2 := (own_room h1).2.2.1 _ _ k1
    rw [Nat.zero_add] at hd
    rw [k2] at hd
    simp at hd
    subst hd
    refine ⟨Pa.sl hu, fun a n c e => ?_⟩
    subst e
    exact (World.ownsRow.lt hu a.block rfl).1

/-- What postings answers, and leaves. -/
def PossEnd (g : Nat) (v : Value) (q : List Int) (m : Int) (w : World) (r : Option (List Pt × Nat)) (e : Ending) (w' : World) : Prop :=
  match r with
  | some (G, p') => ∃ v' cs, e = .returned (.tuple #[v', .bool (decide (p' = q.length))]) ∧ w'.ownsRow w.heap.size 95 2 v' G.length cs ∧ PCp (Pa w.heap.size w') cs G ∧
      w'.heap[g]? = some (.cells #[v, .int .i64 (p' : Int), .int .i64 (Q.lastD m G)] 166 (0, 0)) ∧ w.grownBy w' (some g)
  | none => e = .returned (.tuple #[.slice none 0 0, .bool false]) ∧ w.grownBy w' (some g)

set_option maxHeartbeats 4000000 in
theorem postings_any (g : Nat) (v : Value) (q : List Int) (m0 : Int) (n : Nat) (w : World) (hb : w.heap[g]? = some (.cells #[v, .int .i64 0, .int .i64 m0] 166 (0, 0)))
    (hs : Sl .u8 w v q) (hbt : V.Byt q) (hn : n ≤ 4) (hm : -1 ≤ m0 ∧ m0 ≤ 100000000000) (hvg : ∀ a n c, v = .slice (some a) n c → 0 < n → a.block ≠ g) :
    Calls Tryz.prog 118 #[.pointer (some ⟨g, 0, none⟩), .int .i64 (n : Int)] w fun e w' => PossEnd g v q m0 w (Q.postN n m0 q 0) e w' := by
  have hgw := (Array.getElem?_eq_some_iff.1 hb).1
  go_enter Tryz.func118, Tryz.ntmps118
  go_wp2
  go_loopw [6, 10] (fun ov iv wr => ∃ (i p : Nat) (pre : List Pt) (m : Int) (cs : List Value), i ≤ n ∧ iv = .int .i64 i ∧ p ≤ q.length ∧ pre.length = i ∧ (-1 ≤ m ∧ m ≤ m0 + (i : Int) * 34359738368) ∧ Hid (Q.lastD m0 pre = m) ∧ Hid (Q.postN n m0 q 0 = Q.onto pre (Q.postN (n - i) m q p)) ∧
      wr.ownsRow w.heap.size 95 2 ov pre.length cs ∧ PCp (Pa w.heap.size wr) cs pre ∧ Hid (wr.heap[g]? = some (.cells #[v, .int .i64 (p : Int), .int .i64 m] 166 (0, 0))) ∧ w.grownBy wr (some g)) (fun _ iv _ => n - (intOf iv).toNat)
  case atStart => exact ⟨0, 0, [], m0, [], Nat.zero_le _, rfl, Nat.zero_le _, rfl, by omega, hide rfl, hide (by rw [Q.onto_nil]; rfl), World.ownsRow_nil _ _ _ _, trivial, hide (by simpa using hb), ⟨rfl, rfl, rfl, Nat.le_refl _, fun _ _ _ => rfl⟩⟩
  case round =>
    obtain ⟨i, p, pre, m, cs, hi, rfl, hp, hpl, hmm, HLD, HON, hown, hpc, HBX, hgr⟩ := hrel
    have hsr := hs.grown hgr hvg
    have hwz := hgr.size
    by_cases hlt : i < n
    · have hlt' : (i : Int) < (n : Int) := by omega
      have HP := hide (posting_any g v q p m wr (unhide HBX) hsr hbt hp (by omega) hvg)
      have kp : ∀ {e : TypeId} {K : Nat} {u : Value} {k : Nat} {xs : List Value} {w1 : World}, wr.ownsRow w.heap.size e K u k xs → wr.grownBy w1 (some g) → w1.ownsRow w.heap.size e K u k xs := fun {e K u k xs w1} o gg => by
        refine o.kept gg ?_
        cases hu : u.ownBlock with
        | none => exact .inl rfl
        | some j => exact .inr fun ee => by have := (o.lt j hu).1; simp at ee; omega
      cases h1 : Q.post1 q p with
      | none =>
        have HN := hide (show Q.postN n m0 q 0 = none by
          rw [unhide HON, show n - i = n - i - 1 + 1 by omega]
          exact Q.onto_none h1)
        have HPP := unhide HP
        rw [h1] at HPP
        have HP2 := hide HPP
        clear HPP HP h1 hown hpc
        go_wp2_with fail
        refine (unhide HP2).mono ?_
        rintro e w1 ⟨rfl, G1⟩
        go_wp2
        refine bodyPost_ret (v := .tuple #[.slice none 0 0, .bool false]) (by simp [results, Tryz.results118, go_sem]) rfl ?_
        rw [unhide HN]
        exact ⟨rfl, (hgr.trans G1).trans (World.grownBy_alloc _ _ _)⟩
      | some sx =>
        obtain ⟨s, xs, p'⟩ := sx
        obtain ⟨k1, k2, k3⟩ := Q.post1_bd hbt hp h1
        have HN := hide (show Q.postN n m0 q 0 = Q.onto (pre ++ [⟨m + (s + 1), xs⟩]) (Q.postN (n - (i + 1)) (m + (s + 1)) q p') by
          rw [unhide HON, show n - i = n - (i + 1) + 1 by omega]
          exact Q.onto_some h1)
        have HPP := unhide HP
        rw [h1] at HPP
        have HP2 := hide HPP
        obtain ⟨d, hd⟩ : ∃ d, d = m + (s + 1) := ⟨_, rfl⟩
        have HD := hide hd
        clear HPP HP h1 hd
        go_wp2_with fail
        refine (unhide HP2).mono ?_
        rintro e w1 ⟨v1, rfl, bx1, P1, G1⟩
        rw [← unhide HD] at bx1 ⊢
        obtain ⟨va, vc, hv1, -⟩ := id (Pa.sl P1)
        subst hv1
        have O1 := kp hown G1
        have C1 := hpc.turn (fun u z h => kp h G1)
        have P1' : Pa w.heap.size w1 (.slice va xs.length vc) xs := own_mono P1 hwz
        have GG1 := hgr.trans G1
        obtain ⟨W2, hW2⟩ : ∃ W2, W2 = w1.alloc (.cells #[.int .i64 d, .slice va xs.length vc] 95) := ⟨_, rfl⟩
        have B2 : Below w1.heap.size w1 W2 := by rw [hW2]; exact below_alloc _ _
        have O2 := own_below O1 B2
        have C2 := C1.turn (fun u z h => own_below h B2)
        have P2 := own_below P1' B2
        have bx2 := box_below bx1 B2
        have GG2 := GG1.trans (grown_below B2 _)
        have hz2 := GG2.size
        have HBX2 := hide bx2
        have HKA := hide (fun u z (h : Pa w.heap.size W2 u z) => own_apart h O2 (by decide : (3 : TypeId) ≠ 95))
        have hbl2 : ∀ j, u6.ownBlock = some j → w.heap.size ≤ j := fun j hj => (O2.lt j hj).1
        have HBL2 := hide hbl2
        have HO2 := hide O2
        subst hW2
        clear O1 C1 P1' bx1 bx2 P1 hown hpc kp B2 GG1 G1 hbl2
        go_wp2_with (at_builtin; refine append_post_p (f := ⟨d, xs⟩) Pa.one rfl _ _ rfl rfl rfl (by simp) O2 C2 P2 hz2 (by omega) ?_; intro v3 w3 cs3 O3 C3 G3 E3)
        have C4 : PCp (Pa w.heap.size w3) cs3 (pre ++ [(⟨d, xs⟩ : Pt)]) := C3.turn (fun u z h => World.ownsRow.kept h G3 (unhide HKA u z h))
        have bx3 := box_grown (unhide HBX2) G3 (own_ne_box (unhide HO2) (unhide HBX2) (by decide))
        have GG3 := grown_own GG2 G3 (unhide HBL2)
        have hpl3 : (pre ++ [(⟨d, xs⟩ : Pt)]).length = i + 1 := by simp [hpl]
        go_roundw
        case rel => exact ⟨i + 1, p', pre ++ [(⟨d, xs⟩ : Pt)], d, cs3, by omega, by go_num, k2, hpl3, by have := unhide HD; omega, hide (Q.lastD_snoc _ _ _), hide (by rw [unhide HD]; exact unhide HN), O3, C4, hide bx3, GG3⟩
        case measure => simp [intOf]; omega
    · have hin : i = n := by omega
      subst hin
      have HN := hide (show Q.postN i m0 q 0 = some (pre, p) by rw [unhide HON, Nat.sub_self]; simp [Q.postN, Q.onto])
      have HDN := hide (done_any g _ _ v q p wr (unhide HBX) rfl rfl hsr)
      obtain ⟨oa, on, oc, hov⟩ : ∃ oa on oc, u6 = .slice oa on oc := by
        rcases own_form hown with ⟨rfl, h0⟩ | ⟨g', cap, rfl, -⟩
        · exact ⟨_, _, _, rfl⟩
        · exact ⟨_, _, _, rfl⟩
      subst hov
      obtain ⟨dn, hdn⟩ : ∃ dn, decide (p = q.length) = dn := ⟨_, rfl⟩
      have HDD := hide hdn
      have HOW := hide hown
      clear hdn hown
      go_wp2_with fail
      refine (unhide HDN).mono ?_
      rintro e w1 ⟨rfl, B1⟩
      rw [unhide HDD]
      go_wp2
      refine bodyPost_ret (v := .tuple #[.slice oa on oc, .bool dn]) (by simp [results, Tryz.results118, go_sem]) rfl ?_
      rw [unhide HN]
      exact ⟨_, cs, by rw [unhide HDD], own_below (unhide HOW) B1, hpc.turn (fun u z h => own_below h B1), by rw [unhide HLD]; exact box_below (unhide HBX) B1, hgr.trans (grown_below B1 _)⟩
end Go.Proofs.YtonhehhmnobciaaGreat

/-
  The contract of next: a block, with what is told of it ahead of its bytes.
-/
namespace Go.Proofs.YtonhehhmnobciaaGreat
set_option maxRecDepth 100000
open Go.RowKit

/-- What next answers, and leaves. -/
def NextEnd (g : Nat) (v : Value) (w : World) (r : Option (List Pt × Nat)) (e : Ending) (w' : World) : Prop :=
  match r with
  | some (G, p') => ∃ v' cs, e = .returned (.tuple #[v', .bool true]) ∧ w'.ownsRow w.heap.size 95 2 v' G.length cs ∧ PCp (Pa w.heap.size w') cs G ∧
      w'.heap[g]? = some (.cells #[v, .int .i64 (p' : Int)] 152 (0, 0)) ∧ w.grownBy w' (some g)
  | none => (∃ a n c, e = .returned (.tuple #[.slice a n c, .bool false])) ∧ w.grownBy w' (some g)

/-- The parts of a block, one behind the other. -/
theorem Q.blkP_none1 {n : Nat} {m : Int} {l : List Int} {p : Nat} (h : V.getH 5 (l.drop p) = none) : Q.blkP n m l p = none := by unfold Q.blkP; rw [h]
theorem Q.blkP_none2 {n k1 : Nat} {m last : Int} {l : List Int} {p : Nat} (h : V.getH 5 (l.drop p) = some (last, k1)) (h2 : V.getH 5 (l.drop (p + k1)) = none) : Q.blkP n m l p = none := by
  unfold Q.blkP
  rw [h]
  simp only []
  rw [h2]
theorem Q.blkP_at {n k1 k2 : Nat} {m last size : Int} {l : List Int} {p : Nat} (h : V.getH 5 (l.drop p) = some (last, k1)) (h2 : V.getH 5 (l.drop (p + k1)) = some (size, k2)) :
    Q.blkP n m l p = if (l.length : Int) - ((p + k1 + k2 : Nat) : Int) < size then none else
      match Q.postN n m ((l.drop (p + k1 + k2)).take size.toNat) 0 with
      | none => none
      | some (g, e) => if e = size.toNat ∧ Q.lastD m g = last then some (g, p + k1 + k2 + size.toNat) else none := by
  unfold Q.blkP
  rw [h]
  simp only []
  rw [h2]
  rfl

set_option maxHeartbeats 4000000 in
theorem next_any (g : Nat) (v : Value) (l : List Int) (p n : Nat) (m : Int) (w : World) (hb : w.heap[g]? = some (.cells #[v, .int .i64 (p : Int)] 152 (0, 0)))
    (hs : Sl .u8 w v l) (hbt : V.Byt l) (hp : p ≤ l.length) (hl : l.length ≤ 1000000) (hn : n ≤ 4) (hm : -1 ≤ m ∧ m ≤ 100000000000) (hvg : ∀ a n c, v = .slice (some a) n c → 0 < n → a.block ≠ g) (x : Int) (hx : x = n) :
    Calls Tryz.prog 111 #[.pointer (some ⟨g, 0, none⟩), .int .i64 x, .int .i64 m] w fun e w' => NextEnd g v w (Q.blkP n m l p) e w' := by
  have hgw := (Array.getElem?_eq_some_iff.1 hb).1
  have HX := hide hx
  clear hx
  cases h1 : V.getH 5 (l.drop p) with
  | none =>
    have HN := hide (number_any g _ _ v l p w hb rfl rfl hs hbt hp none h1)
    have HE := hide (Q.blkP_none1 (n := n) (m := m) h1)
    clear h1 hb
    go_enter Tryz.func111, Tryz.ntmps111
    go_wp2_with fail
    refine (unhide HN).mono ?_
    rintro e w1 ⟨rfl, -, G1⟩
    go_wp2
    refine bodyPost_ret (v := .tuple #[.slice none 0 0, .bool false]) (by simp [results, Tryz.results111, go_sem]) rfl ?_
    rw [unhide HE]
    exact ⟨⟨_, _, _, rfl⟩, G1⟩
  | some lk =>
    obtain ⟨last, k1⟩ := lk
    obtain ⟨a1, a2, a3, a4, a5⟩ := V.put_getH (hbt.drop p) h1
    simp only [List.length_drop] at a5
    have HN := hide (number_any g _ _ v l p w hb rfl rfl hs hbt hp (some (last, k1)) h1)
    cases h2 : V.getH 5 (l.drop (p + k1)) with
    | none =>
      have HE := hide (Q.blkP_none2 (n := n) (m := m) h1 h2)
      have H2 := hide h2
      clear h1 h2 hb a1 a4
      go_enter Tryz.func111, Tryz.ntmps111
      go_wp2_with fail
      refine (unhide HN).mono ?_
      rintro e w1 ⟨rfl, hb1, G1⟩
      have hs1 := hs.grown G1 hvg
      have HN2 := hide (number_any g _ _ v l (p + k1) w1 hb1 rfl rfl hs1 hbt (by omega) none (unhide H2))
      clear hb1
      go_wp2_with fail
      refine (unhide HN2).mono ?_
      rintro e w2 ⟨rfl, -, G2⟩
      go_wp2
      refine bodyPost_ret (v := .tuple #[.slice none 0 0, .bool false]) (by simp [results, Tryz.results111, go_sem]) rfl ?_
      rw [unhide HE]
      exact ⟨⟨_, _, _, rfl⟩, G1.trans G2⟩
    | some sk =>
      obtain ⟨size, k2⟩ := sk
      obtain ⟨c1, c2, c3, c4, c5⟩ := V.put_getH (hbt.drop (p + k1)) h2
      simp only [List.length_drop] at c5
      have HE := hide (Q.blkP_at (n := n) (m := m) h1 h2)
      have H2 := hide h2
      obtain ⟨z, hz⟩ : ∃ z : Nat, size = z := Int.eq_ofNat_of_zero_le c2
      have HZ := hide hz
      clear h1 h2 hb a1 a4 c1 c4 hz
      go_enter Tryz.func111, Tryz.ntmps111
      go_wp2_with fail
      refine (unhide HN).mono ?_
      rintro e w1 ⟨rfl, hb1, G1⟩
      have hs1 := hs.grown G1 hvg
      have HN2 := hide (number_any g _ _ v l (p + k1) w1 hb1 rfl rfl hs1 hbt (by omega) (some (size, k2)) (unhide H2))
      clear hb1
      go_wp2_with fail
      refine (unhide HN2).mono ?_
      rintro e w2 ⟨rfl, hb2, G2⟩
      have hs2 := hs1.grown G2 hvg
      have hb2' : w2.heap[g]? = some (.cells #[v, .int .i64 ((p + k1 + k2 : Nat) : Int)] 152 (0, 0)) := by simpa using hb2
      have HPI := hide (piece_any g _ v l (p + k1 + k2) z size (unhide HZ) w2 hb2' hs2 (by omega) hl hvg)
      have GG2 := G1.trans G2
      clear hb2 hb2' G1 G2 hs1
      go_wp2_with fail
      refine (unhide HPI).mono ?_
      intro e w3 h3
      by_cases hsz : p + k1 + k2 + z ≤ l.length
      · unfold PieEnd at h3
        rw [if_pos hsz] at h3
        obtain ⟨sv, rfl, S3, hb3, G3⟩ := h3
        have GG3 := GG2.trans G3
        obtain ⟨qq, hqq⟩ : ∃ qq, qq = (l.drop (p + k1 + k2)).take z := ⟨_, rfl⟩
        rw [← hqq] at S3
        have hql : qq.length = z := by rw [hqq]; simp; omega
        have hqb : V.Byt qq := by rw [hqq]; exact (hbt.drop _).take _
        obtain ⟨sa, sc, hsv, -⟩ := id S3
        subst hsv
        obtain ⟨W, hW⟩ : ∃ W, W = (w3.alloc (.cells #[.slice sa qq.length sc, .int .i64 0] 152)).alloc (.cells #[.slice sa qq.length sc, .int .i64 0, .int .i64 m] 166) := ⟨_, rfl⟩
        have BW : Below w3.heap.size w3 W := by rw [hW]; exact (below_alloc _ _).alloc (by simp) _
        have bw : W.heap[w3.heap.size + 1]? = some (.cells #[.slice sa qq.length sc, .int .i64 0, .int .i64 m] 166 (0, 0)) := by
          rw [hW]
          have := heap_alloc_new (w3.alloc (.cells #[.slice sa qq.length sc, .int .i64 0] 152)) (.cells #[.slice sa qq.length sc, .int .i64 0, .int .i64 m] 166)
          simpa using this
        have SW := S3.below BW
        have HPS := hide (postings_any (w3.heap.size + 1) (.slice sa qq.length sc) qq m n W bw SW hqb hn hm (fun a n' c' h hn' e => by have := S3.blk a n' c' h hn'; omega))
        have bgW := box_below hb3 BW
        have GGW := GG3.trans (grown_below BW _)
        have hz3 := GG3.size
        have hzW : w.heap.size ≤ W.heap.size := GGW.size
        have HW := hide hW
        have HQQ := hide hqq
        have HQL := hide hql
        have HE2 := hide (show Q.blkP n m l p = (match Q.postN n m qq 0 with | none => none | some (g, e) => if e = z ∧ Q.lastD m g = last then some (g, p + k1 + k2 + z) else none) by
          rw [unhide HE, if_neg (by have := unhide HZ; omega), show size.toNat = z by have := unhide HZ; omega, hqq])
        have HBG := hide bgW
        clear hW bw SW hqq S3 hb3 bgW BW hql
        go_wp2_with fail
        rw [← unhide HW, unhide HX]
        refine (unhide HPS).mono ?_
        have hg2 : w.heap.size ≤ w3.heap.size + 1 := by omega
        have hgne : some g ≠ some (w3.heap.size + 1) := by simp; omega
        intro e w4 h4
        cases h5 : Q.postN n m qq 0 with
        | none =>
          rw [h5] at h4
          obtain ⟨rfl, G4⟩ := h4
          have HE3 := hide (show Q.blkP n m l p = none by rw [unhide HE2, h5])
          clear h5
          go_wp2
          go_quiet (fail)
          go_wp2
          refine bodyPost_ret (v := .tuple #[.slice none 0 0, .bool false]) (by simp [results, Tryz.results111, go_sem]) rfl ?_
          rw [unhide HE3]
          exact ⟨⟨_, _, _, rfl⟩, (grown_own GGW G4 (fun j hj => by simp at hj; omega)).trans (grown_drewN _ _ _)⟩
        | some Ge =>
          obtain ⟨G, e'⟩ := Ge
          rw [h5] at h4
          obtain ⟨v4, cs, rfl, O4, C4, bx4, G4⟩ := h4
          have HE3 := hide (show Q.blkP n m l p = if e' = z ∧ Q.lastD m G = last then some (G, p + k1 + k2 + z) else none by rw [unhide HE2, h5])
          obtain ⟨va, vn, vc, hv4⟩ : ∃ va vn vc, v4 = .slice va vn vc := by
            rcases own_form O4 with ⟨rfl, _⟩ | ⟨g', cap, rfl, -⟩
            · exact ⟨_, _, _, rfl⟩
            · exact ⟨_, _, _, rfl⟩
          subst hv4
          obtain ⟨ld, hld⟩ : ∃ ld, Q.lastD m G = ld := ⟨_, rfl⟩
          rw [hld] at bx4
          have HLD := hide hld
          have y2 : w4.cell? ⟨w3.heap.size + 1, 2, none⟩ = some (.int .i64 ld) := box_cell bx4 rfl
          have GG4 := grown_own GGW G4 (fun j hj => by simp at hj; omega)
          have bg4 := box_grown (unhide HBG) G4 hgne
          have HO4 := hide O4
          have HC4 := hide C4
          have HBG4 := hide bg4
          clear h5 hld O4 C4 bx4 bg4
          obtain ⟨dn, hdn⟩ : ∃ dn, decide (e' = qq.length) = dn := ⟨_, rfl⟩
          rw [hdn]
          have HDN := hide hdn
          clear hdn
          cases dn with
          | false =>
            have hne : ¬ (e' = z) := by
              have := unhide HDN
              rw [unhide HQL] at this
              simpa using this
            have HNE := hide hne
            clear hne
            go_wp2
            go_quiet (fail)
            go_wp2
            refine bodyPost_ret (v := .tuple #[.slice va vn vc, .bool false]) (by simp [results, Tryz.results111, go_sem]) rfl ?_
            rw [unhide HE3, if_neg (fun h => unhide HNE h.1)]
            exact ⟨⟨_, _, _, rfl⟩, GG4.trans (grown_drewN _ _ _)⟩
          | true =>
            have hee : e' = z := by
              have := unhide HDN
              rw [unhide HQL] at this
              simpa using this
            have HEE := hide hee
            clear hee
            by_cases hla : ld = last
            · have t1 : (ld == last) = true := by simpa using hla
              have HLA := hide hla
              clear hla
              go_wp2
              go_quiet (fail)
              go_wp2
              refine bodyPost_ret (v := .tuple #[.slice va vn vc, .bool true]) (by simp [results, Tryz.results111, go_sem]) rfl ?_
              rw [unhide HE3, if_pos ⟨unhide HEE, by rw [unhide HLD, unhide HLA]⟩]
              exact ⟨_, cs, rfl, own_mono (unhide HO4) hzW, (unhide HC4).turn (fun u z h => own_mono h hzW), unhide HBG4, GG4.trans (grown_drewN _ _ _)⟩
            · have t1 : (ld == last) = false := by simpa using hla
              have HLA := hide hla
              clear hla
              go_wp2
              go_quiet (fail)
              go_wp2
              refine bodyPost_ret (v := .tuple #[.slice va vn vc, .bool false]) (by simp [results, Tryz.results111, go_sem]) rfl ?_
              rw [unhide HE3, if_neg (fun h => unhide HLA (by rw [← unhide HLD]; exact h.2))]
              exact ⟨⟨_, _, _, rfl⟩, GG4.trans (grown_drewN _ _ _)⟩
      · unfold PieEnd at h3
        rw [if_neg hsz] at h3
        obtain ⟨rfl, G3⟩ := h3
        go_wp2
        refine bodyPost_ret (v := .tuple #[.slice none 0 0, .bool false]) (by simp [results, Tryz.results111, go_sem]) rfl ?_
        rw [unhide HE, if_pos (by have := unhide HZ; omega)]
        exact ⟨⟨_, _, _, rfl⟩, (GG2.trans G3).trans (World.grownBy_alloc _ _ _)⟩
end Go.Proofs.YtonhehhmnobciaaGreat

/-
  The contract of Unpack: the postings whose bytes these are.
-/
namespace Go.Proofs.YtonhehhmnobciaaGreat
set_option maxRecDepth 100000
open Go.RowKit

theorem Q.blks_none {f c : Nat} {m : Int} {l : List Int} {p : Nat} {pre : List Pt} (h : Q.blkP (min 4 (c + 1)) m l p = none) : Q.onto pre (Q.blksP (f + 1) (c + 1) m l p) = none := by
  rw [Q.blksP, h]
  rfl
theorem Q.blks_some {f c : Nat} {m : Int} {l : List Int} {p p' : Nat} {pre G : List Pt} (h : Q.blkP (min 4 (c + 1)) m l p = some (G, p')) : Q.onto pre (Q.blksP (f + 1) (c + 1) m l p) = Q.onto (pre ++ G) (Q.blksP f (c + 1 - 4) (Q.lastD m G) l p') := by
  rw [Q.blksP, h]
  simp only []
  cases Q.blksP f (c + 1 - 4) (Q.lastD m G) l p' with
  | none => rfl
  | some z => simp [Q.onto]
theorem Q.blks_done {f : Nat} {m : Int} {l : List Int} {p : Nat} {pre : List Pt} : Q.onto pre (Q.blksP f 0 m l p) = some (pre, p) := by
  cases f <;> simp [Q.blksP, Q.onto]

theorem Q.blkP_last {n : Nat} {m : Int} {l : List Int} {p : Nat} {G : List Pt} {e : Nat} (hb : V.Byt l) (h : Q.blkP n m l p = some (G, e)) : 0 ≤ Q.lastD m G ∧ Q.lastD m G ≤ 34359738367 := by
  cases h1 : V.getH 5 (l.drop p) with
  | none => rw [Q.blkP_none1 h1] at h; simp at h
  | some lk =>
    obtain ⟨last, k1⟩ := lk
    obtain ⟨a1, a2, a3, a4, a5⟩ := V.put_getH (hb.drop p) h1
    unfold V.Top at a3
    cases h2 : V.getH 5 (l.drop (p + k1)) with
    | none => rw [Q.blkP_none2 h1 h2] at h; simp at h
    | some sk =>
      obtain ⟨size, k2⟩ := sk
      rw [Q.blkP_at h1 h2] at h
      split at h
      · simp at h
      · cases h3 : Q.postN n m ((l.drop (p + k1 + k2)).take size.toNat) 0 with
        | none => rw [h3] at h; simp at h
        | some Ge =>
          obtain ⟨G', e'⟩ := Ge
          rw [h3] at h
          simp only [] at h
          split at h
          · rename_i hc
            simp at h
            obtain ⟨rfl, rfl⟩ := h
            rw [hc.2]
            exact ⟨a2, a3⟩
          · simp at h

theorem Q.unp_none {l : List Int} (h : V.getH 5 l = none) : Q.unpA l = [] ∧ Q.unpE l = 5 := by simp [Q.unpA, Q.unpE, Q.unp, h]
theorem Q.unp_many {l : List Int} {n : Int} {k : Nat} (h : V.getH 5 l = some (n, k)) (hn : 64 < n) : Q.unpA l = [] ∧ Q.unpE l = 5 := by simp [Q.unpA, Q.unpE, Q.unp, h, hn]
theorem Q.unp_bad {l : List Int} {n : Int} {k : Nat} (h : V.getH 5 l = some (n, k)) (hn : ¬ 64 < n) (hb : Q.blksP 17 n.toNat (-1) l k = none) : Q.unpA l = [] ∧ Q.unpE l = 5 := by simp [Q.unpA, Q.unpE, Q.unp, h, hn, hb]
theorem Q.unp_not {l : List Int} {n : Int} {k e : Nat} {L : List Pt} (h : V.getH 5 l = some (n, k)) (hn : ¬ 64 < n) (hb : Q.blksP 17 n.toNat (-1) l k = some (L, e)) (hc : ¬ (e = l.length ∧ Q.may L = true)) : Q.unpA l = [] ∧ Q.unpE l = 5 := by
  have : Q.unp l = none := by
    unfold Q.unp
    rw [h]
    simp only []
    rw [if_neg hn, hb]
    simp only []
    rw [if_neg hc]
  simp [Q.unpA, Q.unpE, this]
theorem Q.unp_is {l : List Int} {n : Int} {k e : Nat} {L : List Pt} (h : V.getH 5 l = some (n, k)) (hn : ¬ 64 < n) (hb : Q.blksP 17 n.toNat (-1) l k = some (L, e)) (hc : e = l.length ∧ Q.may L = true) : Q.unpA l = L ∧ Q.unpE l = 0 := by
  have : Q.unp l = some L := by
    unfold Q.unp
    rw [h]
    simp only []
    rw [if_neg hn, hb]
    simp only []
    rw [if_pos hc]
  simp [Q.unpA, Q.unpE, this]

/-- What Unpack answers. -/
def UnpEnd (w : World) (l : List Int) (e : Ending) (w' : World) : Prop :=
  ∃ v', e = .returned (.tuple #[v', .int .i64 (Q.unpE l)]) ∧ PlO w.heap.size w' v' (Q.unpA l) ∧ Below w.heap.size w w'

theorem unp_end {w w' : World} {l : List Int} (h : Q.unpA l = [] ∧ Q.unpE l = 5) (hb : Below w.heap.size w w') : UnpEnd w l (.returned (.tuple #[.slice none 0 0, .int .i64 5])) w' :=
  ⟨_, by rw [h.2], by rw [h.1]; exact PlO.nil _ _, hb⟩

theorem below_box {w W0 w1 : World} (b0 : Below w.heap.size w W0) (G1 : W0.grownBy w1 (some w.heap.size)) : Below w.heap.size w w1 := b0.trans (below_of_grown G1 (Nat.le_refl _) b0.size)

set_option maxHeartbeats 8000000 in
set_option maxRecDepth 100000 in
theorem punpack_any (v : Value) (l : List Int) (w : World) (hs : Sl .u8 w v l) (hbt : V.Byt l) (hl : l.length ≤ 1000000) :
    Calls Tryz.prog 91 #[v] w fun e w' => UnpEnd w l e w' := by
  obtain ⟨W0, hW0⟩ : ∃ W0, W0 = w.alloc (.cells #[v, .int .i64 0] 152) := ⟨_, rfl⟩
  have b0 : Below w.heap.size w W0 := by rw [hW0]; exact below_alloc _ _
  have hb0 : W0.heap[w.heap.size]? = some (.cells #[v, .int .i64 0] 152 (0, 0)) := by rw [hW0]; exact heap_alloc_new w _
  have hs0 := hs.below b0
  have hvg : ∀ a n c, v = .slice (some a) n c → 0 < n → a.block ≠ w.heap.size := fun a n c h hn e => by have := hs.blk a n c h hn; omega
  have HW0 := hide hW0
  obtain ⟨va, vc, hv, -⟩ := id hs
  subst hv
  clear hW0
  cases h1 : V.getH 5 l with
  | none =>
    have HN := hide (number_any w.heap.size _ _ _ l 0 W0 hb0 rfl rfl hs0 hbt (Nat.zero_le _) none h1)
    have HU := hide (Q.unp_none h1)
    clear h1 hb0
    go_enter Tryz.func91, Tryz.ntmps91
    go_wp2_with fail
    rw [← unhide HW0]
    refine (unhide HN).mono ?_
    rintro e w1 ⟨rfl, -, G1⟩
    go_wp2
    exact bodyPost_ret (v := .tuple #[.slice none 0 0, .int .i64 5]) (by simp [results, Tryz.results91, go_sem]) rfl (unp_end (unhide HU) (below_box b0 G1))
  | some nk =>
    obtain ⟨n, k⟩ := nk
    obtain ⟨a1, a2, a3, a4, a5⟩ := V.put_getH hbt h1
    have HN := hide (number_any w.heap.size _ _ _ l 0 W0 hb0 rfl rfl hs0 hbt (Nat.zero_le _) (some (n, k)) h1)
    by_cases hn : 64 < n
    · have HU := hide (Q.unp_many h1 hn)
      clear h1 hb0 a1 a4
      go_enter Tryz.func91, Tryz.ntmps91
      go_wp2_with fail
      rw [← unhide HW0]
      refine (unhide HN).mono ?_
      rintro e w1 ⟨rfl, -, G1⟩
      go_wp2
      exact bodyPost_ret (v := .tuple #[.slice none 0 0, .int .i64 5]) (by simp [results, Tryz.results91, go_sem]) rfl (unp_end (unhide HU) (below_box b0 G1))
    · have HUB := hide (Q.unp_bad h1 hn)
      have HUN := hide (fun e L => Q.unp_not (e := e) (L := L) h1 hn)
      have HUI := hide (fun e L => Q.unp_is (e := e) (L := L) h1 hn)
      obtain ⟨N, hN⟩ : ∃ N : Nat, n = N := Int.eq_ofNat_of_zero_le a2
      have hN64 : N ≤ 64 := by omega
      have hnt : n.toNat = N := by omega
      rw [hnt] at HUB HUN HUI
      subst hN
      clear h1 hb0 a1 a4 a2 a3 hnt
      go_enter Tryz.func91, Tryz.ntmps91
      go_wp2_with fail
      rw [← unhide HW0]
      refine (unhide HN).mono ?_
      rintro e w1 ⟨rfl, hb1, G1⟩
      have hb1' : w1.heap[w.heap.size]? = some (.cells #[.slice va l.length vc, .int .i64 (k : Int)] 152 (0, 0)) := by simpa using hb1
      have BB1 := below_box b0 G1
      have HB1 := hide hb1'
      clear hb1 hb1'
      go_wp2
      go_loopw [7, 8, 9] (fun ov av iv wr => ∃ (j fr p : Nat) (pre : List Pt) (m : Int) (cs : List Value), Hid (fr = 4 * j) ∧ fr ≤ N + 3 ∧ iv = .int .i64 fr ∧ av = .int .i64 m ∧ p ≤ l.length ∧ pre.length ≤ fr ∧ (-1 ≤ m ∧ m ≤ 34359738367) ∧ Hid (Q.blksP 17 N (-1) l k = Q.onto pre (Q.blksP (17 - j) (N - fr) m l p)) ∧
          wr.ownsRow w.heap.size 95 2 ov pre.length cs ∧ PCp (Pa w.heap.size wr) cs pre ∧ Hid (wr.heap[w.heap.size]? = some (.cells #[.slice va l.length vc, .int .i64 (p : Int)] 152 (0, 0))) ∧ Below w.heap.size w wr) (fun _ _ iv _ => N + 4 - (intOf iv).toNat)
      case atStart => exact ⟨0, 0, k, [], -1, [], hide rfl, by omega, rfl, rfl, a5, by simp, by omega, hide (by rw [Q.onto_nil]; rfl), World.ownsRow_nil _ _ _ _, trivial, HB1, BB1⟩
      case round =>
        obtain ⟨j, fr, p, pre, m, cs, HFR, hfl, rfl, rfl, hp, hpl, hmm, HON, hown, hpc, HBX, hbel⟩ := hrel
        have hsr := hs.below hbel
        have hwz := hbel.size
        by_cases hlt : fr < N
        · have hlt' : (fr : Int) < (N : Int) := by omega
          have hpl2 : pre.length ≤ 64 := by omega
          have kp : ∀ {e : TypeId} {K : Nat} {u : Value} {z : Nat} {xs : List Value} {w1 : World}, wr.ownsRow w.heap.size e K u z xs → 152 ≠ e → wr.grownBy w1 (some w.heap.size) → w1.ownsRow w.heap.size e K u z xs := fun {e K u z xs w1} o ne gg => by
            refine o.kept gg ?_
            exact .inr fun ee => own_ne_box o (unhide HBX) ne ee.symm
          have hwg : w.heap.size < wr.heap.size := (Array.getElem?_eq_some_iff.1 (unhide HBX)).1
          have HNX := hide (next_any w.heap.size _ l p (min 4 (N - fr)) m wr (unhide HBX) hsr hbt hp hl (by omega) (by omega) hvg)
          have HN2 := hide (unhide HNX (min 4 ((N : Int) - (fr : Int))) (by omega))
          clear HNX
          cases h2 : Q.blkP (min 4 (N - fr)) m l p with
          | none =>
            have HK := hide (unhide HUB (by rw [unhide HON, show 17 - j = 16 - j + 1 by have := unhide HFR; omega, show N - fr = N - fr - 1 + 1 by omega]; exact Q.blks_none (by rw [show N - fr - 1 + 1 = N - fr by omega]; exact h2)))
            have HN3 := unhide HN2
            rw [h2] at HN3
            have HN4 := hide HN3
            clear HN3 HN2 h2
            go_wp2_with fail
            refine (unhide HN4).mono ?_
            rintro e w2 ⟨⟨xa, xn, xc, rfl⟩, G2⟩
            go_wp2
            exact bodyPost_ret (v := .tuple #[.slice none 0 0, .int .i64 5]) (by simp [results, Tryz.results91, go_sem]) rfl (unp_end (unhide HK) (hbel.trans (below_of_grown G2 (Nat.le_refl _) hwz)))
          | some Gp =>
            obtain ⟨G, p'⟩ := Gp
            obtain ⟨b1, b2, b3, b4⟩ := Q.blkP_back hbt h2
            obtain ⟨d1, d2⟩ := Q.blkP_last hbt h2
            have HO2 := hide (show Q.blksP 17 N (-1) l k = Q.onto (pre ++ G) (Q.blksP (17 - (j + 1)) (N - (fr + 4)) (Q.lastD m G) l p') by
              rw [unhide HON, show 17 - j = 16 - j + 1 by have := unhide HFR; omega, show N - fr = N - fr - 1 + 1 by omega, Q.blks_some (by rw [show N - fr - 1 + 1 = N - fr by omega]; exact h2), show 17 - (j + 1) = 16 - j by omega, show N - fr - 1 + 1 - 4 = N - (fr + 4) by omega])
            have HN3 := unhide HN2
            rw [h2] at HN3
            have HN4 := hide HN3
            obtain ⟨gn, hgn⟩ : ∃ gn, gn = G.length := ⟨_, rfl⟩
            have hgn1 : 1 ≤ gn ∧ gn ≤ 4 ∧ fr + gn ≤ N := by omega
            obtain ⟨q, hq⟩ : ∃ q, G[gn - 1]? = some q := ⟨G[gn - 1]'(by omega), List.getElem?_eq_getElem (by omega)⟩
            have hlast : Q.lastD m G = q.d := Q.lastD_at (by rw [← hgn]; exact hq)
            have HGN := hide hgn
            have HLA := hide hlast
            have HQ := hide hq
            clear HN3 HN2 h2 b1 b4 hgn hlast hq
            go_wp2_with fail
            refine (unhide HN4).mono ?_
            rintro e w2 ⟨v2, ds, rfl, O2, C2, bx2, G2⟩
            have O2o := kp hown (by decide) G2
            have C2o := hpc.turn (fun u z h => kp h (by decide) G2)
            have F2 : Far u7 v2 := Far.new hown O2 (Nat.le_refl _)
            have C2m : PCp (Pa w.heap.size w2) ds G := C2.turn (fun u z h => own_mono h hwz)
            have CL2 := Cl.owned O2
            obtain ⟨ga, gc, hv2⟩ : ∃ ga gc, v2 = .slice (some ⟨ga, 0, none⟩) gn gc := by
              rcases own_form O2 with ⟨rfl, h0⟩ | ⟨g', cap, rfl, -⟩
              · exact absurd h0 (by have := unhide HGN; omega)
              · exact ⟨g', cap, by rw [unhide HGN]⟩
            subst hv2
            have BB2 := hbel.trans (below_of_grown G2 (Nat.le_refl _) hwz)
            have HBX2 := hide bx2
            have HO2r := hide O2
            obtain ⟨ld, hld⟩ : ∃ ld, ld = Q.lastD m G := ⟨_, rfl⟩
            have hds : ds[(gn - 1) * 2]? = some (.int .i64 ld) := by
              obtain ⟨-, h0, -, -⟩ := C2m.at (gn - 1) q (unhide HQ)
              rw [h0, hld, unhide HLA]
            have HDS := hide hds
            rw [← hld] at d1 d2
            have HLD := hide hld
            have HO2o := hide O2o
            have HKA := hide (fun u z (h : Pa w.heap.size w2 u z) => own_apart h O2o (by decide : (3 : TypeId) ≠ 95))
            clear O2 C2 bx2 kp hown hpc hds hld
            go_wp2_with (at_builtin; refine append_posts_c Pa.one rfl (.tmp 40) (.tmp 41) rfl rfl rfl CL2 C2m O2o C2o BB2.size (by have := unhide HGN; omega) ?_; intro v3 w3 O3 C3 G3; have Og := Far.kept F2 (unhide HO2r) G3; have cg := (own_room (by rw [← unhide HGN] at Og; exact Og)).2.2.1 _ _ (unhide HDS))
            have C4 : PCp (Pa w.heap.size w3) (cs ++ ds) (pre ++ G) := C3.turn (fun u z h => World.ownsRow.kept h G3 (unhide HKA u z h))
            have bx3 := box_grown (unhide HBX2) G3 (own_ne_box (unhide HO2o) (unhide HBX2) (by decide))
            have BB3 := BB2.grown G3 BB2.size (fun j hj => ((unhide HO2o).lt j hj).1)
            go_roundw
            case rel => exact ⟨j + 1, fr + 4, p', pre ++ G, ld, cs ++ ds, hide (by have := unhide HFR; omega), by omega, by go_num, rfl, b3, by rw [List.length_append, ← unhide HGN]; omega, by omega, hide (by rw [unhide HLD]; exact unhide HO2), O3, C4, hide bx3, BB3⟩
            case measure => simp [intOf]; omega
        · have HBK := hide (show Q.blksP 17 N (-1) l k = some (pre, p) by rw [unhide HON, show N - fr = 0 by omega, Q.blks_done])
          have hlt' : ¬ ((fr : Int) < (N : Int)) := by omega
          have HDN := hide (done_any w.heap.size _ _ _ l p wr (unhide HBX) rfl rfl hsr)
          have PLr : PlO w.heap.size wr u7 pre := ⟨cs, hown, hpc⟩
          obtain ⟨oa, on, oc, hov⟩ : ∃ oa on oc, u7 = .slice oa on oc := by
            rcases own_form hown with ⟨rfl, h0⟩ | ⟨g', cap, rfl, -⟩
            · exact ⟨_, _, _, rfl⟩
            · exact ⟨_, _, _, rfl⟩
          subst hov
          obtain ⟨dn, hdn⟩ : ∃ dn, decide (p = l.length) = dn := ⟨_, rfl⟩
          have HDD := hide hdn
          clear hdn hown hpc
          cases dn with
          | false =>
            have HF := hide (unhide HUN p pre (unhide HBK) (fun h => by have h2 := unhide HDD; simp at h2; exact h2 h.1))
            go_wp2_with (go_at_call 112; refine (unhide HDN).mono ?_; rintro e w2 ⟨rfl, B2⟩; rw [unhide HDD])
            exact bodyPost_ret (v := .tuple #[.slice none 0 0, .int .i64 5]) (by simp [results, Tryz.results91, go_sem]) rfl (unp_end (unhide HF) (below_trans' hbel B2))
          | true =>
            obtain ⟨mb, hmb⟩ : ∃ mb, Q.may pre = mb := ⟨_, rfl⟩
            have HM := hide hmb
            clear hmb
            cases mb with
            | false =>
              have HF := hide (unhide HUN p pre (unhide HBK) (fun h => by have h2 := unhide HM; rw [h2] at h; simp at h))
              go_wp2_with (first
                | (go_at_call 112; refine (unhide HDN).mono ?_; rintro e w2 ⟨rfl, B2⟩; rw [unhide HDD]; have PL2 := PLr.below B2)
                | (go_at_call 52; refine (pmay_any _ _ _ PL2.pl).mono ?_; rintro e w3 ⟨rfl, B3⟩; rw [unhide HM]))
              exact bodyPost_ret (v := .tuple #[.slice none 0 0, .int .i64 5]) (by simp [results, Tryz.results91, go_sem]) rfl (unp_end (unhide HF) (below_trans' (below_trans' hbel B2) B3))
            | true =>
              have HF := hide (unhide HUI p pre (unhide HBK) ⟨by have h2 := unhide HDD; simpa using h2, unhide HM⟩)
              go_wp2_with (first
                | (go_at_call 112; refine (unhide HDN).mono ?_; rintro e w2 ⟨rfl, B2⟩; rw [unhide HDD]; have PL2 := PLr.below B2)
                | (go_at_call 52; refine (pmay_any _ _ _ PL2.pl).mono ?_; rintro e w3 ⟨rfl, B3⟩; rw [unhide HM]))
              exact bodyPost_ret (v := .tuple #[.slice oa on oc, .int .i64 0]) (by simp [results, Tryz.results91, go_sem]) rfl ⟨_, by rw [(unhide HF).2], by rw [(unhide HF).1]; exact PL2.below B3, below_trans' (below_trans' hbel B2) B3⟩
end Go.Proofs.YtonhehhmnobciaaGreat

/-
  The contracts of what pack reads of bytes: flag, number, piece, words, postings.
-/
namespace Go.Proofs.YtonhehhmnobciaaGreat
set_option maxRecDepth 100000
open Go.RowKit

/-- A source in its box. -/
def Sb (g N : Nat) (w : World) (s : Sr) : Prop :=
  ∃ a cap, w.heap[g]? = some (.cells #[.slice a s.left.length cap, .bool s.bad] 62 (0, 0)) ∧ Sl .u8 w (.slice a s.left.length cap) s.left ∧ V.Byt s.left ∧ s.left.length ≤ 1000000 ∧ ∀ x, a = some x → x.block < N

theorem Sb.ne {g : Nat} {w : World} {a : Option Addr} {n cap : Nat} {bad : Bool} {l : List Int} (hb : w.heap[g]? = some (.cells #[.slice a n cap, .bool bad] 62 (0, 0))) {v : Value} (h : Sl .u8 w v l) : ∀ x n c, v = .slice (some x) n c → 0 < n → x.block ≠ g := by
  intro x n' c hv hn e
  subst hv
  obtain ⟨a', cap', hv', hl, hm, hna, hc⟩ := h
  simp only [Value.slice.injEq] at hv'
  obtain ⟨rfl, rfl, rfl⟩ := hv'
  have h0 := hc x rfl 0 hn
  obtain ⟨bl, off, sp⟩ := x
  simp only at e
  subst e
  have hsp : sp = none := by simpa [Addr.add] using World.cell?_spot h0
  subst hsp
  simp only [Addr.add_lit, Nat.add_zero, World.cell?, hb] at h0
  rcases off with _ | _ | off
  · simp at h0
  · simp at h0
  · simp at h0

theorem Sb.mk {g N : Nat} {w w' : World} {a a' : Option Addr} {n cap cap' : Nat} {bad : Bool} {s' : Sr} (hb : w.heap[g]? = some (.cells #[.slice a n cap, .bool bad] 62 (0, 0))) (hs : Sl .u8 w (.slice a' s'.left.length cap') s'.left) (hbt : V.Byt s'.left) (hll : s'.left.length ≤ 1000000) (hN : ∀ x, a' = some x → x.block < N)
    (hg : w.grownBy w' (some g)) (hb' : w'.heap[g]? = some (.cells #[.slice a' s'.left.length cap', .bool s'.bad] 62 (0, 0))) : Sb g N w' s' :=
  ⟨a', cap', hb', hs.grown hg (Sb.ne hb hs), hbt, hll, hN⟩

theorem run_by_from (a : Option Addr) (n cap m : Nat) (x : Int) (hx : x = m) (hm : m ≤ n) (w : World) :
    (Instr.slice 33 (.slice a n cap) (some (.int .i64 x)) none none).run Tryz.prog w = .ok (sliced a m n cap 1) w := by
  subst hx
  have hs : ∀ w : World, (sizeOf (Tryz.prog.elem 33)).run Tryz.prog w = .ok 1 w := fun w => by kernel_rfl
  rw [run_slice_l w 33 _ n cap (by kernel_rfl) .i64 m (by omega) (by omega), hs]
  simp [Result.andThen]
theorem run_by_to (a : Option Addr) (n cap m : Nat) (x : Int) (hx : x = m) (hm : m ≤ cap) (w : World) :
    (Instr.slice 33 (.slice a n cap) none (some (.int .i64 x)) none).run Tryz.prog w = .ok (sliced a 0 m cap 1) w := by
  subst hx
  have hs : ∀ w : World, (sizeOf (Tryz.prog.elem 33)).run Tryz.prog w = .ok 1 w := fun w => by kernel_rfl
  rw [run_slice_h w 33 _ n cap (by kernel_rfl) .i64 m (by omega) (by omega), hs]
  simp [Result.andThen]

theorem sliced_block {a a' : Option Addr} {lo hi cap n c : Nat} (h : sliced a lo hi cap 1 = .slice a' n c) : ∀ N, (∀ x, a = some x → x.block < N) → ∀ x, a' = some x → x.block < N := by
  intro N hN x hx
  subst hx
  unfold sliced at h
  simp only [Value.slice.injEq] at h
  obtain ⟨h1, -, -⟩ := h
  split at h1
  · exact hN x h1
  · cases a with
    | none => simp at h1
    | some y =>
      simp only [Option.map_some, Option.some.injEq] at h1
      have := hN y rfl
      rw [← h1]
      have hb : (y.add (lo * 1)).block = y.block := by unfold Addr.add; split <;> rfl
      rw [hb]
      exact this
theorem sl_drop {w : World} {a : Option Addr} {cap : Nat} {l : List Int} (h : Sl .u8 w (.slice a l.length cap) l) (k : Nat) (hk : k ≤ l.length) : ∃ a' cap', sliced a k l.length cap 1 = .slice a' (l.drop k).length cap' ∧ Sl .u8 w (.slice a' (l.drop k).length cap') (l.drop k) ∧ ∀ N, (∀ x, a = some x → x.block < N) → ∀ x, a' = some x → x.block < N := by
  have h1 := h.cut k l.length hk (Nat.le_refl _)
  rw [drop_take_all] at h1
  obtain ⟨a', cap', hv, -⟩ := id h1
  rw [hv] at h1
  exact ⟨a', cap', hv, h1, sliced_block hv⟩
theorem sl_take {w : World} {a : Option Addr} {cap : Nat} {l : List Int} (h : Sl .u8 w (.slice a l.length cap) l) (k : Nat) (hk : k ≤ l.length) : ∃ a' cap', sliced a 0 k cap 1 = .slice a' (l.take k).length cap' ∧ Sl .u8 w (.slice a' (l.take k).length cap') (l.take k) := by
  have h1 := h.cut 0 k (Nat.zero_le _) hk
  rw [List.drop_zero, Nat.sub_zero] at h1
  obtain ⟨a', cap', hv, -⟩ := id h1
  rw [hv] at h1
  exact ⟨a', cap', hv, h1⟩

set_option maxHeartbeats 1000000 in
theorem num9_any (g N : Nat) (s : Sr) (w : World) (h : Sb g N w s) :
    Calls Tryz.prog 58 #[.pointer (some ⟨g, 0, none⟩)] w fun e w' => e = .returned (.int .i64 (J.number s).1) ∧ Sb g N w' (J.number s).2 ∧ w.grownBy w' (some g) := by
  obtain ⟨a, cap, hb, hs, hbt, hll, hN⟩ := h
  have q0 : w.cell? ⟨g, 0, none⟩ = some (.slice a s.left.length cap) := box_cell hb rfl
  have q1 : w.cell? ⟨g, 1, none⟩ = some (.bool s.bad) := box_cell hb rfl
  have f0 := box_frozen hb 0
  have f1 := box_frozen hb 1
  have HB := hide hb
  cases hg : V.getH 5 s.left with
  | none =>
    have hn : J.number s = (0, ⟨s.left, true⟩) := by unfold J.number; rw [hg]
    have HG := hide (get_q _ s.left 0 w hs hbt 0 0 5 (get_none (p := 0) (Nat.zero_le _) hg))
    rw [hn]
    clear hn hg hb
    go_enter Tryz.func58, Tryz.ntmps58
    go_wp2_with fail
    refine (unhide HG).mono ?_
    rintro e w1 ⟨rfl, rfl⟩
    go_wp2
    go_ret
    exact ⟨rfl, Sb.mk (s' := ⟨s.left, true⟩) (unhide HB) hs hbt hll hN (grown_set _ ⟨g, 1, none⟩ _) (box_set (unhide HB) 1 _), grown_set _ ⟨g, 1, none⟩ _⟩
  | some nk =>
    obtain ⟨n, k⟩ := nk
    have hn : J.number s = (n, ⟨s.left.drop k, s.bad⟩) := by unfold J.number; rw [hg]
    have hk := (V.put_getH hbt hg).2.2.2.2
    have HG := hide (get_q _ s.left 0 w hs hbt n ((0 : Int) + k) 0 (get_some (p := 0) (Nat.zero_le _) hg))
    obtain ⟨a', cap', hv', hs', hB'⟩ := sl_drop hs k hk
    have R1 : ∀ x : Int, x = k → ∀ w', (Instr.slice 33 (.slice a s.left.length cap) (some (.int .i64 x)) none none).run Tryz.prog w' = .ok (.slice a' (s.left.drop k).length cap') w' := fun x hx w' => by rw [← hv']; exact run_by_from a _ cap k x hx hk w'
    have R2 := R1 ((0 : Int) + k) (by omega)
    have R3 := R1 (k : Int) rfl
    obtain ⟨m, hm⟩ : ∃ m, (s.left.drop k).length = m := ⟨_, rfl⟩
    have HS := hide hs'
    have HM := hide hm
    rw [hm] at R2 R3
    rw [hn]
    clear hn hg hb hv' R1 hs' hm
    go_enter Tryz.func58, Tryz.ntmps58
    go_wp2_with fail
    refine (unhide HG).mono ?_
    rintro e w1 ⟨rfl, rfl⟩
    go_wp2
    go_ret
    exact ⟨rfl, Sb.mk (s' := ⟨s.left.drop k, s.bad⟩) (unhide HB) (unhide HS) (hbt.drop k) (by simp; omega) (hB' N hN) (grown_set _ ⟨g, 0, none⟩ _) (by rw [show ((⟨s.left.drop k, s.bad⟩ : Sr).left.length) = m from unhide HM]; exact box_set (unhide HB) 0 _), grown_set _ ⟨g, 0, none⟩ _⟩

theorem J.number_range {s : Sr} (hb : V.Byt s.left) : 0 ≤ (J.number s).1 ∧ (J.number s).1 ≤ 34359738367 := by
  unfold J.number
  cases hg : V.getH 5 s.left with
  | none => simp
  | some nk =>
    obtain ⟨n, k⟩ := nk
    obtain ⟨-, h1, h2, -⟩ := V.put_getH hb hg
    exact ⟨h1, by unfold V.Top at h2; exact h2⟩
theorem J.number_short (s : Sr) : (J.number s).2.left.length ≤ s.left.length := by
  unfold J.number
  split <;> simp

set_option maxHeartbeats 1000000 in
theorem cut9_any (g N : Nat) (s : Sr) (w : World) (h : Sb g N w s) :
    Calls Tryz.prog 61 #[.pointer (some ⟨g, 0, none⟩)] w fun e w' => ∃ v', e = .returned v' ∧ Sl .u8 w' v' (J.cut s).1 ∧ V.Byt (J.cut s).1 ∧ (J.cut s).1.length ≤ 1000000 ∧ Sb g N w' (J.cut s).2 ∧ w.grownBy w' (some g) := by
  have hnr := J.number_range h.choose_spec.choose_spec.2.2.1
  have CN := num9_any g N s w h
  obtain ⟨r, hr⟩ : ∃ r, J.cut s = r := ⟨_, rfl⟩
  rw [hr]
  unfold J.cut at hr
  obtain ⟨n, hn⟩ : ∃ n, (J.number s).1 = n := ⟨_, rfl⟩
  obtain ⟨s1, hs1⟩ : ∃ s1, (J.number s).2 = s1 := ⟨_, rfl⟩
  rw [hn, hs1] at hr CN
  rw [hn] at hnr
  have HR := hide hr
  clear hr hn hs1 h
  go_enter Tryz.func61, Tryz.ntmps61
  go_wp2_with fail
  refine CN.mono ?_
  rintro e w1 ⟨rfl, ⟨a, cap, hb, hs, hbt, hll, hN⟩, G1⟩
  have q0 : w1.cell? ⟨g, 0, none⟩ = some (.slice a s1.left.length cap) := box_cell hb rfl
  have q1 : w1.cell? ⟨g, 1, none⟩ = some (.bool s1.bad) := box_cell hb rfl
  have f0 := box_frozen hb 0
  have f1 := box_frozen hb 1
  have HB := hide hb
  clear hb CN
  by_cases hc : (s1.left.length : Int) < n
  · go_wp2
    go_ret
    have e := unhide HR
    rw [if_pos hc] at e
    rw [← e]
    exact ⟨_, rfl, Sl.nil _ _, (fun c hc => by cases hc), Nat.zero_le _, Sb.mk (s' := ⟨s1.left, true⟩) (unhide HB) hs hbt hll hN (grown_set _ ⟨g, 1, none⟩ _) (box_set (unhide HB) 1 _), G1.trans (grown_set _ ⟨g, 1, none⟩ _)⟩
  · obtain ⟨k, rfl⟩ := Int.eq_ofNat_of_zero_le hnr.1
    have hk : k ≤ s1.left.length := by omega
    obtain ⟨a', cap', hv', hs', hB'⟩ := sl_drop hs k hk
    obtain ⟨a2, cap2, hv2, hs2⟩ := sl_take hs k hk
    have hcl : s1.left.length ≤ cap := by obtain ⟨_, _, hv, hl, -⟩ := id hs; simp only [Value.slice.injEq] at hv; obtain ⟨-, -, rfl⟩ := hv; exact hl
    have R1 : ∀ w', (Instr.slice 33 (.slice a s1.left.length cap) (some (.int .i64 (k : Int))) none none).run Tryz.prog w' = .ok (.slice a' (s1.left.drop k).length cap') w' := fun w' => by rw [← hv']; exact run_by_from a _ cap k _ rfl hk w'
    have R2 : ∀ w', (Instr.slice 33 (.slice a s1.left.length cap) none (some (.int .i64 (k : Int))) none).run Tryz.prog w' = .ok (.slice a2 (s1.left.take k).length cap2) w' := fun w' => by rw [← hv2]; exact run_by_to a _ cap k _ rfl (by omega) w'
    obtain ⟨m, hm⟩ : ∃ m, (s1.left.drop k).length = m := ⟨_, rfl⟩
    obtain ⟨m2, hm2⟩ : ∃ m2, (s1.left.take k).length = m2 := ⟨_, rfl⟩
    have hm3 : m2 ≤ 1000000 := by rw [← hm2]; simp; omega
    rw [hm] at R1
    rw [hm2] at R2
    have HS := hide hs'
    have HS2 := hide hs2
    have HM := hide hm
    have HM2 := hide hm2
    clear hs' hs2 hm hm2 hv' hv2
    go_wp2
    go_ret
    have e := unhide HR
    rw [if_neg (by omega)] at e
    rw [← e]
    refine ⟨_, rfl, ?_, hbt.take _, by rw [Int.toNat_natCast, unhide HM2]; exact hm3, Sb.mk (s' := ⟨s1.left.drop k, s1.bad⟩) (unhide HB) (unhide HS) (hbt.drop k) (by simp; omega) (hB' N hN) (grown_set _ ⟨g, 0, none⟩ _) (by rw [show ((⟨s1.left.drop k, s1.bad⟩ : Sr).left.length) = m from unhide HM]; exact box_set (unhide HB) 0 _), G1.trans (grown_set _ ⟨g, 0, none⟩ _)⟩
    rw [← unhide HM2]
    exact (unhide HS2).grown (grown_set _ ⟨g, 0, none⟩ _) (Sb.ne (unhide HB) (unhide HS2))

set_option maxHeartbeats 1000000 in
theorem flag9_any (g N : Nat) (s : Sr) (w : World) (h : Sb g N w s) :
    Calls Tryz.prog 57 #[.pointer (some ⟨g, 0, none⟩)] w fun e w' => e = .returned (.bool (J.flag s).1) ∧ Sb g N w' (J.flag s).2 ∧ w.grownBy w' (some g) := by
  obtain ⟨a, cap, hb, hs, hbt, hll, hN⟩ := h
  have q0 : w.cell? ⟨g, 0, none⟩ = some (.slice a s.left.length cap) := box_cell hb rfl
  have q1 : w.cell? ⟨g, 1, none⟩ = some (.bool s.bad) := box_cell hb rfl
  have f0 := box_frozen hb 0
  have f1 := box_frozen hb 1
  have HB := hide hb
  clear hb
  cases hl : s.left with
  | nil =>
    have g0 : ((s.left.length : Int) == 0) = true := by rw [hl]; rfl
    have hfl : J.flag s = (false, ⟨s.left, true⟩) := by unfold J.flag; rw [hl]
    rw [hfl]
    clear hfl hl
    go_enter Tryz.func57, Tryz.ntmps57
    go_wp2
    go_ret
    exact ⟨rfl, Sb.mk (s' := ⟨s.left, true⟩) (unhide HB) hs hbt hll hN (grown_set _ ⟨g, 1, none⟩ _) (box_set (unhide HB) 1 _), grown_set _ ⟨g, 1, none⟩ _⟩
  | cons c r =>
    have hpos : 0 < s.left.length := by rw [hl]; simp
    have g0 : ((s.left.length : Int) == 0) = false := beq_eq_false_iff_ne.2 (by omega)
    have hc0 : 0 ≤ c ∧ c ≤ 255 := hbt c (by rw [hl]; simp)
    obtain ⟨a', cap', hv, -, -, -, ho⟩ := hs.open
    simp only [Value.slice.injEq, true_and] at hv
    obtain ⟨rfl, rfl⟩ := hv
    obtain ⟨b, off, rfl, hbl, hcc⟩ := ho hpos
    have c0 : w.cell? ⟨b, off, none⟩ = some (.int .u8 c) := by
      have := hcc 0 hpos
      rw [Nat.add_zero] at this
      rw [this]
      simp [List.getD, hl]
    have hdr : s.left.drop 1 = r := by rw [hl]; rfl
    clear hcc ho
    by_cases h1 : 1 < c
    · have hfl : J.flag s = (false, ⟨s.left, true⟩) := by unfold J.flag; rw [hl]; simp only; rw [if_pos h1]
      rw [hfl]
      clear hfl hl hdr
      go_enter Tryz.func57, Tryz.ntmps57
      go_wp2
      go_ret
      exact ⟨rfl, Sb.mk (s' := ⟨s.left, true⟩) (unhide HB) hs hbt hll hN (grown_set _ ⟨g, 1, none⟩ _) (box_set (unhide HB) 1 _), grown_set _ ⟨g, 1, none⟩ _⟩
    · have hfl : J.flag s = (decide (c = 1), ⟨s.left.drop 1, s.bad⟩) := by unfold J.flag; rw [hl]; simp only; rw [if_neg h1]; rfl
      obtain ⟨s2, hs2⟩ : ∃ s2 : Sr, s2 = ⟨s.left.drop 1, s.bad⟩ := ⟨_, rfl⟩
      rw [hfl, ← hs2]
      have HE := hide hs2
      obtain ⟨a3, cap3, hv3, hs3, hB'⟩ := sl_drop hs 1 hpos
      have R1 : ∀ w', (Instr.slice 33 (.slice (some ⟨b, off, none⟩) s.left.length cap) (some (.int .i64 1)) none none).run Tryz.prog w' = .ok (.slice a3 (s.left.drop 1).length cap3) w' := fun w' => by rw [← hv3]; exact run_by_from _ _ cap 1 _ rfl hpos w'
      obtain ⟨m, hm⟩ : ∃ m, (s.left.drop 1).length = m := ⟨_, rfl⟩
      rw [hm] at R1
      have HS := hide hs3
      have HM := hide hm
      have hcc : c = 0 ∨ c = 1 := by omega
      clear hfl hl hdr hs3 hm hv3 hs2
      rcases hcc with rfl | rfl
      · go_enter Tryz.func57, Tryz.ntmps57
        go_wp2
        go_ret
        rw [unhide HE]
        exact ⟨rfl, Sb.mk (s' := ⟨s.left.drop 1, s.bad⟩) (unhide HB) (unhide HS) (hbt.drop 1) (by simp; omega) (hB' N hN) (grown_set _ ⟨g, 0, none⟩ _) (by rw [show ((⟨s.left.drop 1, s.bad⟩ : Sr).left.length) = m from unhide HM]; exact box_set (unhide HB) 0 _), grown_set _ ⟨g, 0, none⟩ _⟩
      · go_enter Tryz.func57, Tryz.ntmps57
        go_wp2
        go_ret
        rw [unhide HE]
        exact ⟨rfl, Sb.mk (s' := ⟨s.left.drop 1, s.bad⟩) (unhide HB) (unhide HS) (hbt.drop 1) (by simp; omega) (hB' N hN) (grown_set _ ⟨g, 0, none⟩ _) (by rw [show ((⟨s.left.drop 1, s.bad⟩ : Sr).left.length) = m from unhide HM]; exact box_set (unhide HB) 0 _), grown_set _ ⟨g, 0, none⟩ _⟩

/-! ### Words and postings -/

theorem Sb.below {g N : Nat} {w w' : World} {s : Sr} (h : Sb g N w s) (hb : Below w.heap.size w w') : Sb g N w' s := by
  obtain ⟨a, cap, h1, h2, h3, h4, h5⟩ := h
  exact ⟨a, cap, box_below h1 hb, h2.below hb, h3, h4, h5⟩
theorem Sb.lt {g N : Nat} {w : World} {s : Sr} (h : Sb g N w s) : g < w.heap.size := by
  obtain ⟨a, cap, h1, -⟩ := h
  exact (Array.getElem?_eq_some_iff.1 h1).1
/-- It has turned out to be wrong. -/
theorem Sb.wrong {g N : Nat} {w : World} {s : Sr} (h : Sb g N w s) : Sb g N (w.setCell ⟨g, 1, none⟩ (.bool true)) ⟨s.left, true⟩ := by
  obtain ⟨a, cap, h1, h2, h3, h4, h5⟩ := h
  exact Sb.mk (s' := ⟨s.left, true⟩) h1 h2 h3 h4 h5 (grown_set _ ⟨g, 1, none⟩ _) (box_set h1 1 _)
theorem PlO.set {B : Nat} {w : World} {v : Value} {L : List Pt} (h : PlO B w v L) {p : Addr} (hp : p.block < B) (u : Value) : PlO B (w.setCell p u) v L := by
  obtain ⟨cs, h1, h2⟩ := h
  exact ⟨cs, own_set h1 (fun k hk e => by have := (h1.lt k hk).1; omega) u, h2.turn fun v z h => own_set h (fun k hk e => by have := (World.ownsRow.lt h k hk).1; omega) u⟩

set_option maxHeartbeats 1000000 in
theorem words9_any (g N : Nat) (s : Sr) (w : World) (h : Sb g N w s) :
    Calls Tryz.prog 65 #[.pointer (some ⟨g, 0, none⟩)] w fun e w' => ∃ v', e = .returned v' ∧ w'.ownsRow w.heap.size 9 1 v' (J.words s).1.length ((J.words s).1.map Value.string) ∧ Sb g N w' (J.words s).2 ∧ w.grownBy w' (some g) := by
  have CN := cut9_any g N s w h
  have hgw := h.lt
  obtain ⟨r, hr⟩ : ∃ r, J.words s = r := ⟨_, rfl⟩
  rw [hr]
  unfold J.words at hr
  obtain ⟨n, hn⟩ : ∃ n, (J.cut s).1 = n := ⟨_, rfl⟩
  obtain ⟨s1, hs1⟩ : ∃ s1, (J.cut s).2 = s1 := ⟨_, rfl⟩
  rw [hn, hs1] at hr CN
  obtain ⟨zr, er, hu⟩ : ∃ zr er, D.unR n = (zr, er) := ⟨_, _, rfl⟩
  have hcs := D.unR_cases n
  have CU := fun v w (S : Sl .u8 w v n) (hb : V.Byt n) => dunpack_any v n w S hb zr er hu
  rw [hu] at hr hcs
  have he : er = 5 ∨ er = 0 := by
    rcases hcs with e | ⟨l, e, -⟩
    · simp only [Prod.mk.injEq] at e; exact .inl e.2
    · simp only [Prod.mk.injEq] at e; exact .inr e.2
  simp only at hr
  have HR := hide hr
  clear hr hn hs1 h hu hcs
  rcases he with rfl | rfl
  · go_enter Tryz.func65, Tryz.ntmps65
    go_wp2_with fail
    refine CN.mono ?_
    rintro e w1 ⟨v1, rfl, S1, Y1, -, b1, G1⟩
    go_wp2_with fail
    refine (CU _ _ S1 Y1).mono ?_
    rintro e w2 ⟨v2, rfl, O2, B2⟩
    have b2 := b1.below B2
    have G2 := G1.trans (grown_below B2 (some g))
    have hs1 := G1.size
    have O3 := own_mono O2 hs1
    have b3 := b2.wrong
    obtain ⟨a, cap, hb, -⟩ := b2
    have q1 : w2.cell? ⟨g, 1, none⟩ = some (.bool s1.bad) := box_cell hb rfl
    have f1 := box_frozen hb 1
    have HO := hide O3
    have Hb3 := hide b3
    have HG := hide G2
    clear hb S1 O2 O3 b3 b1 G1 CN CU B2 G2
    go_wp2
    go_ret
    have e := unhide HR
    rw [if_neg (by decide)] at e
    rw [← e]
    exact ⟨_, rfl, own_set (unhide HO) (fun k hk e => by have := ((unhide HO).lt k hk).1; simp only at e; omega) _, unhide Hb3, (unhide HG).trans (grown_set _ ⟨g, 1, none⟩ _)⟩
  · go_enter Tryz.func65, Tryz.ntmps65
    go_wp2_with fail
    refine CN.mono ?_
    rintro e w1 ⟨v1, rfl, S1, Y1, -, b1, G1⟩
    go_wp2_with fail
    refine (CU _ _ S1 Y1).mono ?_
    rintro e w2 ⟨v2, rfl, O2, B2⟩
    have b2 := b1.below B2
    have G2 := G1.trans (grown_below B2 (some g))
    have hs1 := G1.size
    have O3 := own_mono O2 hs1
    have HO := hide O3
    have Hb3 := hide b2
    have HG := hide G2
    clear S1 O2 O3 b2 b1 G1 CN CU B2 G2
    go_wp2
    go_ret
    have e := unhide HR
    rw [if_pos trivial] at e
    rw [← e]
    exact ⟨_, rfl, unhide HO, unhide Hb3, unhide HG⟩

set_option maxHeartbeats 1000000 in
theorem posts9_any (g N : Nat) (s : Sr) (w : World) (h : Sb g N w s) :
    Calls Tryz.prog 68 #[.pointer (some ⟨g, 0, none⟩)] w fun e w' => ∃ v', e = .returned v' ∧ PlO w.heap.size w' v' (J.posts s).1 ∧ Sb g N w' (J.posts s).2 ∧ w.grownBy w' (some g) := by
  have CN := cut9_any g N s w h
  have hgw := h.lt
  obtain ⟨r, hr⟩ : ∃ r, J.posts s = r := ⟨_, rfl⟩
  rw [hr]
  unfold J.posts at hr
  obtain ⟨n, hn⟩ : ∃ n, (J.cut s).1 = n := ⟨_, rfl⟩
  obtain ⟨s1, hs1⟩ : ∃ s1, (J.cut s).2 = s1 := ⟨_, rfl⟩
  rw [hn, hs1] at hr CN
  obtain ⟨er, hu⟩ : ∃ er, Q.unpE n = er := ⟨_, rfl⟩
  obtain ⟨zr, hz⟩ : ∃ zr, Q.unpA n = zr := ⟨_, rfl⟩
  have CU : ∀ v w, Sl .u8 w v n → V.Byt n → n.length ≤ 1000000 → Calls Tryz.prog 91 #[v] w fun e w' => ∃ v', e = .returned (.tuple #[v', .int .i64 er]) ∧ PlO w.heap.size w' v' zr ∧ Below w.heap.size w w' := fun v w S hb hl => by
    rw [← hu, ← hz]
    exact punpack_any v n w S hb hl
  have he : er = 5 ∨ er = 0 := by
    rw [← hu]
    unfold Q.unpE
    split
    · exact .inl rfl
    · exact .inr rfl
  rw [hu, hz] at hr
  have HR := hide hr
  clear hr hn hs1 h hu hz
  rcases he with rfl | rfl
  · go_enter Tryz.func68, Tryz.ntmps68
    go_wp2_with fail
    refine CN.mono ?_
    rintro e w1 ⟨v1, rfl, S1, Y1, L1, b1, G1⟩
    go_wp2_with fail
    refine (CU _ _ S1 Y1 L1).mono ?_
    rintro e w2 ⟨v2, rfl, O2, B2⟩
    have b2 := b1.below B2
    have G2 := G1.trans (grown_below B2 (some g))
    have hs1 := G1.size
    have O3 := O2.mono hs1
    have b3 := b2.wrong
    obtain ⟨a, cap, hb, -⟩ := b2
    have q1 : w2.cell? ⟨g, 1, none⟩ = some (.bool s1.bad) := box_cell hb rfl
    have f1 := box_frozen hb 1
    have HO := hide O3
    have Hb3 := hide b3
    have HG := hide G2
    clear hb S1 O2 O3 b3 b1 G1 CN CU B2 G2
    go_wp2
    go_ret
    have e := unhide HR
    rw [if_neg (by decide)] at e
    rw [← e]
    exact ⟨_, rfl, (unhide HO).set (p := ⟨g, 1, none⟩) hgw _, unhide Hb3, (unhide HG).trans (grown_set _ ⟨g, 1, none⟩ _)⟩
  · go_enter Tryz.func68, Tryz.ntmps68
    go_wp2_with fail
    refine CN.mono ?_
    rintro e w1 ⟨v1, rfl, S1, Y1, L1, b1, G1⟩
    go_wp2_with fail
    refine (CU _ _ S1 Y1 L1).mono ?_
    rintro e w2 ⟨v2, rfl, O2, B2⟩
    have b2 := b1.below B2
    have G2 := G1.trans (grown_below B2 (some g))
    have hs1 := G1.size
    have O3 := O2.mono hs1
    have HO := hide O3
    have Hb3 := hide b2
    have HG := hide G2
    clear S1 O2 O3 b2 b1 G1 CN CU B2 G2
    go_wp2
    go_ret
    have e := unhide HR
    rw [if_pos trivial] at e
    rw [← e]
    exact ⟨_, rfl, unhide HO, unhide Hb3, unhide HG⟩
end Go.Proofs.YtonhehhmnobciaaGreat

/-
  The contracts of many, at texts and at numbers, and of the closures that are handed to it.
-/
namespace Go.Proofs.YtonhehhmnobciaaGreat
set_option maxRecDepth 100000
open Go.RowKit

theorem grown_refl' (w : World) (row : Option Nat) : w.grownBy w row := grown_below (Below.refl _ _) row
/-- What an append to a row of one's own leaves of a source. -/
theorem Sb.grown {g N : Nat} {w w' : World} {s : Sr} {row : Option Nat} (h : Sb g N w s) (hg : w.grownBy w' row) (hne : row ≠ some g) (hN : ∀ q, row = some q → N ≤ q) : Sb g N w' s := by
  obtain ⟨a, cap, h1, h2, h3, h4, h5⟩ := h
  refine ⟨a, cap, box_grown h1 hg (Ne.symm hne), ?_, h3, h4, h5⟩
  obtain ⟨a', cap', hv, hl, hm, hn, hc⟩ := h2
  simp only [Value.slice.injEq, true_and] at hv
  obtain ⟨rfl, rfl⟩ := hv
  refine ⟨a, cap, rfl, hl, hm, hn, fun x hx i hi => ?_⟩
  refine hg.cell (hc x hx i hi) fun e => ?_
  have hb : (x.add i).block = x.block := by unfold Addr.add; split <;> rfl
  rw [hb] at e
  have := hN _ e.symm
  have := h5 x hx
  omega

set_option maxHeartbeats 1000000 in
theorem clo1_any (g N P : Nat) (x : Value) (s : Sr) (w : World) (h : Sb g N w s) (hP : w.cell? ⟨P, 0, none⟩ = some (.pointer (some ⟨g, 0, none⟩))) :
    Calls Tryz.prog 60 #[x, .pointer (some ⟨P, 0, none⟩)] w fun e w' => e = .returned (.string (J.text s).1) ∧ Sb g N w' (J.text s).2 ∧ w.grownBy w' (some g) := by
  have CN := cut9_any g N s w h
  clear h
  unfold J.text
  go_enter Tryz.func60, Tryz.ntmps60
  go_wp2_with fail
  refine CN.mono ?_
  rintro e w1 ⟨v1, rfl, S1, -, -, b1, G1⟩
  have hcv := Tryz.conv_str7 w1 v1 _ S1
  have Hb := hide b1
  have HG := hide G1
  clear CN b1 G1
  go_wp2
  go_ret
  exact ⟨rfl, unhide Hb, unhide HG⟩

set_option maxHeartbeats 1000000 in
theorem clo2_any (g N P : Nat) (x : Value) (s : Sr) (w : World) (h : Sb g N w s) (hP : w.cell? ⟨P, 0, none⟩ = some (.pointer (some ⟨g, 0, none⟩))) :
    Calls Tryz.prog 63 #[x, .pointer (some ⟨P, 0, none⟩)] w fun e w' => e = .returned (.int .i64 (J.number s).1) ∧ Sb g N w' (J.number s).2 ∧ w.grownBy w' (some g) := by
  have CN := num9_any g N s w h
  clear h
  go_enter Tryz.func63, Tryz.ntmps63
  go_wp2_with fail
  refine CN.mono ?_
  rintro e w1 ⟨rfl, b1, G1⟩
  have Hb := hide b1
  have HG := hide G1
  clear CN b1 G1
  go_wp2
  go_ret
  exact ⟨rfl, unhide Hb, unhide HG⟩

set_option maxHeartbeats 1000000 in
theorem clo3_any (g N P : Nat) (x : Value) (s : Sr) (w : World) (h : Sb g N w s) (hP : w.cell? ⟨P, 0, none⟩ = some (.pointer (some ⟨g, 0, none⟩))) :
    Calls Tryz.prog 64 #[x, .pointer (some ⟨P, 0, none⟩)] w fun e w' => e = .returned (.int .i64 (J.number s).1) ∧ Sb g N w' (J.number s).2 ∧ w.grownBy w' (some g) := by
  have CN := num9_any g N s w h
  clear h
  go_enter Tryz.func64, Tryz.ntmps64
  go_wp2_with fail
  refine CN.mono ?_
  rintro e w1 ⟨rfl, b1, G1⟩
  have Hb := hide b1
  have HG := hide G1
  clear CN b1 G1
  go_wp2
  go_ret
  exact ⟨rfl, unhide Hb, unhide HG⟩

set_option maxHeartbeats 2000000 in
theorem manyS_any (g N P n : Nat) (s : Sr) (w : World) (hn : n ≤ 34359738367) (h : Sb g N w s) (hNw : N ≤ w.heap.size) (hP : w.cell? ⟨P, 0, none⟩ = some (.pointer (some ⟨g, 0, none⟩))) (hPg : P ≠ g) (r) (hr : J.many (fun _ => J.text) n 0 s = r) :
    Calls Tryz.prog 59 #[.pointer (some ⟨g, 0, none⟩), .int .i64 (n : Int), .func (.func 60) #[] #[.pointer (some ⟨P, 0, none⟩)]] w fun e w' => ∃ v', e = .returned v' ∧ w'.ownsRow w.heap.size 9 1 v' r.1.length (r.1.map (Value.string)) ∧ Sb g N w' r.2 ∧ w.grownBy w' (some g) := by
  obtain ⟨i9, hi9, hz90, hz91, hz92⟩ := info_parts Tryz.infoS
  have hPw : P < w.heap.size := World.block_lt_of_cell? w _ hP
  have hgw := h.lt
  have HR := hide hr
  have HS0 := hide h
  clear hr h
  go_enter Tryz.func59, Tryz.ntmps59
  go_wp2
  go_loopw [7, 8] (fun ov iv wr => ∃ (i : Nat) (xs : List _) (si : Sr), i ≤ n ∧ iv = .int .i64 i ∧ xs.length ≤ i ∧ Hid (J.many (fun _ => J.text) n 0 s = (xs ++ (J.many (fun _ => J.text) (n - i) i si).1, (J.many (fun _ => J.text) (n - i) i si).2)) ∧ Sb g N wr si ∧ wr.ownsRow w.heap.size 9 1 ov xs.length (xs.map (Value.string)) ∧ w.grownBy wr (some g)) (fun _ iv _ => n - (intOf iv).toNat)
  case atStart => exact ⟨0, [], s, Nat.zero_le _, rfl, Nat.zero_le _, by (show _ = _; simp), unhide HS0, World.ownsRow_nil _ _ _ _, grown_refl' _ _⟩
  case round =>
    obtain ⟨i, xs, si, hi, rfl, hxl, HM, hb, hown, hg⟩ := hrel
    have hPr : wr.cell? ⟨P, 0, none⟩ = some (.pointer (some ⟨g, 0, none⟩)) := hg.cell hP (by simpa using hPg)
    have hsz := hg.size
    by_cases hlt : i < n
    · cases hbad : si.bad with
      | true =>
        obtain ⟨a, cap, hbx, -⟩ := id hb
        have q1 : wr.cell? ⟨g, 1, none⟩ = some (.bool true) := by rw [← hbad]; exact box_cell hbx rfl
        have e9 : J.many (fun _ => J.text) (n - i) i si = ([], si) := by
          obtain ⟨k, hk⟩ : ∃ k, n - i = k + 1 := ⟨n - i - 1, by omega⟩
          rw [hk, J.many, if_pos hbad]
        have hr9 := unhide HR
        rw [unhide HM, e9] at hr9
        simp only [List.append_nil] at hr9
        have HR9 := hide hr9
        have Hb := hide hb
        have Ho := hide hown
        have HG := hide hg
        clear hbx hr9 e9 hb hown hg hbad
        go_wp2
        go_ret
        rw [← unhide HR9]
        exact ⟨_, rfl, unhide Ho, unhide Hb, unhide HG⟩
      | false =>
        obtain ⟨a, cap, hbx, -⟩ := id hb
        have q1 : wr.cell? ⟨g, 1, none⟩ = some (.bool false) := by rw [← hbad]; exact box_cell hbx rfl
        have e9 : J.many (fun _ => J.text) (n - i) i si = ((J.text si).1 :: (J.many (fun _ => J.text) (n - (i + 1)) (i + 1) (J.text si).2).1, (J.many (fun _ => J.text) (n - (i + 1)) (i + 1) (J.text si).2).2) := by
          obtain ⟨k, hk⟩ : ∃ k, n - i = k + 1 := ⟨n - i - 1, by omega⟩
          rw [hk, J.many, if_neg (by rw [hbad]; decide), show n - (i + 1) = k by omega]
        have HM2 : Hid (J.many (fun _ => J.text) n 0 s = ((xs ++ [(J.text si).1]) ++ (J.many (fun _ => J.text) (n - (i + 1)) (i + 1) (J.text si).2).1, (J.many (fun _ => J.text) (n - (i + 1)) (i + 1) (J.text si).2).2)) := by
          show _ = _
          rw [unhide HM, e9]
          simp
        have CC := clo1_any g N P (.int .i64 (i : Int)) si wr hb hPr
        obtain ⟨x, hx⟩ : ∃ x, (J.text si).1 = x := ⟨_, rfl⟩
        obtain ⟨s2, hs2⟩ : ∃ s2, (J.text si).2 = s2 := ⟨_, rfl⟩
        rw [hx, hs2] at HM2 CC
        have HX := hide hx
        have Ho := hide hown
        have HG := hide hg
        clear hbx e9 hb hown hg hbad hx hs2 HM
        go_wp2_with fail
        refine CC.mono ?_
        rintro e w1 ⟨rfl, b1, G1⟩
        have hs1 := G1.size
        have O1 : w1.ownsRow w.heap.size 9 1 u7 xs.length (xs.map (Value.string)) := (unhide Ho).kept G1 (by
          cases hv : u7.ownBlock with
          | none => exact .inl rfl
          | some q => exact .inr (by have := ((unhide Ho).lt q hv).1; simp; omega))
        have GG1 := (unhide HG).trans G1
        have Hb1 := hide b1
        have HGG := hide GG1
        clear b1 G1 GG1 CC
        go_wp2_with (at_builtin; refine append_oneL (f := Value.string) rfl _ _ 25 rfl Tryz.underlying25 hi9 hz90 hz91 hz92 rfl (fun _ => rfl) (pre := xs) (v := u7) x rfl rfl (by simp) O1 (by omega) (by omega) (by omega) ?_
                     intro g3 q3 w3 O3 g3' l3)
        have G3 := grown_own (unhide HGG) g3' (fun j hj => (O1.lt j hj).1)
        have b3 : Sb g N w3 s2 := (unhide Hb1).grown g3' (fun e => by have := (O1.lt g e).1; omega) (fun q hq => by have := (O1.lt q hq).1; omega)
        have HO3 := hide O3
        clear O3 g3' l3 O1
        go_wp2
        go_roundw
        case rel => exact ⟨i + 1, xs ++ [x], s2, by omega, by go_num, by simp; omega, HM2, b3, unhide HO3, G3⟩
        case measure => simp [intOf]; omega
    · have e9 : J.many (fun _ => J.text) (n - i) i si = ([], si) := by
        rw [show n - i = 0 by omega]
        rfl
      have hr9 := unhide HR
      rw [unhide HM, e9] at hr9
      simp only [List.append_nil] at hr9
      have HR9 := hide hr9
      have Hb := hide hb
      have Ho := hide hown
      have HG := hide hg
      clear hr9 e9 hb hown hg
      go_wp2
      go_ret
      rw [← unhide HR9]
      exact ⟨_, rfl, unhide Ho, unhide Hb, unhide HG⟩

set_option maxHeartbeats 2000000 in
theorem manyI_any (g N P n : Nat) (s : Sr) (w : World) (hn : n ≤ 34359738367) (h : Sb g N w s) (hNw : N ≤ w.heap.size) (hP : w.cell? ⟨P, 0, none⟩ = some (.pointer (some ⟨g, 0, none⟩))) (hPg : P ≠ g) (r) (hr : J.many (fun _ => J.number) n 0 s = r) :
    Calls Tryz.prog 62 #[.pointer (some ⟨g, 0, none⟩), .int .i64 (n : Int), .func (.func 63) #[] #[.pointer (some ⟨P, 0, none⟩)]] w fun e w' => ∃ v', e = .returned v' ∧ w'.ownsRow w.heap.size 3 1 v' r.1.length (r.1.map (Value.int .i64)) ∧ Sb g N w' r.2 ∧ w.grownBy w' (some g) := by
  obtain ⟨i9, hi9, hz90, hz91, hz92⟩ := info_parts Tryz.info3
  have hPw : P < w.heap.size := World.block_lt_of_cell? w _ hP
  have hgw := h.lt
  have HR := hide hr
  have HS0 := hide h
  clear hr h
  go_enter Tryz.func62, Tryz.ntmps62
  go_wp2
  go_loopw [7, 8] (fun ov iv wr => ∃ (i : Nat) (xs : List _) (si : Sr), i ≤ n ∧ iv = .int .i64 i ∧ xs.length ≤ i ∧ Hid (J.many (fun _ => J.number) n 0 s = (xs ++ (J.many (fun _ => J.number) (n - i) i si).1, (J.many (fun _ => J.number) (n - i) i si).2)) ∧ Sb g N wr si ∧ wr.ownsRow w.heap.size 3 1 ov xs.length (xs.map (Value.int .i64)) ∧ w.grownBy wr (some g)) (fun _ iv _ => n - (intOf iv).toNat)
  case atStart => exact ⟨0, [], s, Nat.zero_le _, rfl, Nat.zero_le _, by (show _ = _; simp), unhide HS0, World.ownsRow_nil _ _ _ _, grown_refl' _ _⟩
  case round =>
    obtain ⟨i, xs, si, hi, rfl, hxl, HM, hb, hown, hg⟩ := hrel
    have hPr : wr.cell? ⟨P, 0, none⟩ = some (.pointer (some ⟨g, 0, none⟩)) := hg.cell hP (by simpa using hPg)
    have hsz := hg.size
    by_cases hlt : i < n
    · cases hbad : si.bad with
      | true =>
        obtain ⟨a, cap, hbx, -⟩ := id hb
        have q1 : wr.cell? ⟨g, 1, none⟩ = some (.bool true) := by rw [← hbad]; exact box_cell hbx rfl
        have e9 : J.many (fun _ => J.number) (n - i) i si = ([], si) := by
          obtain ⟨k, hk⟩ : ∃ k, n - i = k + 1 := ⟨n - i - 1, by omega⟩
          rw [hk, J.many, if_pos hbad]
        have hr9 := unhide HR
        rw [unhide HM, e9] at hr9
        simp only [List.append_nil] at hr9
        have HR9 := hide hr9
        have Hb := hide hb
        have Ho := hide hown
        have HG := hide hg
        clear hbx hr9 e9 hb hown hg hbad
        go_wp2
        go_ret
        rw [← unhide HR9]
        exact ⟨_, rfl, unhide Ho, unhide Hb, unhide HG⟩
      | false =>
        obtain ⟨a, cap, hbx, -⟩ := id hb
        have q1 : wr.cell? ⟨g, 1, none⟩ = some (.bool false) := by rw [← hbad]; exact box_cell hbx rfl
        have e9 : J.many (fun _ => J.number) (n - i) i si = ((J.number si).1 :: (J.many (fun _ => J.number) (n - (i + 1)) (i + 1) (J.number si).2).1, (J.many (fun _ => J.number) (n - (i + 1)) (i + 1) (J.number si).2).2) := by
          obtain ⟨k, hk⟩ : ∃ k, n - i = k + 1 := ⟨n - i - 1, by omega⟩
          rw [hk, J.many, if_neg (by rw [hbad]; decide), show n - (i + 1) = k by omega]
        have HM2 : Hid (J.many (fun _ => J.number) n 0 s = ((xs ++ [(J.number si).1]) ++ (J.many (fun _ => J.number) (n - (i + 1)) (i + 1) (J.number si).2).1, (J.many (fun _ => J.number) (n - (i + 1)) (i + 1) (J.number si).2).2)) := by
          show _ = _
          rw [unhide HM, e9]
          simp
        have CC := clo2_any g N P (.int .i64 (i : Int)) si wr hb hPr
        obtain ⟨x, hx⟩ : ∃ x, (J.number si).1 = x := ⟨_, rfl⟩
        obtain ⟨s2, hs2⟩ : ∃ s2, (J.number si).2 = s2 := ⟨_, rfl⟩
        rw [hx, hs2] at HM2 CC
        have HX := hide hx
        have Ho := hide hown
        have HG := hide hg
        clear hbx e9 hb hown hg hbad hx hs2 HM
        go_wp2_with fail
        refine CC.mono ?_
        rintro e w1 ⟨rfl, b1, G1⟩
        have hs1 := G1.size
        have O1 : w1.ownsRow w.heap.size 3 1 u7 xs.length (xs.map (Value.int .i64)) := (unhide Ho).kept G1 (by
          cases hv : u7.ownBlock with
          | none => exact .inl rfl
          | some q => exact .inr (by have := ((unhide Ho).lt q hv).1; simp; omega))
        have GG1 := (unhide HG).trans G1
        have Hb1 := hide b1
        have HGG := hide GG1
        clear b1 G1 GG1 CC
        go_wp2_with (at_builtin; refine append_oneL (f := Value.int .i64) rfl _ _ 26 rfl Tryz.underlying26 hi9 hz90 hz91 hz92 rfl (fun _ => rfl) (pre := xs) (v := u7) x rfl rfl (by simp) O1 (by omega) (by omega) (by omega) ?_
                     intro g3 q3 w3 O3 g3' l3)
        have G3 := grown_own (unhide HGG) g3' (fun j hj => (O1.lt j hj).1)
        have b3 : Sb g N w3 s2 := (unhide Hb1).grown g3' (fun e => by have := (O1.lt g e).1; omega) (fun q hq => by have := (O1.lt q hq).1; omega)
        have HO3 := hide O3
        clear O3 g3' l3 O1
        go_wp2
        go_roundw
        case rel => exact ⟨i + 1, xs ++ [x], s2, by omega, by go_num, by simp; omega, HM2, b3, unhide HO3, G3⟩
        case measure => simp [intOf]; omega
    · have e9 : J.many (fun _ => J.number) (n - i) i si = ([], si) := by
        rw [show n - i = 0 by omega]
        rfl
      have hr9 := unhide HR
      rw [unhide HM, e9] at hr9
      simp only [List.append_nil] at hr9
      have HR9 := hide hr9
      have Hb := hide hb
      have Ho := hide hown
      have HG := hide hg
      clear hr9 e9 hb hown hg
      go_wp2
      go_ret
      rw [← unhide HR9]
      exact ⟨_, rfl, unhide Ho, unhide Hb, unhide HG⟩

set_option maxHeartbeats 2000000 in
theorem manyJ_any (g N P n : Nat) (s : Sr) (w : World) (hn : n ≤ 34359738367) (h : Sb g N w s) (hNw : N ≤ w.heap.size) (hP : w.cell? ⟨P, 0, none⟩ = some (.pointer (some ⟨g, 0, none⟩))) (hPg : P ≠ g) (r) (hr : J.many (fun _ => J.number) n 0 s = r) :
    Calls Tryz.prog 62 #[.pointer (some ⟨g, 0, none⟩), .int .i64 (n : Int), .func (.func 64) #[] #[.pointer (some ⟨P, 0, none⟩)]] w fun e w' => ∃ v', e = .returned v' ∧ w'.ownsRow w.heap.size 3 1 v' r.1.length (r.1.map (Value.int .i64)) ∧ Sb g N w' r.2 ∧ w.grownBy w' (some g) := by
  obtain ⟨i9, hi9, hz90, hz91, hz92⟩ := info_parts Tryz.info3
  have hPw : P < w.heap.size := World.block_lt_of_cell? w _ hP
  have hgw := h.lt
  have HR := hide hr
  have HS0 := hide h
  clear hr h
  go_enter Tryz.func62, Tryz.ntmps62
  go_wp2
  go_loopw [7, 8] (fun ov iv wr => ∃ (i : Nat) (xs : List _) (si : Sr), i ≤ n ∧ iv = .int .i64 i ∧ xs.length ≤ i ∧ Hid (J.many (fun _ => J.number) n 0 s = (xs ++ (J.many (fun _ => J.number) (n - i) i si).1, (J.many (fun _ => J.number) (n - i) i si).2)) ∧ Sb g N wr si ∧ wr.ownsRow w.heap.size 3 1 ov xs.length (xs.map (Value.int .i64)) ∧ w.grownBy wr (some g)) (fun _ iv _ => n - (intOf iv).toNat)
  case atStart => exact ⟨0, [], s, Nat.zero_le _, rfl, Nat.zero_le _, by (show _ = _; simp), unhide HS0, World.ownsRow_nil _ _ _ _, grown_refl' _ _⟩
  case round =>
    obtain ⟨i, xs, si, hi, rfl, hxl, HM, hb, hown, hg⟩ := hrel
    have hPr : wr.cell? ⟨P, 0, none⟩ = some (.pointer (some ⟨g, 0, none⟩)) := hg.cell hP (by simpa using hPg)
    have hsz := hg.size
    by_cases hlt : i < n
    · cases hbad : si.bad with
      | true =>
        obtain ⟨a, cap, hbx, -⟩ := id hb
        have q1 : wr.cell? ⟨g, 1, none⟩ = some (.bool true) := by rw [← hbad]; exact box_cell hbx rfl
        have e9 : J.many (fun _ => J.number) (n - i) i si = ([], si) := by
          obtain ⟨k, hk⟩ : ∃ k, n - i = k + 1 := ⟨n - i - 1, by omega⟩
          rw [hk, J.many, if_pos hbad]
        have hr9 := unhide HR
        rw [unhide HM, e9] at hr9
        simp only [List.append_nil] at hr9
        have HR9 := hide hr9
        have Hb := hide hb
        have Ho := hide hown
        have HG := hide hg
        clear hbx hr9 e9 hb hown hg hbad
        go_wp2
        go_ret
        rw [← unhide HR9]
        exact ⟨_, rfl, unhide Ho, unhide Hb, unhide HG⟩
      | false =>
        obtain ⟨a, cap, hbx, -⟩ := id hb
        have q1 : wr.cell? ⟨g, 1, none⟩ = some (.bool false) := by rw [← hbad]; exact box_cell hbx rfl
        have e9 : J.many (fun _ => J.number) (n - i) i si = ((J.number si).1 :: (J.many (fun _ => J.number) (n - (i + 1)) (i + 1) (J.number si).2).1, (J.many (fun _ => J.number) (n - (i + 1)) (i + 1) (J.number si).2).2) := by
          obtain ⟨k, hk⟩ : ∃ k, n - i = k + 1 := ⟨n - i - 1, by omega⟩
          rw [hk, J.many, if_neg (by rw [hbad]; decide), show n - (i + 1) = k by omega]
        have HM2 : Hid (J.many (fun _ => J.number) n 0 s = ((xs ++ [(J.number si).1]) ++ (J.many (fun _ => J.number) (n - (i + 1)) (i + 1) (J.number si).2).1, (J.many (fun _ => J.number) (n - (i + 1)) (i + 1) (J.number si).2).2)) := by
          show _ = _
          rw [unhide HM, e9]
          simp
        have CC := clo3_any g N P (.int .i64 (i : Int)) si wr hb hPr
        obtain ⟨x, hx⟩ : ∃ x, (J.number si).1 = x := ⟨_, rfl⟩
        obtain ⟨s2, hs2⟩ : ∃ s2, (J.number si).2 = s2 := ⟨_, rfl⟩
        rw [hx, hs2] at HM2 CC
        have HX := hide hx
        have Ho := hide hown
        have HG := hide hg
        clear hbx e9 hb hown hg hbad hx hs2 HM
        go_wp2_with fail
        refine CC.mono ?_
        rintro e w1 ⟨rfl, b1, G1⟩
        have hs1 := G1.size
        have O1 : w1.ownsRow w.heap.size 3 1 u7 xs.length (xs.map (Value.int .i64)) := (unhide Ho).kept G1 (by
          cases hv : u7.ownBlock with
          | none => exact .inl rfl
          | some q => exact .inr (by have := ((unhide Ho).lt q hv).1; simp; omega))
        have GG1 := (unhide HG).trans G1
        have Hb1 := hide b1
        have HGG := hide GG1
        clear b1 G1 GG1 CC
        go_wp2_with (at_builtin; refine append_oneL (f := Value.int .i64) rfl _ _ 26 rfl Tryz.underlying26 hi9 hz90 hz91 hz92 rfl (fun _ => rfl) (pre := xs) (v := u7) x rfl rfl (by simp) O1 (by omega) (by omega) (by omega) ?_
                     intro g3 q3 w3 O3 g3' l3)
        have G3 := grown_own (unhide HGG) g3' (fun j hj => (O1.lt j hj).1)
        have b3 : Sb g N w3 s2 := (unhide Hb1).grown g3' (fun e => by have := (O1.lt g e).1; omega) (fun q hq => by have := (O1.lt q hq).1; omega)
        have HO3 := hide O3
        clear O3 g3' l3 O1
        go_wp2
        go_roundw
        case rel => exact ⟨i + 1, xs ++ [x], s2, by omega, by go_num, by simp; omega, HM2, b3, unhide HO3, G3⟩
        case measure => simp [intOf]; omega
    · have e9 : J.many (fun _ => J.number) (n - i) i si = ([], si) := by
        rw [show n - i = 0 by omega]
        rfl
      have hr9 := unhide HR
      rw [unhide HM, e9] at hr9
      simp only [List.append_nil] at hr9
      have HR9 := hide hr9
      have Hb := hide hb
      have Ho := hide hown
      have HG := hide hg
      clear hr9 e9 hb hown hg
      go_wp2
      go_ret
      rw [← unhide HR9]
      exact ⟨_, rfl, unhide Ho, unhide Hb, unhide HG⟩
end Go.Proofs.YtonhehhmnobciaaGreat

/-
  The contracts of addPiece and addNumbers: bytes behind bytes.
-/
namespace Go.Proofs.YtonhehhmnobciaaGreat
set_option maxRecDepth 100000
open Go.RowKit

theorem grown_loc {w a b : World} {row row2 : Option Nat} (h : w.grownBy a row) (k : a.grownBy b row2) (hr : ∀ j, row2 = some j → row = some j ∨ w.heap.size ≤ j) : w.grownBy b row :=
  ⟨k.os.trans h.os, k.tape.trans h.tape, k.output.trans h.output, Nat.le_trans h.size k.size, fun j hj hj2 => (k.block j (Nat.lt_of_lt_of_le hj h.size) (fun e => by
    rcases hr j e.symm with h1 | h1
    · exact hj2 h1.symm
    · omega)).trans (h.block j hj hj2)⟩
theorem sl_grown {k : IntKind} {w w' : World} {v : Value} {l : List Int} {row : Option Nat} (h : Sl k w v l) (hg : w.grownBy w' row) (hv : ∀ x n c, v = .slice (some x) n c → row ≠ some x.block) : Sl k w' v l := by
  obtain ⟨a, cap, hv', hl, hm, hn, hc⟩ := h
  refine ⟨a, cap, hv', hl, hm, hn, fun x hx i hi => ?_⟩
  refine hg.cell (hc x hx i hi) fun e => ?_
  have hb : (x.add i).block = x.block := by unfold Addr.add; split <;> rfl
  rw [hb] at e
  exact hv x _ _ (by rw [hv', hx]) e.symm

/-- Bytes behind a row of bytes of one's own. -/
def AddEnd (B : Nat) (vb : Value) (r : List Int) (w : World) (e : Ending) (w' : World) : Prop :=
  ∃ v', e = .returned v' ∧ w'.ownsRow B 5 1 v' r.length (r.map (Value.int .u8)) ∧ w.grownBy w' vb.ownBlock ∧ ∀ k, v'.ownBlock = some k → vb.ownBlock = some k ∨ w.heap.size ≤ k

set_option maxHeartbeats 1000000 in
theorem addPiece_any (B : Nat) (vb vp : Value) (l p : List Int) (w : World) (ho : w.ownsRow B 5 1 vb l.length (l.map (Value.int .u8))) (hB : B ≤ w.heap.size) (hp : Sl .u8 w vp p) (hp0 : 0 < p.length) (hfar : ∀ x n c, vp = .slice (some x) n c → vb.ownBlock ≠ some x.block) (hl : l.length ≤ 1000000) (hpl : p.length ≤ 1000000) :
    Calls Tryz.prog 22 #[vb, vp] w (AddEnd B vb (l ++ J.piece p) w) := by
  obtain ⟨i0, hi, hz0, hz1, hz2⟩ := info_parts Tryz.info5
  obtain ⟨zs, hzs⟩ : ∃ zs, V.put (p.length : Int) = zs := ⟨_, rfl⟩
  have hzl : 1 ≤ zs.length ∧ zs.length ≤ 5 := by rw [← hzs]; exact V.put_len _
  have CP := put_any (p.length : Int) w
  rw [V.putA_in ⟨by omega, by omega⟩, hzs] at CP
  have HZ := hide hzs
  obtain ⟨pa, pc, hvp, -⟩ := id hp
  subst hvp
  obtain ⟨ba, bc, hvb, -⟩ := id (Sl.owned ho)
  subst hvb
  clear hzs
  go_enter Tryz.func22, Tryz.ntmps22
  go_wp2_with fail
  refine CP.mono ?_
  rintro e w1 ⟨v1, rfl, O1, B1⟩
  have P1 := Sl.owned O1
  obtain ⟨za, zc, hv1, -⟩ := id P1
  subst hv1
  have OB1 := own_below ho B1
  have hp1 := hp.below B1
  have hs1 := B1.size
  have HB1 := hide B1
  clear O1 CP ho hp B1
  go_wp2_with (first
    | (at_builtin; refine append_allL rfl (.tmp 5) (.tmp 8) 33 rfl Tryz.underlying33 hi hz0 hz1 hz2 rfl (B := B) (w0 := w1) (pre := l) (zs := zs) rfl rfl P1 (by omega) OB1 (Below.refl _ _) (by omega) (by omega) (by decide) ?_; intro v2 w2 O2 b2 g2 l2; have hp2 := sl_grown hp1 g2 hfar; have hs2 := g2.size)
    | (at_builtin; refine append_allL rfl (.tmp 10) (.tmp 11) 33 rfl Tryz.underlying33 hi hz0 hz1 hz2 rfl (B := B) (w0 := w2) (pre := l ++ zs) (zs := p) rfl rfl hp2 hp0 O2 (Below.refl _ _) (by omega) (by simp; omega) (by decide) ?_; intro v3 w3 O3 b3 g3 l3))
  go_ret
  refine ⟨_, rfl, ?_, grown_loc (grown_loc (grown_below (unhide HB1) _) g2 (fun j hj => .inl hj)) g3 (fun j hj => ?_), fun k hk => ?_⟩
  · unfold J.piece
    rw [unhide HZ, ← List.append_assoc]
    exact O3
  · rcases l2 j hj with h | h
    · exact .inl h
    · exact .inr (by omega)
  · rcases l3 k hk with h | h
    · rcases l2 k h with h | h
      · exact .inl h
      · exact .inr (by omega)
    · exact .inr (by omega)

set_option maxHeartbeats 1000000 in
theorem addNumbers_any (B : Nat) (vb vn : Value) (l ns : List Int) (w : World) (ho : w.ownsRow B 5 1 vb l.length (l.map (Value.int .u8))) (hB : B ≤ w.heap.size) (hn : Sl .i64 w vn ns) (hfar : ∀ x n c, vn = .slice (some x) n c → 0 < n → x.block < B) (hl : l.length ≤ 1000000) (hnl : ns.length ≤ 1000) (hr : ∀ n ∈ ns, 0 ≤ n ∧ n ≤ 34359738367) :
    Calls Tryz.prog 23 #[vb, vn] w (AddEnd B vb (l ++ V.enc ns) w) := by
  obtain ⟨i0, hi, hz0, hz1, hz2⟩ := info_parts Tryz.info5
  obtain ⟨na, nc, hvn, -, -, -, hoN⟩ := hn.open
  subst hvn
  have HO := hide ho
  have HR := hide hr
  clear ho hr hn
  go_enter Tryz.func23, Tryz.ntmps23
  go_wp2
  go_loopw [0, 9] (fun bv iv wr => ∃ (k : Nat) (cur : List Int), k ≤ ns.length ∧ iv = .int .i64 k ∧ Hid (cur = l ++ V.enc (ns.take k)) ∧ cur.length ≤ 1000000 + k * 5 ∧ wr.ownsRow B 5 1 bv cur.length (cur.map (Value.int .u8)) ∧ w.grownBy wr vb.ownBlock ∧ Hid (∀ k, bv.ownBlock = some k → vb.ownBlock = some k ∨ w.heap.size ≤ k) ∧ B ≤ wr.heap.size) (fun _ iv _ => ns.length - (intOf iv).toNat)
  case atStart => exact ⟨0, l, Nat.zero_le _, rfl, by (show _ = _; simp [V.enc]), by omega, unhide HO, grown_refl' _ _, hide (fun k hk => .inl hk), hB⟩
  case round =>
    obtain ⟨k, cur, hk, rfl, HC, hcl, hown, hg, HL, hBw⟩ := hrel
    by_cases hlt : k < ns.length
    · obtain ⟨b, off, rfl, hb, hc⟩ := hoN (by omega)
      obtain ⟨n, hx⟩ : ∃ n, ns[k]? = some n := ⟨ns[k], List.getElem?_eq_getElem hlt⟩
      have c0 := hc k hlt
      rw [show ns.getD k 0 = n by simp [List.getD, hx]] at c0
      have hbB : b < B := hfar _ _ _ rfl (by omega)
      have hrn := unhide HR n (List.mem_of_getElem? hx)
      have d0 : wr.cell? ⟨b, off + k, none⟩ = some (.int .i64 n) := hg.cell c0 (fun e => by have := ((unhide HO).lt b e.symm).1; omega)
      obtain ⟨zs, hzs⟩ : ∃ zs, V.put n = zs := ⟨_, rfl⟩
      have hzl : 1 ≤ zs.length ∧ zs.length ≤ 5 := by rw [← hzs]; exact V.put_len _
      have CP := put_any n wr
      rw [V.putA_in hrn, hzs] at CP
      have HZ := hide hzs
      have HST : Hid (l ++ V.enc (ns.take (k + 1)) = cur ++ zs) := by
        show _ = _
        have hkk := (List.getElem?_eq_some_iff.1 hx)
        rw [V.enc_take hlt, ← List.append_assoc, ← unhide HC, hkk.2, unhide HZ]
      have HOW := hide hown
      have HGR := hide hg
      clear hc hx hzs hown hg c0
      go_wp2_with fail
      refine CP.mono ?_
      rintro e w1 ⟨v1, rfl, O1, B1⟩
      have P1 := Sl.owned O1
      obtain ⟨za, zc, hv1, -⟩ := id P1
      subst hv1
      have OB1 := own_below (unhide HOW) B1
      have hs1 := B1.size
      have HB1 := hide B1
      clear O1 CP B1
      go_wp2_with (at_builtin; refine append_allL rfl _ _ 33 rfl Tryz.underlying33 hi hz0 hz1 hz2 rfl (B := B) (w0 := w1) (pre := cur) (zs := zs) rfl rfl P1 (by omega) OB1 (Below.refl _ _) (by omega) (by omega) (by decide) ?_; intro v2 w2 O2 b2 g2 l2)
      have hs2 := g2.size
      have hsg := (unhide HGR).size
      have G2 : w.grownBy w2 vb.ownBlock := grown_loc (grown_loc (unhide HGR) (grown_below (unhide HB1) none) (fun j hj => by cases hj)) g2 (fun j hj => unhide HL j hj)
      have HL2 : Hid (∀ k, v2.ownBlock = some k → vb.ownBlock = some k ∨ w.heap.size ≤ k) := hide (fun j hj => by
        rcases l2 j hj with h | h
        · exact unhide HL j h
        · exact .inr (by omega))
      clear g2 l2 b2 OB1 P1
      go_wp2
      go_roundw
      case rel => exact ⟨k + 1, cur ++ zs, by omega, by go_num, by (show _ = _; rw [unhide HST]), by simp; omega, O2, G2, HL2, by omega⟩
      case measure => simp [intOf]; omega
    · have e : cur = l ++ V.enc ns := by rw [unhide HC, List.take_of_length_le (by omega)]
      subst e
      go_wp2
      go_ret
      exact ⟨_, rfl, hown, hg, unhide HL⟩
end Go.Proofs.YtonhehhmnobciaaGreat

/-
  The contract of many at words with their postings, and of the closure that is handed to it.
-/
namespace Go.Proofs.YtonhehhmnobciaaGreat
set_option maxRecDepth 100000
open Go.RowKit

theorem cell_two {w : World} {p q r : Addr} {x : Value} (h : w.cell? r = some x) (hp : r.block ≠ p.block) (hq : r.block ≠ q.block) (u1 u2 : Value) : ((w.setCell p u1).setCell q u2).cell? r = some x := by
  have key : ∀ (w : World) (p : Addr) (u : Value), w.cell? r = some x → r.block ≠ p.block → (w.setCell p u).cell? r = some x := fun w p u h hp => (grown_set w p u).cell h (by simpa using hp)
  exact key _ _ _ (key _ _ _ h hp) hq
theorem PlO.keep {B : Nat} {w w' : World} {v : Value} {L : List Pt} (h : PlO B w v L) (f1 : ∀ v n xs, w.ownsRow B 95 2 v n xs → w'.ownsRow B 95 2 v n xs) (f2 : ∀ v z, Pa B w v z → Pa B w' v z) : PlO B w' v L := by
  obtain ⟨cs, h1, h2⟩ := h
  exact ⟨cs, f1 _ _ _ h1, h2.turn f2⟩
theorem own_far {w w' : World} {B g K n : Nat} {e : TypeId} {v : Value} {xs : List Value} (h : w.ownsRow B e K v n xs) (hg : w.grownBy w' (some g)) (hgB : g < B) : w'.ownsRow B e K v n xs :=
  h.kept hg (by
    cases hv : v.ownBlock with
    | none => exact .inl rfl
    | some q => exact .inr (by have := (h.lt q hv).1; simp; omega))
theorem PlO.far9 {B g : Nat} {w w' : World} {v : Value} {L : List Pt} (h : PlO B w v L) (hg : w.grownBy w' (some g)) (hgB : g < B) : PlO B w' v L :=
  h.keep (fun _ _ _ h => own_far h hg hgB) (fun _ _ h => own_far h hg hgB)

/-- Words with their postings, all of the call's own. -/
def TmO (B : Nat) (w : World) (v : Value) (L : List Tm) : Prop :=
  ∃ ps : List (Tm × Pts), w.ownsRow B 57 2 v ps.length (ps.flatMap encT) ∧ ps.map (·.1) = L ∧ ∀ p ∈ ps, PlO B w (sv p.2) p.1.p
theorem TmO.ts {B : Nat} {w : World} {v : Value} {L : List Tm} (h : TmO B w v L) : Ts w v L := by
  obtain ⟨ps, h1, rfl, h3⟩ := h
  exact Ts.own h1 fun p hp => (h3 p hp).pl
theorem TmO.nil (B : Nat) (w : World) : TmO B w (.slice none 0 0) [] := ⟨[], World.ownsRow_nil _ _ _ _, rfl, fun p hp => by cases hp⟩
theorem TmO.far9 {B g : Nat} {w w' : World} {v : Value} {L : List Tm} (h : TmO B w v L) (hg : w.grownBy w' (some g)) (hgB : g < B) : TmO B w' v L := by
  obtain ⟨ps, h1, h2, h3⟩ := h
  exact ⟨ps, own_far h1 hg hgB, h2, fun p hp => (h3 p hp).far9 hg hgB⟩
theorem TmO.below {B : Nat} {w w' : World} {v : Value} {L : List Tm} (h : TmO B w v L) (hb : Below w.heap.size w w') : TmO B w' v L := by
  obtain ⟨ps, h1, h2, h3⟩ := h
  exact ⟨ps, own_below h1 hb, h2, fun p hp => (h3 p hp).below hb⟩
theorem TmO.mono {B B' : Nat} {w : World} {v : Value} {L : List Tm} (h : TmO B w v L) (hB : B' ≤ B) : TmO B' w v L := by
  obtain ⟨ps, h1, h2, h3⟩ := h
  exact ⟨ps, own_mono h1 hB, h2, fun p hp => (h3 p hp).mono hB⟩

set_option maxHeartbeats 2000000 in
theorem clo4_any (g N P Wb i : Nat) (ws : List ByteArray) (t : ByteArray) (wa : Option Addr) (wc : Nat) (s : Sr) (w : World) (h : Sb g N w s) (hNw : N ≤ w.heap.size) (hP : w.cell? ⟨P, 0, none⟩ = some (.pointer (some ⟨g, 0, none⟩))) (hPg : P ≠ g)
    (hW : w.cell? ⟨Wb, 0, none⟩ = some (.slice wa ws.length wc)) (hWg : Wb ≠ g) (hG : Gl .string w (.slice wa ws.length wc) ws) (hnb : ∀ x, wa = some x → x.block ≠ g) (ht : ws[i]? = some t) (hwl : ws.length ≤ 1000) :
    Calls Tryz.prog 67 #[.int .i64 (i : Int), .pointer (some ⟨Wb, 0, none⟩), .pointer (some ⟨P, 0, none⟩)] w fun e w' => ∃ pv, e = .returned (.agg #[.string t, pv]) ∧ PlO w.heap.size w' pv (J.posts s).1 ∧ Sb g N w' (J.posts s).2 ∧ w.grownBy w' (some g) := by
  have hil := (List.getElem?_eq_some_iff.1 ht).1
  obtain ⟨wa', wc', hv', -, -, -, ho⟩ := hG.open
  simp only [Value.slice.injEq, true_and] at hv'
  obtain ⟨rfl, rfl⟩ := hv'
  obtain ⟨b, off, rfl, hbw, hc⟩ := ho (by omega)
  have c0 := hc i t ht
  have hbg := hnb _ rfl
  simp only at hbg
  have hgw := h.lt
  have hPw : P < w.heap.size := World.block_lt_of_cell? w _ hP
  have hWw : Wb < w.heap.size := World.block_lt_of_cell? w _ hW
  obtain ⟨W0, hW0⟩ : ∃ W0, W0 = w.alloc (.cells #[.string ⟨#[]⟩, .slice none 0 0] 57) := ⟨_, rfl⟩
  have B0 : Below w.heap.size w W0 := by rw [hW0]; exact below_alloc _ _
  have R0 : W0.heap[w.heap.size]? = some (.cells #[.string ⟨#[]⟩, .slice none 0 0] 57 (0, 0)) := by rw [hW0]; exact heap_alloc_new w _
  have k0 := cell_keep hW B0
  have k1 := cell_keep c0 B0
  have k2 := cell_keep hP B0
  have hs0 := B0.size
  have HC := hide (posts9_any g N s W0.drew ((h.below B0).below (below_dr (Below.refl _ _) 1)))
  have HW0 := hide hW0
  have HR0 := hide R0
  have HB0 := hide B0
  have p1 : (i : Int) < (ws.length : Int) := by omega
  have hW0s : W0.heap.size = w.heap.size + 1 := by rw [hW0]; simp
  clear hW0 h ho hc hG hnb R0 B0 hP hW c0
  go_enter Tryz.func67, Tryz.ntmps67
  go_wp2
  rw [← unhide HW0]
  go_region_held3 (fun w' => w'.cell? ⟨Wb, 0, none⟩ = some (.slice (some ⟨b, off, none⟩) ws.length wc) ∧ w'.cell? ⟨b, off + i, none⟩ = some (.string t) ∧ w'.cell? ⟨P, 0, none⟩ = some (.pointer (some ⟨g, 0, none⟩)))
    (first
      | (go_split_ands; exact ⟨k0, k1, k2⟩)
      | (go_split_ands; exact ⟨G1.cell (by assumption) (by simpa using hWg), G1.cell (by assumption) (by simpa using hbg), G1.cell (by assumption) (by simpa using hPg)⟩)
      | (go_split_ands; exact ⟨cell_two (by assumption) (by simp only; omega) (by simp only; omega) _ _, cell_two (by assumption) (by simp only; omega) (by simp only; omega) _ _, cell_two (by assumption) (by simp only; omega) (by simp only; omega) _ _⟩))
    ((go_at_call 68; refine (unhide HC).mono ?_; rintro e w1 ⟨pv, rfl, O1, b1, G1⟩; obtain ⟨pa, pc, rfl, -⟩ := id O1.pl
      have t9 := box_grown (w := W0.drew) (unhide HR0) G1 (by simp; omega)
      have t0 : w1.cell? ⟨w.heap.size, 0, none⟩ = some (.string ⟨#[]⟩) := box_cell t9 rfl
      have t1 : w1.cell? ⟨w.heap.size, 1, none⟩ = some (.slice none 0 0) := box_cell t9 rfl
      have t2 := box_frozen t9 0
      have t3 := box_frozen t9 1))
  have G2 : w.grownBy w1 (some g) := (grown_below (unhide HB0) (some g)).trans ((grown_drewN W0 1 (some g)).trans G1)
  have hs1 := G1.size
  go_wp2
  refine bodyPost_ret (v := .agg #[.string t, .slice pa (J.posts s).1.length pc]) (by simp [results, Tryz.results67, go_sem, t0, t1]) rfl ⟨_, rfl, ?_, ?_, ?_⟩
  · have O2 : PlO (w.heap.size + 1) w1 (.slice pa (J.posts s).1.length pc) (J.posts s).1 := by
      have e : W0.drew.heap.size = w.heap.size + 1 := hW0s
      rw [e] at O1
      exact O1
    exact ((O2.set (p := ⟨w.heap.size, 0, none⟩) (by simp) _).set (p := ⟨w.heap.size, 1, none⟩) (by simp) _).mono (by omega)
  · have b2 : Sb g N (w1.setCell ⟨w.heap.size, 0, none⟩ (.string t)) (J.posts s).2 := b1.grown (grown_set _ ⟨w.heap.size, 0, none⟩ _) (by simp; omega) (fun q hq => by simp at hq; omega)
    exact b2.grown (grown_set _ ⟨w.heap.size, 1, none⟩ _) (by simp; omega) (fun q hq => by simp at hq; omega)
  · have G3 : w.grownBy (w1.setCell ⟨w.heap.size, 0, none⟩ (.string t)) (some g) := grown_own G2 (grown_set _ ⟨w.heap.size, 0, none⟩ _) (fun j hj => by simp at hj; omega)
    exact grown_own G3 (grown_set _ ⟨w.heap.size, 1, none⟩ _) (fun j hj => by simp at hj; omega)

set_option maxHeartbeats 2000000 in
theorem manyT_any (g N P Wb : Nat) (ws : List ByteArray) (wa : Option Addr) (wc : Nat) (s : Sr) (w : World) (h : Sb g N w s) (hNw : N ≤ w.heap.size) (hP : w.cell? ⟨P, 0, none⟩ = some (.pointer (some ⟨g, 0, none⟩))) (hPg : P ≠ g)
    (hW : w.cell? ⟨Wb, 0, none⟩ = some (.slice wa ws.length wc)) (hWg : Wb ≠ g) (hG : Gl .string w (.slice wa ws.length wc) ws) (hnb : ∀ x, wa = some x → x.block ≠ g) (hwl : ws.length ≤ 1000) (r) (hr : J.many (J.term ws) ws.length 0 s = r) :
    Calls Tryz.prog 66 #[.pointer (some ⟨g, 0, none⟩), .int .i64 (ws.length : Int), .func (.func 67) #[] #[.pointer (some ⟨Wb, 0, none⟩), .pointer (some ⟨P, 0, none⟩)]] w fun e w' => ∃ v', e = .returned v' ∧ TmO w.heap.size w' v' r.1 ∧ Sb g N w' r.2 ∧ w.grownBy w' (some g) := by
  obtain ⟨i9, hi9, hz90, hz91, hz92⟩ := info_parts Tryz.infoT
  have hPw : P < w.heap.size := World.block_lt_of_cell? w _ hP
  have hWw : Wb < w.heap.size := World.block_lt_of_cell? w _ hW
  have hgw := h.lt
  have HR := hide hr
  have HS0 := hide h
  have HGL := hide hG
  have HNB := hide hnb
  clear hr h hG hnb
  go_enter Tryz.func66, Tryz.ntmps66
  go_wp2
  go_loopw [7, 8] (fun ov iv wr => ∃ (i : Nat) (ps : List (Tm × Pts)) (si : Sr), i ≤ ws.length ∧ iv = .int .i64 i ∧ ps.length ≤ i ∧ Hid (J.many (J.term ws) ws.length 0 s = (ps.map (·.1) ++ (J.many (J.term ws) (ws.length - i) i si).1, (J.many (J.term ws) (ws.length - i) i si).2)) ∧ Sb g N wr si ∧ wr.ownsRow w.heap.size 57 2 ov ps.length (ps.flatMap encT) ∧ Hid (∀ p ∈ ps, PlO w.heap.size wr (sv p.2) p.1.p) ∧ w.grownBy wr (some g)) (fun _ iv _ => ws.length - (intOf iv).toNat)
  case atStart => exact ⟨0, [], s, Nat.zero_le _, rfl, Nat.zero_le _, by (show _ = _; simp), unhide HS0, World.ownsRow_nil _ _ _ _, hide (fun p hp => by cases hp), grown_refl' _ _⟩
  case round =>
    obtain ⟨i, ps, si, hi, rfl, hxl, HM, hb, hown, HPL, hg⟩ := hrel
    have hPr : wr.cell? ⟨P, 0, none⟩ = some (.pointer (some ⟨g, 0, none⟩)) := hg.cell hP (by simpa using hPg)
    have hWr : wr.cell? ⟨Wb, 0, none⟩ = some (.slice wa ws.length wc) := hg.cell hW (by simpa using hWg)
    have hsz := hg.size
    by_cases hlt : i < ws.length
    · cases hbad : si.bad with
      | true =>
        obtain ⟨a, cap, hbx, -⟩ := id hb
        have q1 : wr.cell? ⟨g, 1, none⟩ = some (.bool true) := by rw [← hbad]; exact box_cell hbx rfl
        have e9 : J.many (J.term ws) (ws.length - i) i si = ([], si) := by
          obtain ⟨k, hk⟩ : ∃ k, ws.length - i = k + 1 := ⟨ws.length - i - 1, by omega⟩
          rw [hk, J.many, if_pos hbad]
        have hr9 := unhide HR
        rw [unhide HM, e9] at hr9
        simp only [List.append_nil] at hr9
        have HR9 := hide hr9
        have Hb := hide hb
        have Ho := hide hown
        have HG := hide hg
        clear hbx hr9 e9 hb hown hg hbad
        go_wp2
        go_ret
        rw [← unhide HR9]
        exact ⟨_, rfl, ⟨ps, unhide Ho, rfl, unhide HPL⟩, unhide Hb, unhide HG⟩
      | false =>
        obtain ⟨a, cap, hbx, -⟩ := id hb
        have q1 : wr.cell? ⟨g, 1, none⟩ = some (.bool false) := by rw [← hbad]; exact box_cell hbx rfl
        obtain ⟨t, ht⟩ : ∃ t, ws[i]? = some t := ⟨ws[i], List.getElem?_eq_getElem hlt⟩
        have hgt : ws.getD i ⟨#[]⟩ = t := by simp [List.getD, ht]
        have e9 : J.many (J.term ws) (ws.length - i) i si = (⟨t, (J.posts si).1⟩ :: (J.many (J.term ws) (ws.length - (i + 1)) (i + 1) (J.posts si).2).1, (J.many (J.term ws) (ws.length - (i + 1)) (i + 1) (J.posts si).2).2) := by
          obtain ⟨k, hk⟩ : ∃ k, ws.length - i = k + 1 := ⟨ws.length - i - 1, by omega⟩
          rw [hk, J.many, if_neg (by rw [hbad]; decide), show ws.length - (i + 1) = k by omega]
          unfold J.term
          simp only
          rw [hgt]
        have HM2 : Hid (J.many (J.term ws) ws.length 0 s = ((ps.map (·.1) ++ [⟨t, (J.posts si).1⟩]) ++ (J.many (J.term ws) (ws.length - (i + 1)) (i + 1) (J.posts si).2).1, (J.many (J.term ws) (ws.length - (i + 1)) (i + 1) (J.posts si).2).2)) := by
          show _ = _
          rw [unhide HM, e9]
          simp
        have hGr : Gl .string wr (.slice wa ws.length wc) ws := by
          obtain ⟨a', cap', hv, hl, hm, hn, hc⟩ := unhide HGL
          simp only [Value.slice.injEq, true_and] at hv
          obtain ⟨rfl, rfl⟩ := hv
          refine ⟨wa, wc, rfl, hl, hm, hn, fun x hx j y hj => ?_⟩
          refine hg.cell (hc x hx j y hj) fun e => ?_
          have hb : (x.add j).block = x.block := by unfold Addr.add; split <;> rfl
          rw [hb] at e
          exact unhide HNB x hx (by simpa using e)
        have CC := clo4_any g N P Wb i ws t wa wc si wr hb (by omega) hPr hPg hWr hWg hGr (unhide HNB) ht hwl
        obtain ⟨x, hx⟩ : ∃ x, (J.posts si).1 = x := ⟨_, rfl⟩
        obtain ⟨s2, hs2⟩ : ∃ s2, (J.posts si).2 = s2 := ⟨_, rfl⟩
        rw [hx, hs2] at HM2 CC
        have HX := hide hx
        have Ho := hide hown
        have HG := hide hg
        clear hbx e9 hb hown hg hbad hx hs2 HM hGr ht hgt
        go_wp2_with fail
        refine CC.mono ?_
        rintro e w1 ⟨pv, rfl, PL1, b1, G1⟩
        obtain ⟨pa, pc, rfl, -⟩ := id PL1.pl
        have hs1 := G1.size
        have O1 : w1.ownsRow w.heap.size 57 2 u7 ps.length (ps.flatMap encT) := own_far (unhide Ho) G1 hgw
        have HP1 : Hid (∀ p ∈ ps, PlO w.heap.size w1 (sv p.2) p.1.p) := hide (fun p hp => (unhide HPL p hp).far9 G1 hgw)
        have GG1 := (unhide HG).trans G1
        have Hb1 := hide b1
        have HGG := hide GG1
        have HPN := hide (PL1.mono hsz)
        clear b1 G1 GG1 CC PL1
        go_wp2_with (at_builtin; refine append_oneF (f := encT) rfl _ _ 27 rfl Tryz.underlying27 hi9 hz90 hz91 hz92 rfl (by decide) encT_len encT_one (pre := ps) (v := u7) (⟨t, x⟩, (pa, x.length, pc)) rfl rfl rfl (by simp) O1 (by omega) (by omega) (by decide) ?_
                     intro g3 q3 w3 O3 g3' l3)
        have G3 := grown_own (unhide HGG) g3' (fun j hj => (O1.lt j hj).1)
        have b3 : Sb g N w3 s2 := (unhide Hb1).grown g3' (fun e => by have := (O1.lt g e).1; omega) (fun q hq => by have := (O1.lt q hq).1; omega)
        have K3 : ∀ (v : Value) (L : List Pt), PlO w.heap.size w1 v L → PlO w.heap.size w3 v L := fun v L h => h.keep (fun _ _ _ h => h.kept g3' (own_apart h O1 (by decide))) (fun _ _ h => World.ownsRow.kept h g3' (own_apart h O1 (by decide)))
        have HPL3 : Hid (∀ p ∈ ps ++ [((⟨t, x⟩ : Tm), ((pa, x.length, pc) : Pts))], PlO w.heap.size w3 (sv p.2) p.1.p) := hide (fun p hp => by
          rcases List.mem_append.1 hp with h9 | h9
          · exact K3 _ _ (unhide HP1 p h9)
          · simp only [List.mem_singleton] at h9
            subst h9
            exact K3 _ _ (unhide HPN))
        have HO3 := hide O3
        clear O3 g3' l3 O1 K3
        go_wp2
        go_roundw
        case rel => exact ⟨i + 1, ps ++ [(⟨t, x⟩, (pa, x.length, pc))], s2, by omega, by go_num, by simp; omega, by (show _ = _; rw [unhide HM2]; simp), b3, unhide HO3, HPL3, G3⟩
        case measure => simp [intOf]; omega
    · have e9 : J.many (J.term ws) (ws.length - i) i si = ([], si) := by
        rw [show ws.length - i = 0 by omega]
        rfl
      have hr9 := unhide HR
      rw [unhide HM, e9] at hr9
      simp only [List.append_nil] at hr9
      have HR9 := hide hr9
      have Hb := hide hb
      have Ho := hide hown
      have HG := hide hg
      clear hr9 e9 hb hown hg
      go_wp2
      go_ret
      rw [← unhide HR9]
      exact ⟨_, rfl, ⟨ps, unhide Ho, rfl, unhide HPL⟩, unhide Hb, unhide HG⟩
end Go.Proofs.YtonhehhmnobciaaGreat
