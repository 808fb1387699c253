/-
  The contract of postings: a block of just n postings.
-/
import Derived.Test.YtjkaidlgooemoaaPosting6
import Derived.Test.YtjkaidlgooemoaaPApp6
import Derived.Test.YtjkaidlgooemoaaInsB6
namespace Go.Proofs.Ytjkaidlgooemoaa
open Go.RowKit

def Q.onto (pre : List Pt) : Option (List Pt × Nat) → Option (List Pt × Nat)
  | none => none
  | some (L, e) => some (pre ++ L, e)
theorem Q.onto_nil (r : Option (List Pt × Nat)) : Q.onto [] r = r := by cases r <;> rfl
theorem Q.onto_none {c : Nat} {m : Int} {q : List Int} {p : Nat} {pre : List Pt} (h : Q.post1 q p = none) : Q.onto pre (Q.postN (c + 1) m q p) = none := by
  rw [Q.postN]
  unfold Q.post1 at h
  cases h1 : V.getH 5 (q.drop p) with
  | none => rfl
  | some sk =>
    obtain ⟨s, k⟩ := sk
    rw [h1] at h
    simp only [] at h ⊢
    cases h2 : V.readP q (p + k) with
    | none => rfl
    | some xq => rw [h2] at h; simp at h
theorem Q.onto_some {c : Nat} {m s : Int} {q xs : List Int} {p p' : Nat} {pre : List Pt} (h : Q.post1 q p = some (s, xs, p')) : Q.onto pre (Q.postN (c + 1) m q p) = Q.onto (pre ++ [⟨m + (s + 1), xs⟩]) (Q.postN c (m + (s + 1)) q p') := by
  rw [Q.postN]
  unfold Q.post1 at h
  cases h1 : V.getH 5 (q.drop p) with
  | none => rw [h1] at h; simp at h
  | some sk =>
    obtain ⟨s', k⟩ := sk
    rw [h1] at h
    simp only [] at h ⊢
    cases h2 : V.readP q (p + k) with
    | none => rw [h2] at h; simp at h
    | some xq =>
      obtain ⟨xs', q'⟩ := xq
      rw [h2] at h
      simp at h
      obtain ⟨rfl, rfl, rfl⟩ := h
      simp only []
      cases Q.postN c (m + (s' + 1)) q q' with
      | none => rfl
      | some z => simp [Q.onto]
theorem Q.post1_bd {q xs : List Int} {p p' : Nat} {s : Int} (hb : V.Byt q) (hp : p ≤ q.length) (h : Q.post1 q p = some (s, xs, p')) : (0 ≤ s ∧ s ≤ 34359738367) ∧ p' ≤ q.length ∧ xs.length ≤ 2000 := by
  unfold Q.post1 at h
  cases h1 : V.getH 5 (q.drop p) with
  | none => rw [h1] at h; simp at h
  | some sk =>
    obtain ⟨s', k⟩ := sk
    rw [h1] at h
    simp only [] at h
    obtain ⟨a1, a2, a3, a4, a5⟩ := V.put_getH (hb.drop p) h1
    unfold V.Top at a3
    simp only [List.length_drop] at a5
    cases h2 : V.readP q (p + k) with
    | none => rw [h2] at h; simp at h
    | some xq =>
      obtain ⟨xs', q'⟩ := xq
      rw [h2] at h
      simp at h
      obtain ⟨rfl, rfl, rfl⟩ := h
      obtain ⟨r1, r2, r3, r4⟩ := V.readP_back hb (by omega) h2
      simp only [V.rises, Bool.and_eq_true, decide_eq_true_eq] at r3
      exact ⟨⟨a2, a3⟩, r2, r3.1⟩
theorem Q.lastD_snoc : ∀ (pre : List Pt) (m : Int) (x : Pt), Q.lastD m (pre ++ [x]) = x.d
  | [], _, _ => rfl
  | _ :: r, _, x => Q.lastD_snoc r _ x

theorem grown_own {w a b : World} {g : Nat} {row : Option Nat} (h : w.grownBy a (some g)) (k : a.grownBy b row) (hr : ∀ j, row = some j → w.heap.size ≤ j) : w.grownBy b (some g) :=
  ⟨k.os.trans h.os, k.tape.trans h.tape, k.output.trans h.output, Nat.le_trans h.size k.size, fun j hj hj2 => (k.block j (Nat.lt_of_lt_of_le hj h.size) (fun e => by have := hr j e.symm; omega)).trans (h.block j hj hj2)⟩

/-- Postings in memory of the call's own, to their last lists. -/
def PlO (B : Nat) (w : World) (v : Value) (L : List Pt) : Prop := ∃ cs, w.ownsRow B 39 2 v L.length cs ∧ PCp (Pa B w) cs L
theorem PlO.pl {B : Nat} {w : World} {v : Value} {L : List Pt} (h : PlO B w v L) : Pl w v L := by
  obtain ⟨cs, h1, h2⟩ := h
  exact pl_of h1 (h2.turn fun u z h => Pa.sl h)
theorem PlO.below {B : Nat} {w w' : World} {v : Value} {L : List Pt} (h : PlO B w v L) (b : Below w.heap.size w w') : PlO B w' v L := by
  obtain ⟨cs, h1, h2⟩ := h
  exact ⟨cs, own_below h1 b, h2.turn fun u z h => own_below h b⟩
theorem PlO.mono {B B' : Nat} {w : World} {v : Value} {L : List Pt} (h : PlO B w v L) (hB : B' ≤ B) : PlO B' w v L := by
  obtain ⟨cs, h1, h2⟩ := h
  exact ⟨cs, own_mono h1 hB, h2.turn fun u z h => own_mono h hB⟩
theorem PlO.nil (B : Nat) (w : World) : PlO B w (.slice none 0 0) [] := ⟨[], World.ownsRow_nil _ _ _ _, trivial⟩
/-- The places of one of them: read, and in a block from B on. -/
theorem PlO.far {B : Nat} {w : World} {b off n cap : Nat} {L : List Pt} (h : PlO B w (.slice (some ⟨b, off, none⟩) n cap) L) {i : Nat} {p : Pt} (hp : L[i]? = some p) {dv : Value} (hd : w.cell? ⟨b, off + i * 2 + 1, none⟩ = some dv) :
    Sl .i64 w dv p.a ∧ ∀ a n c, dv = .slice (some a) n c → B ≤ a.block := by
  obtain ⟨cs, h1, h2⟩ := h
  obtain ⟨u, -, k1, hu⟩ := h2.at i p hp
  rcases own_form h1 with ⟨h0, -⟩ | ⟨g, cp, h0, -⟩
  · simp at h0
  · simp only [Value.slice.injEq, Option.some.injEq, Addr.mk.injEq, and_true] at h0
    obtain ⟨⟨rfl, rfl⟩, rfl, rfl⟩ := h0
    have k2 := (own_room h1).2.2.1 _ _ k1
    rw [Nat.zero_add] at hd
    rw [k2] at hd
    simp at hd
    subst hd
    refine ⟨Pa.sl hu, fun a n c e => ?_⟩
    subst e
    exact (World.ownsRow.lt hu a.block rfl).1

/-- What postings answers, and leaves. -/
def PossEnd (g : Nat) (v : Value) (q : List Int) (m : Int) (w : World) (r : Option (List Pt × Nat)) (e : Ending) (w' : World) : Prop :=
  match r with
  | some (G, p') => ∃ v' cs, e = .returned (.tuple #[v', .bool (decide (p' = q.length))]) ∧ w'.ownsRow w.heap.size 39 2 v' G.length cs ∧ PCp (Pa w.heap.size w') cs G ∧
      w'.heap[g]? = some (.cells #[v, .int .i64 (p' : Int), .int .i64 (Q.lastD m G)] 79 (0, 0)) ∧ w.grownBy w' (some g)
  | none => e = .returned (.tuple #[.slice none 0 0, .bool false]) ∧ w.grownBy w' (some g)

set_option maxHeartbeats 4000000 in
theorem postings_any (g : Nat) (v : Value) (q : List Int) (m0 : Int) (n : Nat) (w : World) (hb : w.heap[g]? = some (.cells #[v, .int .i64 0, .int .i64 m0] 79 (0, 0)))
    (hs : Sl .u8 w v q) (hbt : V.Byt q) (hn : n ≤ 4) (hm : -1 ≤ m0 ∧ m0 ≤ 100000000000) (hvg : ∀ a n c, v = .slice (some a) n c → 0 < n → a.block ≠ g) :
    Calls Try.prog 60 #[.pointer (some ⟨g, 0, none⟩), .int .i64 (n : Int)] w fun e w' => PossEnd g v q m0 w (Q.postN n m0 q 0) e w' := by
  have hgw := (Array.getElem?_eq_some_iff.1 hb).1
  go_enter Try.func60, Try.ntmps60
  go_wp2
  go_loopw [6, 10] (fun ov iv wr => ∃ (i p : Nat) (pre : List Pt) (m : Int) (cs : List Value), i ≤ n ∧ iv = .int .i64 i ∧ p ≤ q.length ∧ pre.length = i ∧ (-1 ≤ m ∧ m ≤ m0 + (i : Int) * 34359738368) ∧ Hid (Q.lastD m0 pre = m) ∧ Hid (Q.postN n m0 q 0 = Q.onto pre (Q.postN (n - i) m q p)) ∧
      wr.ownsRow w.heap.size 39 2 ov pre.length cs ∧ PCp (Pa w.heap.size wr) cs pre ∧ Hid (wr.heap[g]? = some (.cells #[v, .int .i64 (p : Int), .int .i64 m] 79 (0, 0))) ∧ w.grownBy wr (some g)) (fun _ iv _ => n - (intOf iv).toNat)
  case atStart => exact ⟨0, 0, [], m0, [], Nat.zero_le _, rfl, Nat.zero_le _, rfl, by omega, hide rfl, hide (by rw [Q.onto_nil]; rfl), World.ownsRow_nil _ _ _ _, trivial, hide (by simpa using hb), ⟨rfl, rfl, rfl, Nat.le_refl _, fun _ _ _ => rfl⟩⟩
  case round =>
    obtain ⟨i, p, pre, m, cs, hi, rfl, hp, hpl, hmm, HLD, HON, hown, hpc, HBX, hgr⟩ := hrel
    have hsr := hs.grown hgr hvg
    have hwz := hgr.size
    by_cases hlt : i < n
    · have hlt' : (i : Int) < (n : Int) := by omega
      have HP := hide (posting_any g v q p m wr (unhide HBX) hsr hbt hp (by omega) hvg)
      have kp : ∀ {e : TypeId} {K : Nat} {u : Value} {k : Nat} {xs : List Value} {w1 : World}, wr.ownsRow w.heap.size e K u k xs → wr.grownBy w1 (some g) → w1.ownsRow w.heap.size e K u k xs := fun {e K u k xs w1} o gg => by
        refine o.kept gg ?_
        cases hu : u.ownBlock with
        | none => exact .inl rfl
        | some j => exact .inr fun ee => by have := (o.lt j hu).1; simp at ee; omega
      cases h1 : Q.post1 q p with
      | none =>
        have HN := hide (show Q.postN n m0 q 0 = none by
          rw [unhide HON, show n - i = n - i - 1 + 1 by omega]
          exact Q.onto_none h1)
        have HPP := unhide HP
        rw [h1] at HPP
        have HP2 := hide HPP
        clear HPP HP h1 hown hpc
        go_wp2_with fail
        refine (unhide HP2).mono ?_
        rintro e w1 ⟨rfl, G1⟩
        go_wp2
        refine bodyPost_ret (v := .tuple #[.slice none 0 0, .bool false]) (by simp [results, Try.results60, go_sem]) rfl ?_
        rw [unhide HN]
        exact ⟨rfl, (hgr.trans G1).trans (World.grownBy_alloc _ _ _)⟩
      | some sx =>
        obtain ⟨s, xs, p'⟩ := sx
        obtain ⟨k1, k2, k3⟩ := Q.post1_bd hbt hp h1
        have HN := hide (show Q.postN n m0 q 0 = Q.onto (pre ++ [⟨m + (s + 1), xs⟩]) (Q.postN (n - (i + 1)) (m + (s + 1)) q p') by
          rw [unhide HON, show n - i = n - (i + 1) + 1 by omega]
          exact Q.onto_some h1)
        have HPP := unhide HP
        rw [h1] at HPP
        have HP2 := hide HPP
        obtain ⟨d, hd⟩ : ∃ d, d = m + (s + 1) := ⟨_, rfl⟩
        have HD := hide hd
        clear HPP HP h1 hd
        go_wp2_with fail
        refine (unhide HP2).mono ?_
        rintro e w1 ⟨v1, rfl, bx1, P1, G1⟩
        rw [← unhide HD] at bx1 ⊢
        obtain ⟨va, vc, hv1, -⟩ := id (Pa.sl P1)
        subst hv1
        have O1 := kp hown G1
        have C1 := hpc.turn (fun u z h => kp h G1)
        have P1' : Pa w.heap.size w1 (.slice va xs.length vc) xs := own_mono P1 hwz
        have GG1 := hgr.trans G1
        obtain ⟨W2, hW2⟩ : ∃ W2, W2 = w1.alloc (.cells #[.int .i64 d, .slice va xs.length vc] 39) := ⟨_, rfl⟩
        have B2 : Below w1.heap.size w1 W2 := by rw [hW2]; exact below_alloc _ _
        have O2 := own_below O1 B2
        have C2 := C1.turn (fun u z h => own_below h B2)
        have P2 := own_below P1' B2
        have bx2 := box_below bx1 B2
        have GG2 := GG1.trans (grown_below B2 _)
        have hz2 := GG2.size
        have HBX2 := hide bx2
        have HKA := hide (fun u z (h : Pa w.heap.size W2 u z) => own_apart h O2 (by decide : (3 : TypeId) ≠ 39))
        have hbl2 : ∀ j, u6.ownBlock = some j → w.heap.size ≤ j := fun j hj => (O2.lt j hj).1
        have HBL2 := hide hbl2
        have HO2 := hide O2
        subst hW2
        clear O1 C1 P1' bx1 bx2 P1 hown hpc kp B2 GG1 G1 hbl2
        go_wp2_with (at_builtin; refine append_post_p (f := ⟨d, xs⟩) Pa.one rfl _ _ rfl rfl rfl (by simp) O2 C2 P2 hz2 (by omega) ?_; intro v3 w3 cs3 O3 C3 G3 E3)
        have C4 : PCp (Pa w.heap.size w3) cs3 (pre ++ [(⟨d, xs⟩ : Pt)]) := C3.turn (fun u z h => World.ownsRow.kept h G3 (unhide HKA u z h))
        have bx3 := box_grown (unhide HBX2) G3 (own_ne_box (unhide HO2) (unhide HBX2) (by decide))
        have GG3 := grown_own GG2 G3 (unhide HBL2)
        have hpl3 : (pre ++ [(⟨d, xs⟩ : Pt)]).length = i + 1 := by simp [hpl]
        go_roundw
        case rel => exact ⟨i + 1, p', pre ++ [(⟨d, xs⟩ : Pt)], d, cs3, by omega, by go_num, k2, hpl3, by have := unhide HD; omega, hide (Q.lastD_snoc _ _ _), hide (by rw [unhide HD]; exact unhide HN), O3, C4, hide bx3, GG3⟩
        case measure => simp [intOf]; omega
    · have hin : i = n := by omega
      subst hin
      have HN := hide (show Q.postN i m0 q 0 = some (pre, p) by rw [unhide HON, Nat.sub_self]; simp [Q.postN, Q.onto])
      have HDN := hide (done_any g _ _ v q p wr (unhide HBX) rfl rfl hsr)
      obtain ⟨oa, on, oc, hov⟩ : ∃ oa on oc, u6 = .slice oa on oc := by
        rcases own_form hown with ⟨rfl, h0⟩ | ⟨g', cap, rfl, -⟩
        · exact ⟨_, _, _, rfl⟩
        · exact ⟨_, _, _, rfl⟩
      subst hov
      obtain ⟨dn, hdn⟩ : ∃ dn, decide (p = q.length) = dn := ⟨_, rfl⟩
      have HDD := hide hdn
      have HOW := hide hown
      clear hdn hown
      go_wp2_with fail
      refine (unhide HDN).mono ?_
      rintro e w1 ⟨rfl, B1⟩
      rw [unhide HDD]
      go_wp2
      refine bodyPost_ret (v := .tuple #[.slice oa on oc, .bool dn]) (by simp [results, Try.results60, go_sem]) rfl ?_
      rw [unhide HN]
      exact ⟨_, cs, by rw [unhide HDD], own_below (unhide HOW) B1, hpc.turn (fun u z h => own_below h B1), by rw [unhide HLD]; exact box_below (unhide HBX) B1, hgr.trans (grown_below B1 _)⟩
end Go.Proofs.Ytjkaidlgooemoaa
