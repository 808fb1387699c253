/-
  The contract of Put: the postings with one more place, or as they were beside an error.
-/
import Derived.Test.YtjkaidlgooemoaaOwn6
import Derived.Test.YtjkaidlgooemoaaInsI6
import Derived.Test.YtjkaidlgooemoaaInsP6
namespace Go.Proofs.Ytjkaidlgooemoaa
open Go.RowKit

theorem PCp.turnAt {Q Q' : Value → List Int → Prop} : ∀ {cs : List Value} {L : List Pt}, (∀ j u z, cs[j * 2 + 1]? = some u → Q u z → Q' u z) → PCp Q cs L → PCp Q' cs L
  | [], [], _, _ => trivial
  | a :: b :: cs, f :: L, hw, h => ⟨h.1, hw 0 b f.a rfl h.2.1, PCp.turnAt (fun j u z hj => hw (j + 1) u z (by rw [show (j + 1) * 2 + 1 = j * 2 + 1 + 1 + 1 by omega]; simpa using hj)) h.2.2⟩
  | [], _ :: _, _, h => h.elim
  | [_], _ :: _, _, h => h.elim
  | _ :: _, [], _, h => by simp [PCp] at h

theorem PCp.put {Q Q' : Value → List Int → Prop} {v3 : Value} {q : Pt} : ∀ {cs : List Value} {L : List Pt} {i : Nat} {p : Pt}, L[i]? = some p → q.d = p.d → Q' v3 q.a → (∀ j u z, j ≠ i → cs[j * 2 + 1]? = some u → Q u z → Q' u z) → PCp Q cs L → PCp Q' (cs.set (i * 2 + 1) v3) (L.set i q)
  | [], [], i, p, hp, _, _, _, _ => by simp at hp
  | a :: b :: cs, f :: L, 0, p, hp, hd, hv, hw, h => by
    simp at hp
    subst hp
    exact ⟨by rw [hd]; exact h.1, hv, PCp.turnAt (fun j u z hj => hw (j + 1) u z (by omega) (by rw [show (j + 1) * 2 + 1 = j * 2 + 1 + 1 + 1 by omega]; simpa using hj)) h.2.2⟩
  | a :: b :: cs, f :: L, i + 1, p, hp, hd, hv, hw, h => by
    rw [show (i + 1) * 2 + 1 = i * 2 + 1 + 1 + 1 by omega]
    exact ⟨h.1, hw 0 b f.a (by omega) rfl h.2.1, PCp.put (by simpa using hp) hd hv (fun j u z hj hu => hw (j + 1) u z (by omega) (by rw [show (j + 1) * 2 + 1 = j * 2 + 1 + 1 + 1 by omega]; simpa using hu)) h.2.2⟩
  | [], _ :: _, _, _, _, _, _, _, h => h.elim
  | [_], _ :: _, _, _, _, _, _, _, h => h.elim
  | _ :: _, [], _, _, _, _, _, _, h => by simp [PCp] at h

theorem Q.arg_may {L : List Pt} {d x : Int} (h : Q.argB L d x = true) : Q.may L = true ∧ (0 ≤ d ∧ d ≤ 63) ∧ (0 ≤ x ∧ x ≤ 119) := by
  simp only [Q.argB, Bool.and_eq_true, decide_eq_true_eq] at h
  exact ⟨h.1.1, h.1.2, h.2⟩

theorem Q.putL_new {L : List Pt} {d x : Int} (h : Q.hasD L d = false) : Q.hasP L d x = false ∧ Q.putL L d x = L.take (Q.first L d) ++ ⟨d, [x]⟩ :: L.drop (Q.first L d) := by
  unfold Q.hasP Q.putL
  cases hp : L[Q.first L d]? with
  | none => exact ⟨rfl, rfl⟩
  | some p =>
    rw [Q.hasD_at hp] at h
    have : ¬ p.d = d := by simpa using h
    simp [this]

theorem Q.putL_old {L : List Pt} {d x : Int} {p : Pt} (hp : L[Q.first L d]? = some p) (hd : p.d = d) : Q.hasP L d x = decide (x ∈ p.a) ∧ Q.putL L d x = L.set (Q.first L d) ⟨d, Q.ins p.a x⟩ := by
  unfold Q.hasP Q.putL
  rw [hp]
  simp [hd]

/-- What Put answers. -/
def PutEnd (w : World) (L : List Pt) (d x : Int) (e : Ending) (w' : World) : Prop :=
  ∃ v', e = .returned (.tuple #[v', .int .i64 (Q.putE L d x)]) ∧ Pl w' v' (Q.putA L d x) ∧ Below w.heap.size w w'

theorem mine_pl {B : Nat} {w w2 : World} {v : Value} {L : List Pt} {cs : List Value} (o : w.ownsRow B 39 2 v L.length cs) (c : PCp (Pa B w) cs L) (b : Below w.heap.size w w2) : Pl w2 v L :=
  pl_of (own_below o b) (c.turn fun _ _ h => (Pa.sl h).below b)

theorem put_new_call {B : Nat} {w2 : World} {v1 : Value} {L : List Pt} {cs : List Value} {i : Nat} (d x : Int) (O2 : w2.ownsRow B 39 2 v1 L.length cs) (C2 : PCp (Pa B w2) cs L) (hB : B ≤ w2.heap.size) (hi : i ≤ L.length) (hL : L.length ≤ 100) :
    Calls Try.prog 29 #[v1, .int .i64 i, .slice (some ⟨w2.heap.size + 1, 0, none⟩) 1 1] ((w2.alloc (.cells #[.int .i64 x] 3)).alloc (.cells #[.int .i64 d, .slice (some ⟨w2.heap.size, 0, none⟩) 1 1] 39))
      fun e w' => ∃ v', e = .returned v' ∧ Pl w' v' (L.take i ++ ⟨d, [x]⟩ :: L.drop i) ∧ Below B w2 w' := by
  obtain ⟨X, hX⟩ : ∃ X, X = (w2.alloc (.cells #[.int .i64 x] 3)).alloc (.cells #[.int .i64 d, .slice (some ⟨w2.heap.size, 0, none⟩) 1 1] 39) := ⟨_, rfl⟩
  rw [← hX]
  have B2 : Below w2.heap.size w2 X := by rw [hX]; exact (below_alloc _ _).alloc (by simp) _
  have OX := own_below O2 B2
  have zX : X.heap.size = w2.heap.size + 2 := by rw [hX]; simp
  have hv : X.heap[w2.heap.size + 1]? = some (.cells [.int .i64 d, .slice (some ⟨w2.heap.size, 0, none⟩) 1 1].toArray 39 (0, 0)) := by
    rw [hX]
    have := heap_alloc_new (w2.alloc (.cells #[.int .i64 x] 3)) (.cells #[.int .i64 d, .slice (some ⟨w2.heap.size, 0, none⟩) 1 1] 39)
    simpa using this
  have hsl : Pa B X (.slice (some ⟨w2.heap.size, 0, none⟩) 1 1) [x] := by
    have h0 := World.ownsRow_lit (base := B) (size := 1) (e := 3) w2 #[.int .i64 x] 1 hB (by unfold maxLen; omega) rfl
    have h1 := h0.alloc (.cells #[.int .i64 d, .slice (some ⟨w2.heap.size, 0, none⟩) 1 1] 39)
    rw [← hX] at h1
    exact h1
  refine (ins_anyP v1 L.length i cs [.int .i64 d, .slice (some ⟨w2.heap.size, 0, none⟩) 1 1] (w2.heap.size + 1) X B OX hv rfl (C2.ones Pa.one) (by simp [Value.oneCell']) (by omega) (fun e => by have := (O2.lt _ e).2; omega) hi (by omega)).mono ?_
  rintro e w' ⟨v', rfl, O', G'⟩
  have K : ∀ u z, Pa B X u z → Sl .i64 w' u z := fun u z h => Pa.sl (World.ownsRow.kept h G' (own_apart h OX (by decide)))
  have CX := C2.turn (fun u z h => K u z (own_below h B2))
  have C' : PC w' (cs.take (i * 2) ++ [.int .i64 d, .slice (some ⟨w2.heap.size, 0, none⟩) 1 1] ++ cs.drop (i * 2)) (L.take i ++ [⟨d, [x]⟩] ++ L.drop i) := ((CX.take i).append (PCp.one (f := ⟨d, [x]⟩) (K _ _ hsl))).append (CX.drop i)
  have hlen : (L.take i ++ ⟨d, [x]⟩ :: L.drop i).length = L.length + 1 := by simp; omega
  refine ⟨v', rfl, pl_of (B := B) (by rw [hlen]; exact O') (by simpa using C'), ?_⟩
  exact (B2.mono hB).grown G' (by omega) (fun j hj => (O2.lt j hj).1)

theorem put_old_call {B : Nat} {w2 : World} {g c1 : Nat} {L : List Pt} {cs : List Value} {i : Nat} {p : Pt} {u : Value} (x : Int) (O2 : w2.ownsRow B 39 2 (.slice (some ⟨g, 0, none⟩) L.length c1) L.length cs) (C2 : PCp (Pa B w2) cs L) (A2 : Ap cs) (hB : B ≤ w2.heap.size) (hp : L[i]? = some p)
    (hu : cs[i * 2 + 1]? = some u) (hU : Pa B w2 u p.a) (hpa : p.a.length ≤ 1000) :
    Calls Try.prog 31 #[u, .int .i64 (Q.ahead p.a x), .slice (some ⟨w2.heap.size, 0, none⟩) 1 1] (w2.alloc (.cells #[.int .i64 x] 3))
      fun e w' => ∃ a3 n3 c3 y, e = .returned (.slice a3 n3 c3) ∧ w'.cell? ⟨g, i * 2 + 1, none⟩ = some y ∧ w'.frozen? ⟨g, i * 2 + 1, none⟩ = false ∧ Pl (w'.setCell ⟨g, i * 2 + 1, none⟩ (.slice a3 n3 c3)) (.slice (some ⟨g, 0, none⟩) L.length c1) (L.set i ⟨p.d, Q.ins p.a x⟩) ∧ Below B w2 w' ∧ B ≤ g := by
  obtain ⟨X, hX⟩ : ∃ X, X = w2.alloc (.cells #[.int .i64 x] 3) := ⟨_, rfl⟩
  rw [← hX]
  have B2 : Below w2.heap.size w2 X := by rw [hX]; exact below_alloc _ _
  have zX : X.heap.size = w2.heap.size + 1 := by rw [hX]; simp
  have hv : X.heap[w2.heap.size]? = some (.cells [.int .i64 x].toArray 3 (0, 0)) := by rw [hX]; exact heap_alloc_new w2 _
  have UX : X.ownsRow B 3 1 u p.a.length (p.a.map (Value.int .i64)) := own_below hU B2
  have OX := own_below O2 B2
  refine (ins_anyI u p.a.length (Q.ahead p.a x) (p.a.map (Value.int .i64)) [.int .i64 x] w2.heap.size X B UX hv rfl (by intro t ht; obtain ⟨q, -, rfl⟩ := List.mem_map.1 ht; rfl) (by simp [Value.oneCell']) (by omega) (fun e => by have := (World.ownsRow.lt hU _ e).2; omega) (Q.ahead_le _ _) (by omega)).mono ?_
  rintro e w' ⟨v', rfl, O', G'⟩
  have O3 := OX.kept G' (own_apart OX UX (by decide))
  obtain ⟨m1, m2, m3, -⟩ := own_room O3
  have hi2 : i * 2 + 1 < L.length * 2 := by have := (List.getElem?_eq_some_iff.1 hp).1; omega
  obtain ⟨y, hy⟩ := Option.isSome_iff_exists.1 (m1 (i * 2 + 1) hi2)
  have hgB := (O2.lt g rfl)
  have hins : (p.a.map (Value.int .i64)).take (Q.ahead p.a x * 1) ++ [.int .i64 x] ++ (p.a.map (Value.int .i64)).drop (Q.ahead p.a x * 1) = (Q.ins p.a x).map (Value.int .i64) := by
    simp [Q.ins, List.map_take, List.map_drop]
  rw [hins] at O'
  have P' : Pa B w' v' (Q.ins p.a x) := by unfold Pa; rw [Q.ins_len]; exact O'
  have hgne : ∀ {t : Value} {z : List Int}, Pa B w' t z → ∀ k, t.ownBlock = some k → k ≠ g := fun {t z} h k hk e => by
    rcases own_apart h O3 (by decide) with e1 | e1
    · rw [hk] at e1; cases e1
    · exact e1 (by rw [hk, e]; rfl)
  have KS : ∀ {t : Value} {z : List Int} (q : Value), Pa B w' t z → Sl .i64 (w'.setCell ⟨g, i * 2 + 1, none⟩ q) t z := fun q h => Sl.owned (own_set h (p := ⟨g, i * 2 + 1, none⟩) (hgne h) q)
  obtain ⟨a3, n3, c3, hv3⟩ : ∃ a3 n3 c3, v' = .slice a3 n3 c3 := by
    rcases own_form O' with ⟨rfl, _⟩ | ⟨g3, cap3, rfl, -⟩
    · exact ⟨_, _, _, rfl⟩
    · exact ⟨_, _, _, rfl⟩
  subst hv3
  have OS := (O3.stored (i * 2 + 1) (.slice a3 n3 c3)).1
  have CS : PC (w'.setCell ⟨g, i * 2 + 1, none⟩ (.slice a3 n3 c3)) (cs.set (i * 2 + 1) (.slice a3 n3 c3)) (L.set i ⟨p.d, Q.ins p.a x⟩) :=
    PCp.put (Q := Pa B w2) hp rfl (KS _ P') (fun j t z hj ht hz => KS _ (World.ownsRow.kept (own_below hz B2) G' (by
      cases hb : t.ownBlock with
      | none => exact .inl rfl
      | some k => exact .inr (fun e => A2 j i t u k hj ht hu hb e.symm)))) C2
  exact ⟨a3, n3, c3, y, rfl, hy, m2 _, pl_of (B := B) (by simpa using OS) CS, (B2.mono hB).grown G' (by omega) (fun j hj => (World.ownsRow.lt hU j hj).1), hgB.1⟩

set_option maxHeartbeats 4000000 in
theorem pput_any (v : Value) (L : List Pt) (d x : Int) (w : World) (h : Pl w v L) (hf : Fits L) :
    Calls Try.prog 12 #[v, .int .i64 d, .int .i64 x] w fun e w' => PutEnd w L d x e w' := by
  have hL := hf.1
  obtain ⟨a, cap, rfl⟩ := h.form
  obtain ⟨mb, hmb⟩ : ∃ mb, Q.may L = mb := ⟨_, rfl⟩
  have HM := hide hmb
  clear hmb
  go_enter Try.func12, Try.ntmps12
  go_wp2_with fail
  refine (own_any _ _ _ h hf).mono ?_
  rintro e w1 ⟨v1, cs, rfl, O1, C1, A1, B1⟩
  have H1 := h.below B1
  obtain ⟨a1, c1, hv1⟩ : ∃ a1 c1, v1 = .slice a1 L.length c1 := by
    rcases own_form O1 with ⟨rfl, h0⟩ | ⟨g, cap, rfl, -⟩
    · exact ⟨none, 0, by rw [h0]⟩
    · exact ⟨_, _, rfl⟩
  subst hv1
  have HO1 := hide O1
  have HC1 := hide C1
  have HA1 := hide A1
  clear O1 C1 A1
  go_wp2_with fail
  refine (may_any _ _ _ H1).mono ?_
  rintro e w2 ⟨rfl, B2⟩
  rw [unhide HM]
  have M2 := mine_pl (unhide HO1) (unhide HC1) B2
  have BB := below_trans' B1 B2
  have finA : Q.argB L d x = false → PutEnd w L d x (.returned (.tuple #[.slice a1 L.length c1, .int .i64 1])) w2 := fun hh => by
    obtain ⟨e1, e2⟩ := Q.put_arg hh
    exact ⟨_, by rw [e2], by rw [e1]; exact M2, BB⟩
  have FA := hide finA
  clear finA
  cases mb with
  | false =>
    go_wp2
    exact bodyPost_ret (v := .tuple #[.slice a1 L.length c1, .int .i64 1]) (by simp [results, Try.results12, go_sem]) rfl (unhide FA (by simp [Q.argB, unhide HM]))
  | true =>
    by_cases h1 : d < 0
    · go_wp2
      exact bodyPost_ret (v := .tuple #[.slice a1 L.length c1, .int .i64 1]) (by simp [results, Try.results12, go_sem]) rfl (unhide FA (by simp [Q.argB]; omega))
    by_cases h2 : 64 ≤ d
    · go_wp2
      exact bodyPost_ret (v := .tuple #[.slice a1 L.length c1, .int .i64 1]) (by simp [results, Try.results12, go_sem]) rfl (unhide FA (by simp [Q.argB]; omega))
    by_cases h3 : x < 0
    · go_wp2
      exact bodyPost_ret (v := .tuple #[.slice a1 L.length c1, .int .i64 1]) (by simp [results, Try.results12, go_sem]) rfl (unhide FA (by simp [Q.argB]; omega))
    by_cases h4 : 120 ≤ x
    · go_wp2
      exact bodyPost_ret (v := .tuple #[.slice a1 L.length c1, .int .i64 1]) (by simp [results, Try.results12, go_sem]) rfl (unhide FA (by simp [Q.argB]; omega))
    have harg : Q.argB L d x = true := by
      simp only [Q.argB, unhide HM, Bool.true_and, Bool.and_eq_true, decide_eq_true_eq]
      omega
    have HG := hide harg
    obtain ⟨i, hi⟩ : ∃ i, Q.first L d = i := ⟨_, rfl⟩
    have hle := Q.first_le L d
    rw [hi] at hle
    have HI := hide hi
    clear hi harg
    go_wp2_with fail
    refine (first_any _ _ _ _ M2).mono ?_
    rintro e w3 ⟨rfl, rfl⟩
    rw [unhide HI]
    have O2 := own_below (unhide HO1) B2
    have C2 := (unhide HC1).turn (fun u z h => own_below h B2)
    have HN := hide (put_new_call d x O2 C2 BB.size hle hL)
    have HX := hide (@Q.putL_new L d x)
    have HPN := hide (@Q.put_new L d x (unhide HG))
    by_cases hlt : i < L.length
    · obtain ⟨g, hg⟩ : ∃ g, a1 = some ⟨g, 0, none⟩ := by
        rcases own_form O2 with ⟨h0, h00⟩ | ⟨g, cp, h0, -⟩
        · omega
        · simp at h0; exact ⟨g, h0.1⟩
      subst hg
      obtain ⟨p, hp⟩ : ∃ p, L[i]? = some p := ⟨L[i], List.getElem?_eq_getElem hlt⟩
      obtain ⟨u, k0, k1, hU⟩ := C2.at i p hp
      obtain ⟨m1, m2, m3, -⟩ := own_room O2
      have q0 := m3 _ _ k0
      have q1 := m3 _ _ k1
      have hpa := hf.2 p (List.mem_of_getElem? hp)
      have HPO := hide (put_old_call x O2 C2 (unhide HA1) BB.size hp k1 hU hpa)
      have SU := Pa.sl hU
      have hmay := (Q.arg_may (unhide HG)).1
      have hrise := Q.places_rise ((Q.may_all hmay p (List.mem_of_getElem? hp)).2)
      have HS := hide (search_any u p.a x 0 120 w3 SU (by omega) hrise)
      have HP := hide (show L[Q.first L d]? = some p by rw [unhide HI]; exact hp)
      have hne : ((i : Int) == (L.length : Int)) = false := by rw [beq_eq_false_iff_ne]; omega
      obtain ⟨y, hy⟩ : ∃ y, p.d = y := ⟨_, rfl⟩
      rw [hy] at q0
      have HY := hide hy
      obtain ⟨ua, uc, hu', -⟩ := id SU
      subst hu'
      clear O2 C2 k0 k1 hU m1 m2 m3 hp hmay hrise hy SU
      by_cases hyd : y = d
      · have hbx : (y == d) = true := by simpa using hyd
        have hbx2 : (y != d) = false := by simpa using hyd
        have HYD := hide hyd
        clear hyd
        obtain ⟨mm, hmm⟩ : ∃ mm, decide (x ∈ p.a) = mm := ⟨_, rfl⟩
        have HMM := hide hmm
        obtain ⟨kk, hkk⟩ : ∃ kk, Q.ahead p.a x = kk := ⟨_, rfl⟩
        have HKK := hide hkk
        clear hmm hkk
        have HPL := hide (Q.putL_old (x := x) (unhide HP) (by rw [unhide HY, unhide HYD]))
        go_wp2_with fail
        refine (unhide HS).mono ?_
        rintro e w4 ⟨rfl, rfl⟩
        rw [unhide HMM, unhide HKK]
        cases mm with
        | true =>
          go_wp2
          have hh := Q.put_there (unhide HG) (by rw [(unhide HPL).1, unhide HMM])
          exact bodyPost_ret (v := .tuple #[.slice (some ⟨g, 0, none⟩) L.length c1, .int .i64 3]) (by simp [results, Try.results12, go_sem]) rfl ⟨_, by rw [hh.2], by rw [hh.1]; exact M2, BB⟩
        | false =>
          have hh := unhide HPN (by rw [(unhide HPL).1, unhide HMM])
          have HH := hide hh
          have HCC := unhide HPO
          rw [unhide HKK] at HCC
          have HC2 := hide HCC
          clear hh HCC
          go_wp2_with fail
          refine (unhide HC2).mono ?_
          rintro e w5 ⟨a3, n3, c3, yy, rfl, f1, f2, f3, f4, f5⟩
          have HF3 := hide f3
          clear f3 q0 q1
          go_wp2
          refine bodyPost_ret (v := .tuple #[.slice (some ⟨g, 0, none⟩) L.length c1, .int .i64 0]) (by simp [results, Try.results12, go_sem]) rfl ⟨_, by rw [(unhide HH).2], ?_, ?_⟩
          · rw [(unhide HH).1, (unhide HPL).2, unhide HI, ← unhide HYD, ← unhide HY]
            exact unhide HF3
          · exact below_set (BB.trans f4) (by exact f5) _
      · have hbx : (y == d) = false := by simpa using hyd
        have hbx2 : (y != d) = true := by simpa using hyd
        have hh := unhide HX (by rw [Q.hasD_at (unhide HP), unhide HY]; simpa using hyd)
        have hh2 := unhide HPN hh.1
        have HH := hide (And.intro hh.2 hh2)
        clear hh hh2 hyd
        go_wp2_with fail
        refine (unhide HN).mono ?_
        rintro e w5 ⟨v5, rfl, f1, f2⟩
        obtain ⟨a5, n5, c5, h5⟩ : ∃ a5 n5 c5, v5 = .slice a5 n5 c5 := by
          obtain ⟨a5, c5, h5⟩ := f1.form
          exact ⟨_, _, _, h5⟩
        subst h5
        have HF1 := hide f1
        clear f1
        go_wp2
        exact bodyPost_ret (v := .tuple #[.slice a5 n5 c5, .int .i64 0]) (by simp [results, Try.results12, go_sem]) rfl ⟨_, by rw [(unhide HH).2.2], by rw [(unhide HH).2.1, (unhide HH).1, unhide HI]; exact unhide HF1, BB.trans f2⟩
    · have hie : i = L.length := by omega
      have heq : ((i : Int) == (L.length : Int)) = true := by rw [beq_iff_eq]; omega
      have hh := unhide HX (Q.hasD_end (by rw [unhide HI, hie]))
      have hh2 := unhide HPN hh.1
      have HH := hide (And.intro hh.2 hh2)
      clear hh hh2 O2 C2 hie hlt
      go_wp2_with fail
      refine (unhide HN).mono ?_
      rintro e w5 ⟨v5, rfl, f1, f2⟩
      obtain ⟨a5, n5, c5, h5⟩ : ∃ a5 n5 c5, v5 = .slice a5 n5 c5 := by
        obtain ⟨a5, c5, h5⟩ := f1.form
        exact ⟨_, _, _, h5⟩
      subst h5
      have HF1 := hide f1
      clear f1
      go_wp2
      exact bodyPost_ret (v := .tuple #[.slice a5 n5 c5, .int .i64 0]) (by simp [results, Try.results12, go_sem]) rfl ⟨_, by rw [(unhide HH).2.2], by rw [(unhide HH).2.1, (unhide HH).1, unhide HI]; exact unhide HF1, BB.trans f2⟩
end Go.Proofs.Ytjkaidlgooemoaa
