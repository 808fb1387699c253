/-
  What comes in: a segment, with how many words there may be; four bytes.
-/
import Derived.Test.YtnahjaloodeicaaGreatM19
import Derived.SizedLaws
namespace Go.Proofs.YtnahjaloodeicaaGreat
set_option maxRecDepth 100000
open Go.RowKit Go.Deep Go.ChangeShapes Go.WideShapes Go.ChangeAt

section
variable {H : Type} {enc : TypeId × Value → H} {w : World} {base : Nat} {sp : Nat → Bool} {held : Bool} {n : Nat} {y : DataW H × List MemPlace}

theorem tr_termsT {v : Value} (h : DataW.trod enc Tryz.prog w base sp held n 28 [v] = some y) : ∃ L, Ts w v L ∧ ((∃ es s', y.1 = .slice es s' ∧ L.length = es.length) ∨ L = []) := by
  rcases open_slice Tryz.underlying28 h with ⟨hcs, _⟩ | ⟨x, l, c, m, k, D, Pl', hcs, _, hl, hm, hmm, hy, hx⟩
  · simp at hcs
    subst hcs
    exact ⟨[], Ts.nil _, .inr rfl⟩
  · simp at hcs
    subst hcs
    have hc : Tryz.prog.cellsOf 69 = 2 := by kernel_rfl
    have hlm : l ≤ m := by rw [hmm]; split <;> omega
    obtain ⟨ps, hL, hp⟩ := list_ofG (P := fun i (p : Tm × Pts) => (∀ j u, (encT p)[j]? = some u → w.cell? (x.add (i * 2 + j)) = some u) ∧ Pl w (sv p.2) p.1.p) l (fun i hi => by
      obtain ⟨cs', h1, h2⟩ := hx i (by omega)
      rw [hc] at h1
      obtain ⟨_, hlen, hcell⟩ := World.cells?_some h1
      obtain ⟨p, rfl, hw⟩ := tr_term h2
      refine ⟨p, fun j u hu => ?_, hw⟩
      have hj := (List.getElem?_eq_some_iff.1 hu).1
      have e0 := hcell j (by omega)
      rw [add_add, hu] at e0
      exact e0)
    refine ⟨ps.map (·.1), ⟨ps, ⟨some x, c, by rw [hL], by omega, hm, (fun h => by cases h), fun q hq i p hi j u hu => ?_⟩, rfl, fun p hpm => ?_⟩, .inl ⟨_, _, by rw [hy], by simp [hL]⟩⟩
    · obtain rfl := Option.some.inj hq
      exact (hp i p hi).1 j u hu
    · obtain ⟨i, hi, rfl⟩ := List.getElem_of_mem hpm
      exact (hp i _ (List.getElem?_eq_getElem hi)).2

theorem open_segT {r : Reach} {b0 : Nat} {v : Value} {d : DataW H} {p : List MemPlace} (hv : Value.okWide Tryz.prog w r b0 30 v) (h : DataW.Trod enc Tryz.prog w base sp held 30 v d p) :
    ∃ (ia ka lna ta : Option Addr) (ic kc lnc tc : Nat) (s : Sg) (so : Bool), v = .agg #[.slice ia s.ids.length ic, .slice ka s.keys.length kc, .slice lna s.lens.length lnc, .slice ta s.ts.length tc, .bool so] ∧ Sv w (.slice ia s.ids.length ic) (.slice ka s.keys.length kc) (.slice lna s.lens.length lnc) (.slice ta s.ts.length tc) s ∧ (∀ x ∈ s.ids, x.size ≤ maxLen) ∧ ∃ parts, d = .agg parts ∧ ((∃ es s', parts[3]? = some (.slice es s') ∧ s.ts.length = es.length) ∨ s.ts = []) := by
  obtain ⟨cs, rfl, hsz⟩ := okWide_struct Tryz.underlying30 hv
  have hc : Tryz.prog.cellsOf 30 = 5 := by kernel_rfl
  obtain ⟨c0, c1, c2, c3, c4, rfl⟩ := array5 (hsz.trans hc)
  obtain ⟨fuel, hf⟩ := h
  obtain ⟨xs, n, _, hxx, hl, hlen, hg⟩ := DataW.trod_struct Tryz.underlying30 hf
  have h1 : Tryz.prog.cellsOf 26 = 1 := by kernel_rfl
  have h2 : Tryz.prog.cellsOf 27 = 1 := by kernel_rfl
  have h3 : Tryz.prog.cellsOf 28 = 1 := by kernel_rfl
  have h4 : Tryz.prog.cellsOf 4 = 1 := by kernel_rfl
  match xs, hlen with
  | [y0, y1, y2, y3, y4], _ =>
    have g0 := hg 0 _ rfl
    have g1 := hg 1 _ rfl
    have g2 := hg 2 _ rfl
    have g3 := hg 3 _ rfl
    have g4 := hg 4 _ rfl
    simp [Value.cells, h1, h2, h3, h4] at g0 g1 g2 g3 g4
    obtain ⟨⟨a0, b0', e0⟩, ids, rfl, G0, hs0⟩ := tr_texts9 g0
    obtain ⟨keys, G1⟩ := tr_ints g1
    obtain ⟨lens, G2⟩ := tr_ints g2
    obtain ⟨ts, G3, hts⟩ := tr_termsT g3
    obtain ⟨b, e4, _⟩ := DataW.trod_bool Tryz.underlying4 g4
    simp at e4
    subst e4
    obtain ⟨ia, ic, hv0, -⟩ := id G0
    obtain ⟨ka, kc, rfl, -⟩ := id G1
    obtain ⟨la, lc, rfl, -⟩ := id G2
    obtain ⟨ta, tc, rfl, -⟩ := G3.open
    rw [hv0] at G0 ⊢
    refine ⟨ia, ka, la, ta, ic, kc, lc, tc, ⟨ids, keys, lens, ts⟩, b, rfl, ⟨G0, G1, G2, G3⟩, hs0, _, (Prod.mk.inj hxx).1, ?_⟩
    rcases hts with ⟨es, s', e1, e2⟩ | e1
    · exact .inl ⟨es, s', by simp [e1], e2⟩
    · exact .inr e1
theorem seg_len {ts : List TypeId} {ds : List (DataW H)} (hsz : (DataW.weightsEach Tryz.prog ts ds).all (· ≤ reachBytes) = true) (ht : ts[0]? = some 30) {d : DataW H} (hd : ds[0]? = some d) {L : List Tm} {parts : List (DataW H)} (hp : d = .agg parts) (h : (∃ es s', parts[3]? = some (.slice es s') ∧ L.length = es.length) ∨ L = []) : L.length ≤ 3518437208780 := by
  rcases h with ⟨es, s', h3, hl⟩ | rfl
  · subst hp
    have h1 : (es.length + s'.length) * Tryz.prog.bytesOf 69 ∈ (DataW.slice es s').weights Tryz.prog 28 := by simp [DataW.weights, Tryz.underlying28]
    have h2 : (es.length + s'.length) * Tryz.prog.bytesOf 69 ∈ (DataW.agg parts).weights Tryz.prog 30 := by
      rw [DataW.weights, Tryz.underlying30]
      exact DataW.weights_mem_each (j := 3) rfl h3 _ h1
    have := List.all_eq_true.1 hsz _ (DataW.weights_mem_each ht hd _ h2)
    rw [show Tryz.prog.bytesOf 69 = 40 by kernel_rfl] at this
    have h9 : reachBytes = 140737488351232 := by decide
    simp only [decide_eq_true_eq] at this
    omega
  · exact Nat.zero_le _
end

end Go.Proofs.YtnahjaloodeicaaGreat
