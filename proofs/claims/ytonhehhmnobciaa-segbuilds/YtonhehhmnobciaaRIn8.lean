/-
  The contract of the document's own In: cards put in order.
-/
import Derived.Test.YtonhehhmnobciaaKBase8
import Derived.Test.YtonhehhmnobciaaSmall8
import Derived.Test.YtonhehhmnobciaaMayAll8
import Derived.BigQuiet
namespace Go.Proofs.Ytonhehhmnobciaa
set_option maxRecDepth 100000
open Go.RowKit

/-- From an element on. -/
theorem Kl.drop {α : Type} {f : α → List Value} {k : Nat} {w : World} {b off n cap : Nat} {l : List α} (h : Kl f k w (.slice (some ⟨b, off, none⟩) n cap) l) (j : Nat) (hj : j ≤ l.length) : Kl f k w (.slice (some ⟨b, off + j * k, none⟩) (n - j) (cap - j)) (l.drop j) := by
  obtain ⟨a, c, hv, hl, hm, hn, hc⟩ := h
  simp only [Value.slice.injEq] at hv
  obtain ⟨rfl, rfl, rfl⟩ := hv
  refine ⟨_, _, by rw [List.length_drop], by rw [List.length_drop]; omega, by omega, (fun h => by cases h), fun x hx i y hi r u hu => ?_⟩
  obtain rfl := Option.some.inj hx
  rw [List.getElem?_drop] at hi
  have := hc _ rfl (j + i) y hi r u hu
  rw [Addr.add_lit] at this ⊢
  rw [show off + j * k + (i * k + r) = off + ((j + i) * k + r) by rw [Nat.add_mul]; omega]
  exact this

def Fm (v : Value) (n : Nat) : Prop := (v = .slice none 0 0 ∧ n = 0) ∨ ∃ g off cap, v = .slice (some ⟨g, off, none⟩) n cap
theorem Fm.of {w : World} {B : Nat} {e : TypeId} {k : Nat} {v : Value} {n : Nat} {xs : List Value} (h : w.ownsRow B e k v n xs) : Fm v n := by
  rcases h.2 with hn | ⟨g, cap, cur, rfl, _⟩
  · exact .inl hn
  · exact .inr ⟨g, 0, cap, rfl⟩
theorem Kl.zero {α : Type} {f : α → List Value} {k : Nat} {w : World} {a : Option Addr} {cap : Nat} (hc : cap ≤ maxLen) (hn : a = none → cap = 0) : Kl f k w (.slice a 0 cap) [] :=
  ⟨a, cap, rfl, Nat.zero_le _, hc, hn, fun x hx i y hi => by simp at hi⟩
theorem Cs.ps {w : World} {v : Value} {ps : List (Cd × Pts)} (h : Kl encC 3 w v ps) (hw : Ws w ps) : Cs w v (ps.map (·.1)) := ⟨ps, h, rfl, hw⟩

set_option linter.unusedSimpArgs false in
set_option maxRecDepth 100000 in
set_option maxHeartbeats 8000000 in
theorem in_any (v : Value) (L : List Cd) (w : World) (h : Cs w v L) (hll : L.length ≤ 1000) (hid : ∀ c ∈ L, c.id.size ≤ 1000) :
    Calls Try.prog 34 #[v] w fun e w' => ∃ v', e = .returned v' ∧ Cs w' v' (S.srt L) ∧ Below w.heap.size w w' := by
  obtain ⟨i0, hi, hz0, hz1, hz2⟩ := info_parts Try.infoC
  obtain ⟨rs, hK, hrs, hWs⟩ := h
  have hrl : rs.length = L.length := by rw [← hrs, List.length_map]
  have HH : Cs w v L := ⟨rs, hK, hrs, hWs⟩
  obtain ⟨a, cap, rfl, hl, hm, hna, -⟩ := HH.open
  have HRS := hide hrs
  have HID := hide hid
  clear hrs hid
  go_enter Try.func34, Try.ntmps34
  go_wp2
  go_loopw [3, 4] (fun ov iv wr => ∃ (i : Nat) (ps : List (Cd × Pts)), i ≤ L.length ∧ iv = .int .i64 i ∧ Hid (ps.map (·.1) = S.srt (L.take i)) ∧ ps.length ≤ i ∧ Hid (Fm ov ps.length) ∧ Kl encC 3 wr ov ps ∧ Ws wr ps ∧ Below w.heap.size w wr) (fun _ iv _ => L.length - (intOf iv).toNat)
  case atStart => exact ⟨0, [], Nat.zero_le _, rfl, rfl, Nat.zero_le _, hide (.inl ⟨rfl, rfl⟩), Kl.nil _ _ _, (fun p hp => by cases hp), Below.refl _ _⟩
  case round =>
    obtain ⟨i, ps, hi', rfl, HP, hpl, HFM, hKp, hWp, hbel⟩ := hrel
    by_cases hlt : i < L.length
    · obtain ⟨wo, hwo⟩ : ∃ wo, wo = wr := ⟨_, rfl⟩
      rw [← hwo] at hKp hWp hbel ⊢
      clear hwo
      obtain ⟨c, hx⟩ : ∃ c, rs[i]? = some c := ⟨rs[i], List.getElem?_eq_getElem (by omega)⟩
      have hLx : L[i]? = some c.1 := by rw [← unhide HRS, List.getElem?_map, hx]; rfl
      have HTS : Hid (S.srt (L.take (i + 1)) = S.ins (S.srt (L.take i)) c.1) := by
        show _ = _
        rw [take_snoc8 hLx]
        unfold S.srt
        rw [List.foldl_append]
        rfl
      have hwc := hWs c (List.mem_of_getElem? hx)
      have hidc := unhide HID c.1 (List.mem_of_getElem? hLx)
      obtain ⟨oa, oc, rfl, hol, hom, hon, -⟩ := hKp.open encC_len (by decide)
      have HX := hide hx
      have HIP : Hid (∀ q ∈ ps, q.1.id.size ≤ 1000) := hide (fun q hq => by
        have h1 : q.1 ∈ S.srt (L.take i) := by rw [← unhide HP]; exact List.mem_map.2 ⟨q, hq, rfl⟩
        exact unhide HID _ (List.mem_of_mem_take ((S.srt_perm _).subset h1)))
      clear hx hLx
      go_wp2
      go_loopw [5, 6] (fun nv kv wr => ∃ (k : Nat) (pre : List (Cd × Pts)), k ≤ ps.length ∧ kv = .int .i64 k ∧ Hid (pre = ps.take k) ∧ pre.length ≤ k ∧ Hid (∀ j q, j < k → ps[j]? = some q → S.before q.1 c.1 = true) ∧ wr.ownsRow wo.heap.size 25 3 nv pre.length (pre.flatMap encC) ∧ Below wo.heap.size wo wr) (fun _ kv _ => ps.length - (intOf kv).toNat)
      case atStart => exact ⟨0, [], Nat.zero_le _, rfl, rfl, Nat.zero_le _, hide (fun j q hj _ => by omega), World.ownsRow_nil _ _ _ _, Below.refl _ _⟩
      case round =>
        obtain ⟨k, pre, hk, rfl, HPR, hprl, HB, hown, hb2⟩ := hrel
        obtain ⟨a', c', hv', -, -, -, ho⟩ := (hK.below (below_trans' hbel hb2)).open encC_len (by decide)
        simp only [Value.slice.injEq] at hv'
        obtain ⟨rfl, -, rfl⟩ := hv'
        obtain ⟨b1, o1, rfl, hb1, hc1⟩ := ho (by omega)
        clear ho
        have d0 := hc1 i c (unhide HX) 0 _ rfl
        have d1 := hc1 i c (unhide HX) 1 _ rfl
        have d2 := hc1 i c (unhide HX) 2 _ rfl
        simp only [Nat.add_zero, ← Nat.add_assoc, sv] at d0 d1 d2
        have hbs := hb2.size
        clear hc1
        have fin : ∀ (hins : S.ins (S.srt (L.take i)) c.1 = (pre.map (·.1)) ++ c.1 :: (ps.drop k).map (·.1)), True := fun _ => trivial
        clear fin
        by_cases hkt : k < ps.length
        · obtain ⟨q, hq⟩ : ∃ q, ps[k]? = some q := ⟨ps[k], List.getElem?_eq_getElem hkt⟩
          obtain ⟨a', c', hv', -, -, -, ho⟩ := (hKp.below hb2).open encC_len (by decide)
          simp only [Value.slice.injEq, true_and] at hv'
          obtain ⟨rfl, rfl⟩ := hv'
          obtain ⟨b3, o3, rfl, hb3, hc3⟩ := ho (by omega)
          clear ho
          have e0 := hc3 k q hq 0 _ rfl
          have e1 := hc3 k q hq 1 _ rfl
          have e2 := hc3 k q hq 2 _ rfl
          simp only [Nat.add_zero, ← Nat.add_assoc, sv] at e0 e1 e2
          have hqid := unhide HIP q (List.mem_of_getElem? hq)
          have HQ := hide hq
          clear hc3 hq
          cases hbf : S.before q.1 c.1 with
          | true =>
            have HBF := hide hbf
            clear hbf
            have g0 : ∀ w', Below wr.heap.size wr w' → w'.cell? ⟨b3, o3 + k * 3, none⟩ = some (.string q.1.id) := fun w' hw' => cell_keep e0 hw'
            have g1 : ∀ w', Below wr.heap.size wr w' → w'.cell? ⟨b3, o3 + k * 3 + 1, none⟩ = some (.int .i64 q.1.key) := fun w' hw' => cell_keep e1 hw'
            have g2 : ∀ w', Below wr.heap.size wr w' → w'.cell? ⟨b3, o3 + k * 3 + 2, none⟩ = some (.slice q.2.1 q.2.2.1 q.2.2.2) := fun w' hw' => cell_keep e2 hw'
            have k0 : ∀ w', Below wr.heap.size wr w' → w'.cell? ⟨b1, o1 + i * 3, none⟩ = some (.string c.1.id) := fun w' hw' => cell_keep d0 hw'
            have k1 : ∀ w', Below wr.heap.size wr w' → w'.cell? ⟨b1, o1 + i * 3 + 1, none⟩ = some (.int .i64 c.1.key) := fun w' hw' => cell_keep d1 hw'
            have k2 : ∀ w', Below wr.heap.size wr w' → w'.cell? ⟨b1, o1 + i * 3 + 2, none⟩ = some (.slice c.2.1 c.2.2.1 c.2.2.2) := fun w' hw' => cell_keep d2 hw'
            have p1 : (k : Int) < (ps.length : Int) := by omega
            have p2 : (i : Int) < (L.length : Int) := by omega
            go_wp2
            refine region_below (by kernel_rfl) (by kernel_rfl) ?_
            repeat
              (first
                | go_big_quiet_skip
                | (go_big_quiet_want; go_big_quiet_op
                   first
                     | go_big_quiet_on
                     | (apply Exists.intro
                        refine ⟨fun w' hw' => ?_, ?_⟩
                        · first
                          | exact rfl
                          | (rw [g0 w' hw']; dsimp only [Result.andThen]; rw [g1 w' hw']; dsimp only [Result.andThen]; rw [g2 w' hw']; exact ⟨rfl, rfl⟩)
                          | (rw [k0 w' hw']; dsimp only [Result.andThen]; rw [k1 w' hw']; dsimp only [Result.andThen]; rw [k2 w' hw']; exact ⟨rfl, rfl⟩)
                          | (go_at_call 13; exact (rbefore_b q.1 c.1 _ _ _ _ _ _ _ (by unfold maxLen; omega) _ (unhide HBF)).mono fun e w'' ⟨h1, h2⟩ => ⟨h1, below_trans' hw' h2⟩)
                        go_big_quiet_on)))
            refine wpQuiet_nil ?_
            intro w4 hb4
            have B4 := below_trans' hb2 hb4
            have O4 := own_below hown hb4
            have hbs4 := B4.size
            replace d0 := cell_keep d0 hb4
            replace d1 := cell_keep d1 hb4
            replace d2 := cell_keep d2 hb4
            replace e0 := cell_keep e0 hb4
            replace e1 := cell_keep e1 hb4
            replace e2 := cell_keep e2 hb4
            clear g0 g1 g2 k0 k1 k2 hown
            go_wp2_with (at_builtin; refine append_oneF (f := encC) rfl _ _ 22 rfl Try.underlying22 hi hz0 hz1 hz2 rfl (by decide) encC_len encC_one (pre := pre) q rfl rfl rfl rfl O4 (by omega) (by omega) (by decide) ?_; intro g6 q6 w6 O6 g6' l6)
            have B6 : Below wo.heap.size wo w6 := B4.grown g6' hbs4 (fun j hj => (O4.lt j hj).1)
            clear g6' l6 O4
            go_roundw
            case rel =>
              refine ⟨k + 1, pre ++ [q], by omega, by go_num, ?_, by simp; omega, hide (fun j x hj hx => ?_), O6, B6⟩
              · show _ = _
                rw [take_snoc8 (unhide HQ), ← unhide HPR]
              · by_cases e : j = k
                · subst e
                  rw [unhide HQ] at hx
                  cases hx
                  exact unhide HBF
                · exact unhide HB j x (by omega) hx
            case measure => simp [intOf]; omega
          | false =>
            have HBF := hide hbf
            clear hbf
            have g0 : ∀ w', Below wr.heap.size wr w' → w'.cell? ⟨b3, o3 + k * 3, none⟩ = some (.string q.1.id) := fun w' hw' => cell_keep e0 hw'
            have g1 : ∀ w', Below wr.heap.size wr w' → w'.cell? ⟨b3, o3 + k * 3 + 1, none⟩ = some (.int .i64 q.1.key) := fun w' hw' => cell_keep e1 hw'
            have g2 : ∀ w', Below wr.heap.size wr w' → w'.cell? ⟨b3, o3 + k * 3 + 2, none⟩ = some (.slice q.2.1 q.2.2.1 q.2.2.2) := fun w' hw' => cell_keep e2 hw'
            have k0 : ∀ w', Below wr.heap.size wr w' → w'.cell? ⟨b1, o1 + i * 3, none⟩ = some (.string c.1.id) := fun w' hw' => cell_keep d0 hw'
            have k1 : ∀ w', Below wr.heap.size wr w' → w'.cell? ⟨b1, o1 + i * 3 + 1, none⟩ = some (.int .i64 c.1.key) := fun w' hw' => cell_keep d1 hw'
            have k2 : ∀ w', Below wr.heap.size wr w' → w'.cell? ⟨b1, o1 + i * 3 + 2, none⟩ = some (.slice c.2.1 c.2.2.1 c.2.2.2) := fun w' hw' => cell_keep d2 hw'
            have p1 : (k : Int) < (ps.length : Int) := by omega
            have p2 : (i : Int) < (L.length : Int) := by omega
            go_wp2
            refine region_below (by kernel_rfl) (by kernel_rfl) ?_
            repeat
              (first
                | go_big_quiet_skip
                | (go_big_quiet_want; go_big_quiet_op
                   first
                     | go_big_quiet_on
                     | (apply Exists.intro
                        refine ⟨fun w' hw' => ?_, ?_⟩
                        · first
                          | exact rfl
                          | (rw [g0 w' hw']; dsimp only [Result.andThen]; rw [g1 w' hw']; dsimp only [Result.andThen]; rw [g2 w' hw']; exact ⟨rfl, rfl⟩)
                          | (rw [k0 w' hw']; dsimp only [Result.andThen]; rw [k1 w' hw']; dsimp only [Result.andThen]; rw [k2 w' hw']; exact ⟨rfl, rfl⟩)
                          | (go_at_call 13; exact (rbefore_b q.1 c.1 _ _ _ _ _ _ _ (by unfold maxLen; omega) _ (unhide HBF)).mono fun e w'' ⟨h1, h2⟩ => ⟨h1, below_trans' hw' h2⟩)
                        go_big_quiet_on)))
            refine wpQuiet_nil ?_
            intro w4 hb4
            have B4 := below_trans' hb2 hb4
            have O4 := own_below hown hb4
            have hbs4 := B4.size
            replace d0 := cell_keep d0 hb4
            replace d1 := cell_keep d1 hb4
            replace d2 := cell_keep d2 hb4
            replace e0 := cell_keep e0 hb4
            replace e1 := cell_keep e1 hb4
            replace e2 := cell_keep e2 hb4
            clear g0 g1 g2 k0 k1 k2 hown
            go_wp2_with (first
              | (at_builtin; refine append_oneF (f := encC) rfl _ _ 22 rfl Try.underlying22 hi hz0 hz1 hz2 rfl (by decide) encC_len encC_one (pre := pre) c rfl rfl rfl rfl O4 (by omega) (by omega) (by decide) ?_; intro g6 q6 w6 O6 g6' l6; have B6 : Below wo.heap.size wo w6 := B4.grown g6' hbs4 (fun j hj => (O4.lt j hj).1); have K6 := (hKp.below B6).drop k (by omega); have b6 := B6.size)
              | (at_builtin; go_loud (refine append_allF (f := encC) rfl _ _ 22 rfl Try.underlying22 hi hz0 hz1 hz2 rfl (by decide) encC_len encC_one (pre := pre ++ [c]) (zs := (ps.drop k)) rfl rfl K6 O6 b6 (by have := List.length_drop (i := k) (l := ps); rw [List.length_append]; simp only [List.length_cons, List.length_nil]; omega) (by decide) ?_; intro v7 w7 O7 g7)))
            have B7 : Below wo.heap.size wo w7 := B6.grown g7 b6 (fun j hj => (O6.lt j hj).1)
            have K7 := Kl.owned encC_len (by decide) O7
            have FM7 := hide (Fm.of O7)
            have B8 := below_trans' hbel B7
            have W7 : Ws w7 ((pre ++ [c]) ++ (ps.drop k)) := fun p hp => by
              rcases List.mem_append.1 hp with hp | hp
              · rcases List.mem_append.1 hp with hp | hp
                · rw [unhide HPR] at hp
                  exact (hWp p (List.mem_of_mem_take hp)).below B7
                · simp only [List.mem_cons, List.not_mem_nil, or_false] at hp
                  subst hp
                  exact hwc.below B8
              · exact (hWp p (List.mem_of_mem_drop hp)).below B7
            have HF : Hid (((pre ++ [c]) ++ (ps.drop k)).map (·.1) = S.srt (L.take (i + 1))) := by
              show _ = _
              rw [unhide HTS, S.ins_at (k := k) (by rw [← unhide HP, List.length_map]; omega) (fun j x hj hx => by rw [← unhide HP, List.getElem?_map] at hx; obtain ⟨y, hy, rfl⟩ := Option.map_eq_some_iff.1 hx; exact unhide HB j y hj hy) (fun x hx => by rw [← unhide HP, List.getElem?_map, unhide HQ] at hx; cases hx; exact unhide HBF), unhide HPR, ← unhide HP]
              simp [List.map_take, List.map_drop]
            clear g6' l6 g7 O6 O7 K6
            go_roundw
            case rel => exact ⟨i + 1, (pre ++ [c]) ++ (ps.drop k), by omega, by go_num, HF, by have := unhide HPR; simp; omega, FM7, K7, W7, B8⟩
            case measure => simp [intOf]; omega
        · have p1 : ¬ (k : Int) < (ps.length : Int) := by omega
          have p2 : decide ((k : Int) < (ps.length : Int)) = false := by simp; omega
          have p3 : (i : Int) < (L.length : Int) := by omega
          go_wp2
          go_quiet (fail)
          have hb4 : Below wr.heap.size wr (wr.drewN nq) := below_dr (Below.refl _ _) nq
          obtain ⟨w4, hw4⟩ : ∃ w4, w4 = wr.drewN nq := ⟨_, rfl⟩
          rw [← hw4] at hb4 ⊢
          have B4 := below_trans' hb2 hb4
          have O4 := own_below hown hb4
          have hbs4 := B4.size
          replace d0 := cell_keep d0 hb4
          replace d1 := cell_keep d1 hb4
          replace d2 := cell_keep d2 hb4
          clear hown hw4 hb4
          rcases unhide HFM with ⟨hf1, hf2⟩ | ⟨g9, o9, c9, hf1⟩
          · simp only [Value.slice.injEq] at hf1
            obtain ⟨rfl, -, rfl⟩ := hf1
            have hk0 : k = 0 := by omega
            subst hk0
            have hps : ps = [] := List.eq_nil_of_length_eq_zero hf2
            subst hps
            clear hf2
            go_wp2_with (first
              | (at_builtin; refine append_oneF (f := encC) rfl _ _ 22 rfl Try.underlying22 hi hz0 hz1 hz2 rfl (by decide) encC_len encC_one (pre := pre) c rfl rfl rfl rfl O4 (by omega) (by omega) (by decide) ?_; intro g6 q6 w6 O6 g6' l6; have B6 : Below wo.heap.size wo w6 := B4.grown g6' hbs4 (fun j hj => (O4.lt j hj).1); have K6 := Kl.nil encC 3 w6; have b6 := B6.size)
              | (at_builtin; go_loud (refine append_allF (f := encC) rfl _ _ 22 rfl Try.underlying22 hi hz0 hz1 hz2 rfl (by decide) encC_len encC_one (pre := pre ++ [c]) (zs := ([] : List (Cd × Pts))) rfl rfl K6 O6 b6 (by rw [List.length_append]; simp only [List.length_cons, List.length_nil]; omega) (by decide) ?_; intro v7 w7 O7 g7)))
            have B7 : Below wo.heap.size wo w7 := B6.grown g7 b6 (fun j hj => (O6.lt j hj).1)
            have K7 := Kl.owned encC_len (by decide) O7
            have FM7 := hide (Fm.of O7)
            have B8 := below_trans' hbel B7
            have W7 : Ws w7 ((pre ++ [c]) ++ ([] : List (Cd × Pts))) := fun p hp => by
              rcases List.mem_append.1 hp with hp | hp
              · rcases List.mem_append.1 hp with hp | hp
                · rw [unhide HPR] at hp
                  exact (hWp p (List.mem_of_mem_take hp)).below B7
                · simp only [List.mem_cons, List.not_mem_nil, or_false] at hp
                  subst hp
                  exact hwc.below B8
              · cases hp
            have HF : Hid (((pre ++ [c]) ++ ([] : List (Cd × Pts))).map (·.1) = S.srt (L.take (i + 1))) := by
              show _ = _
              rw [unhide HTS, S.ins_at (k := 0) (by rw [← unhide HP, List.length_map]; omega) (fun j x hj hx => by rw [← unhide HP, List.getElem?_map] at hx; obtain ⟨y, hy, rfl⟩ := Option.map_eq_some_iff.1 hx; exact unhide HB j y hj hy) (fun x hx => by rw [← unhide HP, List.getElem?_map, List.getElem?_eq_none (by simp)] at hx; cases hx), unhide HPR, ← unhide HP]
              simp [List.map_take, List.map_drop]
            clear g6' l6 g7 O6 O7 K6
            go_roundw
            case rel => exact ⟨i + 1, (pre ++ [c]) ++ ([] : List (Cd × Pts)), by omega, by go_num, HF, by have := unhide HPR; simp; omega, FM7, K7, W7, B8⟩
            case measure => simp [intOf]; omega
          · simp only [Value.slice.injEq, true_and] at hf1
            obtain ⟨rfl, rfl⟩ := hf1
            obtain rfl : k = ps.length := by omega
            by_cases hoc : oc = ps.length
            · have hoc2 : oc - ps.length = 0 := by omega
              go_wp2_with (first
                | (at_builtin; refine append_oneF (f := encC) rfl _ _ 22 rfl Try.underlying22 hi hz0 hz1 hz2 rfl (by decide) encC_len encC_one (pre := pre) c rfl rfl rfl rfl O4 (by omega) (by omega) (by decide) ?_; intro g6 q6 w6 O6 g6' l6; have B6 : Below wo.heap.size wo w6 := B4.grown g6' hbs4 (fun j hj => (O4.lt j hj).1); have b6 := B6.size)
                | (at_builtin; go_loud (refine append_allF (f := encC) rfl _ _ 22 rfl Try.underlying22 hi hz0 hz1 hz2 rfl (by decide) encC_len encC_one (pre := pre ++ [c]) (zs := ([] : List (Cd × Pts))) rfl rfl (Kl.zero (by unfold maxLen; omega) (fun h => by cases h)) O6 b6 (by rw [List.length_append]; simp only [List.length_cons, List.length_nil]; omega) (by decide) ?_; intro v7 w7 O7 g7)))
              have B7 : Below wo.heap.size wo w7 := B6.grown g7 b6 (fun j hj => (O6.lt j hj).1)
              have K7 := Kl.owned encC_len (by decide) O7
              have FM7 := hide (Fm.of O7)
              have B8 := below_trans' hbel B7
              have W7 : Ws w7 ((pre ++ [c]) ++ ([] : List (Cd × Pts))) := fun p hp => by
                rcases List.mem_append.1 hp with hp | hp
                · rcases List.mem_append.1 hp with hp | hp
                  · rw [unhide HPR] at hp
                    exact (hWp p (List.mem_of_mem_take hp)).below B7
                  · simp only [List.mem_cons, List.not_mem_nil, or_false] at hp
                    subst hp
                    exact hwc.below B8
                · cases hp
              have HF : Hid (((pre ++ [c]) ++ ([] : List (Cd × Pts))).map (·.1) = S.srt (L.take (i + 1))) := by
                show _ = _
                rw [unhide HTS, S.ins_at (k := ps.length) (by rw [← unhide HP, List.length_map]; omega) (fun j x hj hx => by rw [← unhide HP, List.getElem?_map] at hx; obtain ⟨y, hy, rfl⟩ := Option.map_eq_some_iff.1 hx; exact unhide HB j y hj hy) (fun x hx => by rw [← unhide HP, List.getElem?_map, List.getElem?_eq_none (by simp)] at hx; cases hx), unhide HPR, ← unhide HP]
                have hdz : (ps.map (·.1)).drop ps.length = [] := List.drop_eq_nil_of_le (by simp)
                rw [List.take_of_length_le (by simp : (ps.map (·.1)).length ≤ ps.length)]
                simp [hdz]
              clear g6' l6 g7 O6 O7
              go_roundw
              case rel => exact ⟨i + 1, (pre ++ [c]) ++ ([] : List (Cd × Pts)), by omega, by go_num, HF, by have := unhide HPR; simp; omega, FM7, K7, W7, B8⟩
              case measure => simp [intOf]; omega
            · have hoc2 : ¬ oc - ps.length = 0 := by omega
              go_wp2_with (first
                | (at_builtin; refine append_oneF (f := encC) rfl _ _ 22 rfl Try.underlying22 hi hz0 hz1 hz2 rfl (by decide) encC_len encC_one (pre := pre) c rfl rfl rfl rfl O4 (by omega) (by omega) (by decide) ?_; intro g6 q6 w6 O6 g6' l6; have B6 : Below wo.heap.size wo w6 := B4.grown g6' hbs4 (fun j hj => (O4.lt j hj).1); have b6 := B6.size)
                | (at_builtin; go_loud (refine append_allF (f := encC) rfl _ _ 22 rfl Try.underlying22 hi hz0 hz1 hz2 rfl (by decide) encC_len encC_one (pre := pre ++ [c]) (zs := ([] : List (Cd × Pts))) rfl rfl (Kl.zero (by unfold maxLen; omega) (fun h => by cases h)) O6 b6 (by rw [List.length_append]; simp only [List.length_cons, List.length_nil]; omega) (by decide) ?_; intro v7 w7 O7 g7)))
              have B7 : Below wo.heap.size wo w7 := B6.grown g7 b6 (fun j hj => (O6.lt j hj).1)
              have K7 := Kl.owned encC_len (by decide) O7
              have FM7 := hide (Fm.of O7)
              have B8 := below_trans' hbel B7
              have W7 : Ws w7 ((pre ++ [c]) ++ ([] : List (Cd × Pts))) := fun p hp => by
                rcases List.mem_append.1 hp with hp | hp
                · rcases List.mem_append.1 hp with hp | hp
                  · rw [unhide HPR] at hp
                    exact (hWp p (List.mem_of_mem_take hp)).below B7
                  · simp only [List.mem_cons, List.not_mem_nil, or_false] at hp
                    subst hp
                    exact hwc.below B8
                · cases hp
              have HF : Hid (((pre ++ [c]) ++ ([] : List (Cd × Pts))).map (·.1) = S.srt (L.take (i + 1))) := by
                show _ = _
                rw [unhide HTS, S.ins_at (k := ps.length) (by rw [← unhide HP, List.length_map]; omega) (fun j x hj hx => by rw [← unhide HP, List.getElem?_map] at hx; obtain ⟨y, hy, rfl⟩ := Option.map_eq_some_iff.1 hx; exact unhide HB j y hj hy) (fun x hx => by rw [← unhide HP, List.getElem?_map, List.getElem?_eq_none (by simp)] at hx; cases hx), unhide HPR, ← unhide HP]
                have hdz : (ps.map (·.1)).drop ps.length = [] := List.drop_eq_nil_of_le (by simp)
                rw [List.take_of_length_le (by simp : (ps.map (·.1)).length ≤ ps.length)]
                simp [hdz]
              clear g6' l6 g7 O6 O7
              go_roundw
              case rel => exact ⟨i + 1, (pre ++ [c]) ++ ([] : List (Cd × Pts)), by omega, by go_num, HF, by have := unhide HPR; simp; omega, FM7, K7, W7, B8⟩
              case measure => simp [intOf]; omega
    · have HF : Hid (ps.map (·.1) = S.srt L) := by
        show _ = _
        rw [unhide HP, List.take_of_length_le (by omega)]
      have C9 := Cs.ps hKp hWp
      rw [unhide HF] at C9
      go_wp2
      go_ret
      exact ⟨_, rfl, C9, hbel⟩
end Go.Proofs.Ytonhehhmnobciaa
